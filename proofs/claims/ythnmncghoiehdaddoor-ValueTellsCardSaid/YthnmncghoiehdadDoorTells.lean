/- What two numbers come to, whether something is so of them, and values as texts: the layer's answers and the document's. -/
import Derived.Test.YthnmncghoiehdadDoorRefs
import Derived.Test.YthnmncghoiehdadDoorNums
import Derived.Shelf.Strconv.Itoa4
namespace Go.Proofs.YthnmncghoiehdadDoor
open Go.ChangeShapes Go.WideShapes Go.ChangeAt Go.RowKit

def opAdd : ByteArray := ⟨#[43]⟩
def opSub : ByteArray := ⟨#[45]⟩
def opMul : ByteArray := ⟨#[42]⟩
def opQuo : ByteArray := ⟨#[47]⟩
def opEql : ByteArray := ⟨#[61]⟩
def opLss : ByteArray := ⟨#[60]⟩

/-- What an op comes to, and its error. -/
def numV (op : ByteArray) (a b : Int) : Int := if op = opAdd then wrap64 (a + b) else if op = opSub then wrap64 (a - b) else if op = opMul then wrap64 (a * b) else if op = opQuo ∧ b ≠ 0 then wrap64 (a.tdiv b) else 0
def numE (op : ByteArray) (b : Int) : Int := if op = opAdd ∨ op = opSub ∨ op = opMul then 0 else if op = opQuo then (if b = 0 then 11 else 0) else 2
def testV (op : ByteArray) (a b : Int) : Bool := if op = opEql then a == b else if op = opLss then decide (a < b) else false
def testE (op : ByteArray) : Int := if op = opEql ∨ op = opLss then 0 else 2

theorem bytes_ne {s : ByteArray} {l : List UInt8} (h : s ≠ ⟨l.toArray⟩) : (s.toList == l) = false := by
  rw [beq_eq_false_iff_ne]; intro e; apply h; rw [Lib.toList_data] at e; exact bs_eq e
theorem bytes_ne' {s : ByteArray} {l : List UInt8} (h : s ≠ ⟨l.toArray⟩) : (s == ⟨l.toArray⟩) = false := by
  cases e : (s == ⟨l.toArray⟩ : Bool)
  · rfl
  · exact absurd ((MapKept.bytes_beq _ _).1 e) h

theorem lookNone (M E : TypeId) (z : Value) (hM : Tryd.prog.underlying M = some (.map 9 E)) (hz : ∀ w, (zeroValue E).run Tryd.prog w = .ok z w) (w : World) (es : Array MapEntry) (c : Nat) (k : ByteArray) (hf : Instr.findNow .string (.string k) es.toList 0 = some none) :
    (Instr.lookup M (.map (some w.heap.size)) (.string k) true).run Tryd.prog (w.alloc (.map es c)) = .ok (.tuple #[z, .bool false]) (w.alloc (.map es c)) := by
  have hg := MapKept.run_getObj_map (P := Tryd.prog) (heap_alloc w (.map es c))
  simp [Instr.lookup, run_underlying hM, hg, check_string 9 Tryd.underlying9, Instr.findKey, run_underlying Tryd.underlying9, hf, hz, Result.andThen]

theorem find_none (op : ByteArray) (h1 : op ≠ opAdd) (h2 : op ≠ opSub) (h3 : op ≠ opMul) (h4 : op ≠ opQuo) : Instr.findNow .string (.string op) numEs.toList 0 = some none := by
  have e1 := bytes_ne' h1
  have e2 := bytes_ne' h2
  have e3 := bytes_ne' h3
  have e4 := bytes_ne' h4
  simp [numEs, Instr.findNow, Instr.sameNow, e1, e2, e3, e4]

theorem num_none (op : ByteArray) (a b : Int) (h1 : op ≠ opAdd) (h2 : op ≠ opSub) (h3 : op ≠ opMul) (h4 : op ≠ opQuo) (w : World) : Calls Tryd.prog 5 #[.string op, .int .i64 a, .int .i64 b] w fun e w' => e = .returned (.tuple #[.int .i64 0, .int .i64 2]) ∧ numsIn w = w' := by
  have hl : (Instr.lookup 37 (.map (some w.heap.size)) (.string op) true).run Tryd.prog (numsIn w) = .ok (.tuple #[.nilFunc, .bool false]) (numsIn w) := lookNone 37 35 .nilFunc Tryd.underlying37 Tryd.zeroValue35 w numEs 4 op (find_none op h1 h2 h3 h4)
  clear h1 h2 h3 h4
  go_enter Tryd.func5, Tryd.ntmps5
  go_wp2_with (first | (go_at_call 16; refine (nums_any _).mono ?_; rintro e w' ⟨rfl, rfl⟩))
  go_ret2
  exact ⟨rfl, rfl⟩

theorem num_all (op : ByteArray) (a b : Int) (w : World) : Calls Tryd.prog 5 #[.string op, .int .i64 a, .int .i64 b] w fun e w' => e = .returned (.tuple #[.int .i64 (numV op a b), .int .i64 (numE op b)]) ∧ numsIn w = w' := by
  by_cases h1 : op = opAdd
  · subst h1; exact num_add a b w
  by_cases h2 : op = opSub
  · subst h2; exact num_sub a b w
  by_cases h3 : op = opMul
  · subst h3; exact num_mul a b w
  by_cases h4 : op = opQuo
  · subst h4
    by_cases h5 : b = 0
    · subst h5; exact num_zero a w
    · have e1 : numV opQuo a b = wrap64 (a.tdiv b) := by unfold numV; rw [if_neg h1, if_neg h2, if_neg h3, if_pos ⟨rfl, h5⟩]
      have e2 : numE opQuo b = 0 := by unfold numE; rw [if_neg (by simp [h1, h2, h3]), if_pos rfl, if_neg h5]
      rw [e1, e2]; exact num_quo a b h5 w
  · have e1 : numV op a b = 0 := by unfold numV; rw [if_neg h1, if_neg h2, if_neg h3, if_neg (by simp [h4])]
    have e2 : numE op b = 2 := by unfold numE; rw [if_neg (by simp [h1, h2, h3]), if_neg h4]
    rw [e1, e2]; exact num_none op a b h1 h2 h3 h4 w

theorem findT_none (op : ByteArray) (h1 : op ≠ opEql) (h2 : op ≠ opLss) : Instr.findNow .string (.string op) testEs.toList 0 = some none := by
  have e1 := bytes_ne' h1
  have e2 := bytes_ne' h2
  simp [testEs, Instr.findNow, Instr.sameNow, e1, e2]

theorem test_none (op : ByteArray) (a b : Int) (h1 : op ≠ opEql) (h2 : op ≠ opLss) (w : World) : Calls Tryd.prog 7 #[.string op, .int .i64 a, .int .i64 b] w fun e w' => e = .returned (.tuple #[.bool false, .int .i64 2]) ∧ testsIn w = w' := by
  have hl : (Instr.lookup 41 (.map (some w.heap.size)) (.string op) true).run Tryd.prog (testsIn w) = .ok (.tuple #[.nilFunc, .bool false]) (testsIn w) := lookNone 41 39 .nilFunc Tryd.underlying41 Tryd.zeroValue39 w testEs 2 op (findT_none op h1 h2)
  clear h1 h2
  go_enter Tryd.func7, Tryd.ntmps7
  go_wp2_with (first | (go_at_call 17; refine (tests_any _).mono ?_; rintro e w' ⟨rfl, rfl⟩))
  go_ret2
  exact ⟨rfl, rfl⟩

theorem test_all (op : ByteArray) (a b : Int) (w : World) : Calls Tryd.prog 7 #[.string op, .int .i64 a, .int .i64 b] w fun e w' => e = .returned (.tuple #[.bool (testV op a b), .int .i64 (testE op)]) ∧ testsIn w = w' := by
  by_cases h1 : op = opEql
  · subst h1; exact test_eql a b w
  by_cases h2 : op = opLss
  · subst h2; exact test_lss a b w
  · have e1 : testV op a b = false := by unfold testV; rw [if_neg h1, if_neg h2]
    have e2 : testE op = 2 := by unfold testE; rw [if_neg (by simp [h1, h2])]
    rw [e1, e2]; exact test_none op a b h1 h2 w

theorem refNum_all (op : ByteArray) (a b : Int) (w : World) : Calls Tryd.prog 6 #[.string op, .int .i64 a, .int .i64 b] w fun e w' => e = .returned (.tuple #[.int .i64 (numV op a b), .int .i64 (numE op b)]) ∧ w = w' := by
  by_cases h1 : op = opAdd
  · subst h1
    show Calls _ 6 #[.string ⟨#[43]⟩, .int .i64 a, .int .i64 b] w _
    go_enter Tryd.func6, Tryd.ntmps6
    go_wp2
    go_ret2
    exact ⟨rfl, rfl⟩
  by_cases h2 : op = opSub
  · subst h2
    show Calls _ 6 #[.string ⟨#[45]⟩, .int .i64 a, .int .i64 b] w _
    go_enter Tryd.func6, Tryd.ntmps6
    go_wp2
    go_ret2
    exact ⟨rfl, rfl⟩
  by_cases h3 : op = opMul
  · subst h3
    show Calls _ 6 #[.string ⟨#[42]⟩, .int .i64 a, .int .i64 b] w _
    go_enter Tryd.func6, Tryd.ntmps6
    go_wp2
    go_ret2
    exact ⟨rfl, rfl⟩
  by_cases h4 : op = opQuo
  · subst h4
    by_cases h5 : b = 0
    · subst h5
      show Calls _ 6 #[.string ⟨#[47]⟩, .int .i64 a, .int .i64 0] w _
      go_enter Tryd.func6, Tryd.ntmps6
      go_wp2
      go_ret2
      exact ⟨rfl, rfl⟩
    · have e1 : numV opQuo a b = wrap64 (a.tdiv b) := by unfold numV; rw [if_neg h1, if_neg h2, if_neg h3, if_pos ⟨rfl, h5⟩]
      have e2 : numE opQuo b = 0 := by unfold numE; rw [if_neg (by simp [h1, h2, h3]), if_pos rfl, if_neg h5]
      rw [e1, e2]
      clear h1 h2 h3 e1 e2
      have t1 : (b == 0) = false := beq_eq_false_iff_ne.2 h5
      by_cases h6 : b = -1
      · subst h6
        have e3 : wrap64 (a.tdiv (-1)) = wrap64 (-a) := by rw [Int.tdiv_neg, Int.tdiv_one]
        have E3 := Lib.hid e3
        clear e3 h5
        show Calls _ 6 #[.string ⟨#[47]⟩, .int .i64 a, .int .i64 (-1)] w _
        go_enter Tryd.func6, Tryd.ntmps6
        go_wp2
        go_ret2
        exact ⟨by rw [E3.out]; rfl, rfl⟩
      · have t2 : (b == -1) = false := beq_eq_false_iff_ne.2 h6
        show Calls _ 6 #[.string ⟨#[47]⟩, .int .i64 a, .int .i64 b] w _
        go_enter Tryd.func6, Tryd.ntmps6
        go_wp2
        go_ret2
        exact ⟨rfl, rfl⟩
  · have e1 : numV op a b = 0 := by unfold numV; rw [if_neg h1, if_neg h2, if_neg h3, if_neg (by simp [h4])]
    have e2 : numE op b = 2 := by unfold numE; rw [if_neg (by simp [h1, h2, h3]), if_neg h4]
    rw [e1, e2]
    have t1 := bytes_ne h1
    have t2 := bytes_ne h2
    have t3 := bytes_ne h3
    have t4 := bytes_ne h4
    clear h1 h2 h3 h4 e1 e2
    go_enter Tryd.func6, Tryd.ntmps6
    go_wp2
    go_ret2
    exact ⟨rfl, rfl⟩

theorem refTest_all (op : ByteArray) (a b : Int) (w : World) : Calls Tryd.prog 8 #[.string op, .int .i64 a, .int .i64 b] w fun e w' => e = .returned (.tuple #[.bool (testV op a b), .int .i64 (testE op)]) ∧ w = w' := by
  by_cases h1 : op = opEql
  · subst h1
    show Calls _ 8 #[.string ⟨#[61]⟩, .int .i64 a, .int .i64 b] w _
    go_enter Tryd.func8, Tryd.ntmps8
    go_wp2
    go_ret2
    exact ⟨rfl, rfl⟩
  by_cases h2 : op = opLss
  · subst h2
    show Calls _ 8 #[.string ⟨#[60]⟩, .int .i64 a, .int .i64 b] w _
    go_enter Tryd.func8, Tryd.ntmps8
    go_wp2
    go_ret2
    exact ⟨rfl, rfl⟩
  · have e1 : testV op a b = false := by unfold testV; rw [if_neg h1, if_neg h2]
    have e2 : testE op = 2 := by unfold testE; rw [if_neg (by simp [h1, h2])]
    rw [e1, e2]
    have t1 := bytes_ne h1
    have t2 := bytes_ne h2
    clear h1 h2 e1 e2
    go_enter Tryd.func8, Tryd.ntmps8
    go_wp2
    go_ret2
    exact ⟨rfl, rfl⟩

/-- A bool as a text. -/
def boolT (b : Bool) : ByteArray := if b = true then ⟨#[116, 114, 117, 101]⟩ else ⟨#[102, 97, 108, 115, 101]⟩
theorem bool_any (b : Bool) (w : World) : Calls Tryd.prog 11 #[.bool b] w fun e w' => e = .returned (.string (boolT b)) ∧ w = w' := by
  cases b
  all_goals
    go_enter Tryd.func11, Tryd.ntmps11
    go_wp2
    go_ret
    exact ⟨rfl, rfl⟩
theorem refBool_any (b : Bool) (w : World) : Calls Tryd.prog 12 #[.bool b] w fun e w' => e = .returned (.string (boolT b)) ∧ w = w' := by
  cases b
  all_goals
    go_enter Tryd.func12, Tryd.ntmps12
    go_wp2
    go_ret
    exact ⟨rfl, rfl⟩

theorem text_any (s : ByteArray) (w : World) (hs : s.size ≤ 1000000) :
    Calls Tryd.prog 13 #[.string s] w fun e w' => e = .returned (.string ⟨(quoteL s.data.toList).toArray⟩) ∧ Below w.heap.size w w' := by
  go_enter Tryd.func13, Tryd.ntmps13
  go_wp2_with (go_at_call 21; refine (str_any s _ hs).mono ?_; rintro e w' ⟨rfl, hB⟩)
  go_ret
  exact ⟨rfl, hB⟩

/-- A pair's text. -/
def pairT (a b : ByteArray) : ByteArray := ⟨#[40]⟩ ++ a ++ ⟨#[44, 32]⟩ ++ b ++ ⟨#[41]⟩
theorem pair_any (a b : ByteArray) (w : World) (ha : a.size ≤ 140737488355328) (hb : b.size ≤ 140737488355328) :
    Calls Tryd.prog 15 #[.string a, .string b] w fun e w' => e = .returned (.string (pairT a b)) ∧ w = w' := by
  go_enter Tryd.func15, Tryd.ntmps15
  go_wp2
  go_ret
  exact ⟨rfl, rfl⟩

theorem below_grow (w : World) (k : Nat) (os : Array Obj) : Below w.heap.size w (Sort.grow (w.drewN k) os) := by
  refine ⟨rfl, rfl, rfl, ?_, fun i hi => ?_⟩
  · show w.heap.size ≤ (w.heap ++ os).size
    simp
  · show (w.heap ++ os)[i]? = w.heap[i]?
    rw [Array.getElem?_append, if_pos hi]

theorem int_any (n : Int) (w : World) (h0 : -9223372036854775808 ≤ n) (h1 : n ≤ 9223372036854775807) (htab : Lib.TabIs Tryd.prog w "internal/strconv.uint64pow10" .u64 Lib.pow10Tab) :
    Calls Tryd.prog 9 #[.int .i64 n] w fun e w' => e = .returned (.string ⟨(Lib.itoa n).toArray⟩) ∧ Below w.heap.size w w' := by
  have c := Tryd.strconv_FormatInt_10 n h0 h1 w htab
  have C := Lib.hid c
  clear c
  go_enter Tryd.func9, Tryd.ntmps9
  go_wp2_with (go_at_call 18; refine C.out.mono ?_; rintro e w' ⟨rfl, k, os, rfl⟩)
  go_ret
  exact ⟨rfl, below_grow w k os⟩

theorem itoa_nonneg (n : Int) (h : 0 ≤ n) : Lib.decDigits n.toNat = Lib.itoa n := by unfold Lib.itoa; rw [if_neg (by omega)]
theorem itoa_one (n : Int) (h : n < 0) (h' : -10 < n) : 45 :: Lib.decDigits (-n).toNat = Lib.itoa n := by
  unfold Lib.itoa; rw [if_pos h, show (-n).toNat = n.natAbs from by omega]
theorem itoa_more (n : Int) (h : n ≤ -10) : Lib.itoa (n.tdiv 10) ++ Lib.decDigits (-(n.tmod 10)).toNat = Lib.itoa n := by
  have h1 : (n.tdiv 10).natAbs = n.natAbs / 10 := Int.natAbs_tdiv n 10
  have h2 : (-(n.tmod 10)).toNat = n.natAbs % 10 := by
    have a := Int.natAbs_tmod n 10
    have b : n.tmod 10 ≤ 0 := by
      have := Int.tmod_nonneg (a := -n) 10 (by omega)
      rw [Int.neg_tmod] at this; omega
    have c : (10 : Int).natAbs = 10 := rfl
    rw [c] at a
    omega
  have h3 : n.tdiv 10 < 0 := by
    have := Int.mul_tdiv_add_tmod n 10
    have b := Int.natAbs_tmod n 10
    have c : (10 : Int).natAbs = 10 := rfl
    rw [c] at b
    omega
  rw [h2]
  unfold Lib.itoa
  rw [if_pos h3, if_pos (by omega), h1, Lib.decDigits.eq_def n.natAbs, dif_neg (by omega), Lib.decDigits_one (i := n.natAbs % 10) (by omega)]
  rfl

theorem refInt_any (k : Nat) : ∀ (n : Int) (w : World), -9223372036854775808 ≤ n → n ≤ 9223372036854775807 → n.natAbs < k →
    Calls Tryd.prog 10 #[.int .i64 n] w fun e w' => e = .returned (.string ⟨(Lib.itoa n).toArray⟩) ∧ Below w.heap.size w w' := by
  induction k with
  | zero => intro n w _ _ h; omega
  | succ k ih =>
    intro n w h0 h1 hk
    by_cases hn : 0 ≤ n
    · have hi := itoa_nonneg n hn
      have HI := Lib.hid hi
      have D := Lib.hid (digits_any (n.toNat + 1) n w hn h1 (by omega))
      clear hi ih hk
      go_enter Tryd.func10, Tryd.ntmps10
      go_wp2_with (go_at_call 19; refine D.out.mono ?_; rintro e w' ⟨rfl, hB⟩)
      go_ret
      exact ⟨by rw [← HI.out]; rfl, hB⟩
    · by_cases hm : -10 < n
      · have hi := itoa_one n (by omega) hm
        have HI := Lib.hid hi
        have D := Lib.hid (digits_any ((-n).toNat + 1) (-n) w (by omega) (by omega) (by omega))
        have hl := dec_le (-n).toNat
        have e1 : n.tmod 10 = n := by
          have := Int.neg_tmod (-n) 10
          rw [Int.neg_neg] at this
          rw [this, Int.tmod_eq_emod_of_nonneg (by omega)]
          omega
        clear hi ih hk
        go_enter Tryd.func10, Tryd.ntmps10
        go_wp2_with (go_at_call 19; refine D.out.mono ?_; rintro e w' ⟨rfl, hB⟩)
        go_ret
        exact ⟨ret_str (by rw [app_data, ← HI.out]; rfl), hB⟩
      · have hi := itoa_more n (by omega)
        have hl1 : (Lib.itoa (n.tdiv 10)).length ≤ 1000000000000000002 := by
          have h1 : (n.tdiv 10).natAbs = n.natAbs / 10 := Int.natAbs_tdiv n 10
          have h2 := dec_le (n.tdiv 10).natAbs
          have h3 := dec_le (n.tdiv 10).toNat
          unfold Lib.itoa
          split
          · simp only [List.length_cons]; omega
          · omega
        have hm1 : -9 ≤ n.tmod 10 ∧ n.tmod 10 ≤ 0 := by
          have a := Int.natAbs_tmod n 10
          have c : (10 : Int).natAbs = 10 := rfl
          rw [c] at a
          have := Int.tmod_nonneg (a := -n) 10 (by omega)
          rw [Int.neg_tmod] at this; omega
        have ht1 : (n.tdiv 10).natAbs = n.natAbs / 10 := Int.natAbs_tdiv n 10
        obtain ⟨t, e2⟩ : ∃ t, n.tdiv 10 = t := ⟨_, rfl⟩
        obtain ⟨m, e1⟩ : ∃ m, n.tmod 10 = m := ⟨_, rfl⟩
        rw [e1] at hm1 hi
        rw [e2] at ht1 hi hl1
        have hl2 := dec_le (-m).toNat
        have HI := Lib.hid hi
        have I := Lib.hid (ih t w (by omega) (by omega) (by omega))
        have D : ∀ w, _ := fun w => digits_any ((-m).toNat + 1) (-m) w (by omega) (by omega) (by omega)
        have DH := Lib.hid D
        have b1 := hm1.1
        have b2 := hm1.2
        have b3 : -9223372036854775808 ≤ t := by omega
        have b4 : t ≤ 9223372036854775807 := by omega
        clear hi ih hk D hm1 ht1
        go_enter Tryd.func10, Tryd.ntmps10
        go_wp2_with (first | (go_at_call 10; refine I.out.mono ?_; rintro e w' ⟨rfl, hB⟩) | (go_at_call 19; refine (DH.out _).mono ?_; rintro e w'' ⟨rfl, hB2⟩))
        go_ret
        exact ⟨ret_str (by rw [app_data, ← HI.out]), hB.trans (hB2.mono hB.size)⟩
end Go.Proofs.YthnmncghoiehdadDoor
