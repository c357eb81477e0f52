/- Put, walked: what it answers at any token whose text isn't great. -/
import Derived.Test.YtabngleincejfaaGreatDoorPut
import Derived.Lib.ItoaMem
import Derived.Lib.AppendIntMem
import Derived.Deep.QuietTactic
import Derived.Deep.RegionHeld3
import Derived.BigQuiet
namespace Go.Proofs.YtabngleincejfaaGreatDoor
open Go.ChangeShapes Go.WideShapes Go.ChangeAt Go.RowKit

def putGives (t : Tk) (e : Ending) : Prop := match tokText t with
  | some p => e = .returned (.tuple #[.string (bytesOf p), .int .i64 0])
  | none => e = .returned (.tuple #[.string ⟨#[]⟩, .int .i64 2])

set_option maxRecDepth 100000 in
theorem least_any (s : ByteArray) (w : World) (hs : s.size ≤ 1100000) :
    Calls Tryz.prog 13 #[.string s] w fun e w' => e = .returned (.int .i64 (leastN s)) ∧ Below w.heap.size w w' := by
  have c1 : ∀ W : World, Calls Tryz.prog 19 #[.string s, .string ⟨#[34]⟩] W fun e w' => e = .returned (.int .i64 (Lib.countByte s.data.toList 34 : Nat)) ∧ w' = W := fun W => Tryz.strings_Count_one s 34 W
  have c2 : ∀ W : World, Calls Tryz.prog 19 #[.string s, .string ⟨#[92]⟩] W fun e w' => e = .returned (.int .i64 (Lib.countByte s.data.toList 92 : Nat)) ∧ w' = W := fun W => Tryz.strings_Count_one s 92 W
  have h1 : Lib.countByte s.data.toList 34 ≤ s.size := by rw [Lib.size_eq]; exact List.count_le_length
  have h2 : Lib.countByte s.data.toList 92 ≤ s.size := by rw [Lib.size_eq]; exact List.count_le_length
  unfold leastN
  generalize Lib.countByte s.data.toList 34 = n1 at *
  generalize Lib.countByte s.data.toList 92 = n2 at *
  have C1 := Lib.hid c1
  have C2 := Lib.hid c2
  clear c1 c2
  go_enter Tryz.func13, Tryz.ntmps13
  go_wp2_with (first | (go_at_call 19; with_reducible refine (C1.out _).mono ?_; rintro e w' ⟨rfl, rfl⟩) | (go_at_call 19; with_reducible refine (C2.out _).mono ?_; rintro e w' ⟨rfl, rfl⟩))
  go_ret
  exact ⟨rfl, Below.refl _ _⟩

theorem puts_bad (k a n : Int) (s : ByteArray) (w : World) (h : (k != 3) = true) (hn : (n != 0) = true) :
    Calls Tryz.prog 5 #[.agg #[.int .i64 k, .int .i64 a, .int .i64 n, .string s]] w fun e w' => putGives ⟨k, a, n, s⟩ e ∧ Below w.heap.size w w' := by
  have ht : tokText ⟨k, a, n, s⟩ = none := by
    unfold tokText
    rw [if_pos ⟨by simpa using h, by simpa using hn⟩]
  unfold putGives
  rw [ht]
  clear ht
  go_enter Tryz.func5, Tryz.ntmps5
  go_wp2_with fail
  go_ret2
  exact ⟨rfl, (Below.refl _ _).alloc (Nat.le_refl _) _⟩

theorem isName_b (s : ByteArray) (E : Errs) (W : World) (hW : EnvL E W) (hs : s.size ≤ maxLen) : Calls Tryz.prog 8 #[.string s] W fun e w' => e = .returned (.bool (nameB s)) ∧ Below W.heap.size W w' :=
  (isName_any s _ _ W hW.word hs).mono fun e w' ⟨he, n, hw⟩ => ⟨he, by rw [hw]; exact drewN_below (Below.refl _ _) n⟩

theorem below_grow (w : World) (k : Nat) (os : Array Obj) : Below w.heap.size w (Sort.grow (w.drewN k) os) := by
  refine ⟨rfl, rfl, rfl, ?_, fun i hi => ?_⟩
  · show w.heap.size ≤ (w.heap ++ os).size
    simp
  · show (w.heap ++ os)[i]? = w.heap[i]?
    rw [Array.getElem?_append, if_pos hi]

/-- The block in which Put's argument lies. -/
theorem box_cells (k a n : Int) (s : ByteArray) (w : World) (d j : Nat) : ((w.alloc (.cells #[.int .i64 k, .int .i64 a, .int .i64 n, .string s] 25)).drewN d).cell? ⟨w.heap.size, j, none⟩ = (#[.int .i64 k, .int .i64 a, .int .i64 n, .string s] : Array Value)[j]? :=
  Lib.cell_of_heap (w := (w.alloc (.cells #[.int .i64 k, .int .i64 a, .int .i64 n, .string s] 25)).drewN d) (heap_alloc_new w _) j

set_option maxHeartbeats 1000000 in
theorem puts_name (E : Errs) (a : Int) (s : ByteArray) (w : World) (hE : EnvL E w) (hs : s.size ≤ 1100000) :
    Calls Tryz.prog 5 #[.agg #[.int .i64 1, .int .i64 a, .int .i64 0, .string s]] w fun e w' => putGives ⟨1, a, 0, s⟩ e ∧ Below w.heap.size w w' := by
  have HE := Lib.hid hE
  have hb := Lib.hid (box_cells 1 a 0 s w)
  have ht : tokText ⟨1, a, 0, s⟩ = if nameB s = true then some s.data.toList else none := by simp [tokText]
  have hby := bytesOf_data s
  unfold putGives
  rw [ht]
  clear hE ht
  cases hx : nameB s
  · rw [if_neg (by simp)]
    go_enter Tryz.func5, Tryz.ntmps5
    go_wp2_with fail
    go_quiet (fail)
    have c0 := hb.out nq 0
    have c1 := hb.out nq 1
    have c2 := hb.out nq 2
    have c3 := hb.out nq 3
    simp only [List.getElem?_toArray, List.getElem?_cons_zero, List.getElem?_cons_succ] at c0 c1 c2 c3
    have hB := drewN_below ((Below.refl w.heap.size w).alloc (Nat.le_refl _) (.cells #[.int .i64 1, .int .i64 a, .int .i64 0, .string s] 25)) nq
    have E1 := HE.out.self hB (Nat.le_refl _)
    generalize (w.alloc (.cells #[.int .i64 1, .int .i64 a, .int .i64 0, .string s] 25)).drewN nq = w1 at *
    go_wp2_with fail
    refine (isName_b s E w1 E1 (by unfold maxLen; omega)).mono ?_
    rintro e w2 ⟨rfl, hB2⟩
    rw [hx]
    go_wp2_with fail
    go_ret2
    exact ⟨rfl, hB.trans (hB2.mono hB.size)⟩
  · rw [if_pos rfl]
    go_enter Tryz.func5, Tryz.ntmps5
    go_wp2_with fail
    go_quiet (fail)
    have c0 := hb.out nq 0
    have c1 := hb.out nq 1
    have c2 := hb.out nq 2
    have c3 := hb.out nq 3
    simp only [List.getElem?_toArray, List.getElem?_cons_zero, List.getElem?_cons_succ] at c0 c1 c2 c3
    have hB := drewN_below ((Below.refl w.heap.size w).alloc (Nat.le_refl _) (.cells #[.int .i64 1, .int .i64 a, .int .i64 0, .string s] 25)) nq
    have E1 := HE.out.self hB (Nat.le_refl _)
    generalize (w.alloc (.cells #[.int .i64 1, .int .i64 a, .int .i64 0, .string s] 25)).drewN nq = w1 at *
    go_wp2_with fail
    refine (isName_b s E w1 E1 (by unfold maxLen; omega)).mono ?_
    rintro e w2 ⟨rfl, hB2⟩
    rw [hx]
    go_wp2_with fail
    go_ret2
    exact ⟨by rw [hby]; rfl, hB.trans (hB2.mono hB.size)⟩
set_option maxHeartbeats 1000000 in
theorem puts_key (E : Errs) (a : Int) (s : ByteArray) (w : World) (hE : EnvL E w) :
    Calls Tryz.prog 5 #[.agg #[.int .i64 2, .int .i64 a, .int .i64 0, .string s]] w fun e w' => putGives ⟨2, a, 0, s⟩ e ∧ Below w.heap.size w w' := by
  have HE := Lib.hid hE
  have hb := Lib.hid (box_cells 2 a 0 s w)
  have ht : tokText ⟨2, a, 0, s⟩ = if keyB s = true then some s.data.toList else none := by simp [tokText]
  have hby := bytesOf_data s
  unfold putGives
  rw [ht]
  clear hE ht
  cases hx : keyB s
  · rw [if_neg (by simp)]
    go_enter Tryz.func5, Tryz.ntmps5
    go_wp2_with fail
    go_quiet (fail)
    have c0 := hb.out nq 0
    have c1 := hb.out nq 1
    have c2 := hb.out nq 2
    have c3 := hb.out nq 3
    simp only [List.getElem?_toArray, List.getElem?_cons_zero, List.getElem?_cons_succ] at c0 c1 c2 c3
    have hB := drewN_below ((Below.refl w.heap.size w).alloc (Nat.le_refl _) (.cells #[.int .i64 2, .int .i64 a, .int .i64 0, .string s] 25)) nq
    have E1 := HE.out.self hB (Nat.le_refl _)
    generalize (w.alloc (.cells #[.int .i64 2, .int .i64 a, .int .i64 0, .string s] 25)).drewN nq = w1 at *
    go_wp2_with fail
    refine (isKey_any s w1).mono ?_
    rintro e w2 ⟨rfl, rfl⟩
    rw [hx]
    go_wp2_with fail
    go_ret2
    exact ⟨rfl, hB⟩
  · rw [if_pos rfl]
    go_enter Tryz.func5, Tryz.ntmps5
    go_wp2_with fail
    go_quiet (fail)
    have c0 := hb.out nq 0
    have c1 := hb.out nq 1
    have c2 := hb.out nq 2
    have c3 := hb.out nq 3
    simp only [List.getElem?_toArray, List.getElem?_cons_zero, List.getElem?_cons_succ] at c0 c1 c2 c3
    have hB := drewN_below ((Below.refl w.heap.size w).alloc (Nat.le_refl _) (.cells #[.int .i64 2, .int .i64 a, .int .i64 0, .string s] 25)) nq
    have E1 := HE.out.self hB (Nat.le_refl _)
    generalize (w.alloc (.cells #[.int .i64 2, .int .i64 a, .int .i64 0, .string s] 25)).drewN nq = w1 at *
    go_wp2_with fail
    refine (isKey_any s w1).mono ?_
    rintro e w2 ⟨rfl, rfl⟩
    rw [hx]
    go_wp2_with fail
    go_ret2
    exact ⟨by rw [hby]; rfl, hB⟩
set_option maxHeartbeats 1000000 in
theorem puts_sym (E : Errs) (a : Int) (s : ByteArray) (w : World) (hE : EnvL E w) :
    Calls Tryz.prog 5 #[.agg #[.int .i64 6, .int .i64 a, .int .i64 0, .string s]] w fun e w' => putGives ⟨6, a, 0, s⟩ e ∧ Below w.heap.size w w' := by
  have HE := Lib.hid hE
  have hb := Lib.hid (box_cells 6 a 0 s w)
  have ht : tokText ⟨6, a, 0, s⟩ = if symB s = true then some s.data.toList else none := by simp [tokText]
  have hby := bytesOf_data s
  unfold putGives
  rw [ht]
  clear hE ht
  cases hx : symB s
  · rw [if_neg (by simp)]
    go_enter Tryz.func5, Tryz.ntmps5
    go_wp2_with fail
    go_quiet (fail)
    have c0 := hb.out nq 0
    have c1 := hb.out nq 1
    have c2 := hb.out nq 2
    have c3 := hb.out nq 3
    simp only [List.getElem?_toArray, List.getElem?_cons_zero, List.getElem?_cons_succ] at c0 c1 c2 c3
    have hB := drewN_below ((Below.refl w.heap.size w).alloc (Nat.le_refl _) (.cells #[.int .i64 6, .int .i64 a, .int .i64 0, .string s] 25)) nq
    have E1 := HE.out.self hB (Nat.le_refl _)
    generalize (w.alloc (.cells #[.int .i64 6, .int .i64 a, .int .i64 0, .string s] 25)).drewN nq = w1 at *
    go_wp2_with fail
    refine (isSymbol_any s w1).mono ?_
    rintro e w2 ⟨rfl, rfl⟩
    rw [hx]
    go_wp2_with fail
    go_ret2
    exact ⟨rfl, hB⟩
  · rw [if_pos rfl]
    go_enter Tryz.func5, Tryz.ntmps5
    go_wp2_with fail
    go_quiet (fail)
    have c0 := hb.out nq 0
    have c1 := hb.out nq 1
    have c2 := hb.out nq 2
    have c3 := hb.out nq 3
    simp only [List.getElem?_toArray, List.getElem?_cons_zero, List.getElem?_cons_succ] at c0 c1 c2 c3
    have hB := drewN_below ((Below.refl w.heap.size w).alloc (Nat.le_refl _) (.cells #[.int .i64 6, .int .i64 a, .int .i64 0, .string s] 25)) nq
    have E1 := HE.out.self hB (Nat.le_refl _)
    generalize (w.alloc (.cells #[.int .i64 6, .int .i64 a, .int .i64 0, .string s] 25)).drewN nq = w1 at *
    go_wp2_with fail
    refine (isSymbol_any s w1).mono ?_
    rintro e w2 ⟨rfl, rfl⟩
    rw [hx]
    go_wp2_with fail
    go_ret2
    exact ⟨by rw [hby]; rfl, hB⟩
set_option maxHeartbeats 1000000 in
theorem puts_tick (E : Errs) (a : Int) (s : ByteArray) (w : World) (hE : EnvL E w) (hs : s.size ≤ 1100000) :
    Calls Tryz.prog 5 #[.agg #[.int .i64 5, .int .i64 a, .int .i64 0, .string s]] w fun e w' => putGives ⟨5, a, 0, s⟩ e ∧ Below w.heap.size w w' := by
  have HE := Lib.hid hE
  have hb := Lib.hid (box_cells 5 a 0 s w)
  have ht : tokText ⟨5, a, 0, s⟩ = if isWordB s = true then some (39 :: s.data.toList) else none := by simp [tokText]
  have hby : bytesOf (39 :: s.data.toList) = ⟨#[39]⟩ ++ s := bytes_ext (by rw [bytesOf_list, ByteArray.data_append]; simp)
  unfold putGives
  rw [ht]
  clear hE ht
  cases hx : isWordB s
  · rw [if_neg (by simp)]
    go_enter Tryz.func5, Tryz.ntmps5
    go_wp2_with fail
    go_quiet (fail)
    have c0 := hb.out nq 0
    have c1 := hb.out nq 1
    have c2 := hb.out nq 2
    have c3 := hb.out nq 3
    simp only [List.getElem?_toArray, List.getElem?_cons_zero, List.getElem?_cons_succ] at c0 c1 c2 c3
    have hB := drewN_below ((Below.refl w.heap.size w).alloc (Nat.le_refl _) (.cells #[.int .i64 5, .int .i64 a, .int .i64 0, .string s] 25)) nq
    have E1 := HE.out.self hB (Nat.le_refl _)
    generalize (w.alloc (.cells #[.int .i64 5, .int .i64 a, .int .i64 0, .string s] 25)).drewN nq = w1 at *
    go_wp2_with fail
    have cw : ∀ m, Calls Tryz.prog 11 #[.string s] (w1.drewN m) fun e w' => e = .returned (.bool false) ∧ Drawn (w1.drewN m) w' := fun m => by
      have := isWord_any s _ _ (w1.drewN m) (E1.self (drewN_below (Below.refl _ _) m) (Nat.le_refl _)).word (by unfold maxLen; omega)
      rwa [hx] at this
    have CW := Lib.hid cw
    have hs2 : (s.size : Int) ≤ 1100000 := by omega
    clear cw
    go_quiet (first | (go_at_call 11; refine Calls.quiet_of (CW.out _)))
    go_wp2_with fail
    go_ret2
    exact ⟨rfl, drewN_below hB _⟩
  · rw [if_pos rfl]
    go_enter Tryz.func5, Tryz.ntmps5
    go_wp2_with fail
    go_quiet (fail)
    have c0 := hb.out nq 0
    have c1 := hb.out nq 1
    have c2 := hb.out nq 2
    have c3 := hb.out nq 3
    simp only [List.getElem?_toArray, List.getElem?_cons_zero, List.getElem?_cons_succ] at c0 c1 c2 c3
    have hB := drewN_below ((Below.refl w.heap.size w).alloc (Nat.le_refl _) (.cells #[.int .i64 5, .int .i64 a, .int .i64 0, .string s] 25)) nq
    have E1 := HE.out.self hB (Nat.le_refl _)
    generalize (w.alloc (.cells #[.int .i64 5, .int .i64 a, .int .i64 0, .string s] 25)).drewN nq = w1 at *
    go_wp2_with fail
    have cw : ∀ m, Calls Tryz.prog 11 #[.string s] (w1.drewN m) fun e w' => e = .returned (.bool true) ∧ Drawn (w1.drewN m) w' := fun m => by
      have := isWord_any s _ _ (w1.drewN m) (E1.self (drewN_below (Below.refl _ _) m) (Nat.le_refl _)).word (by unfold maxLen; omega)
      rwa [hx] at this
    have CW := Lib.hid cw
    have hs2 : (s.size : Int) ≤ 1100000 := by omega
    clear cw
    go_quiet (first | (go_at_call 11; refine Calls.quiet_of (CW.out _)))
    go_wp2_with fail
    go_ret2
    exact ⟨by rw [hby]; rfl, drewN_below hB _⟩

set_option maxHeartbeats 1000000 in
theorem puts_int (a n : Int) (s : ByteArray) (w : World) (htab : Lib.TabIs Tryz.prog w "internal/strconv.uint64pow10" .u64 Lib.pow10Tab) (h0 : -9223372036854775808 ≤ n) (h1 : n ≤ 9223372036854775807) :
    Calls Tryz.prog 5 #[.agg #[.int .i64 3, .int .i64 a, .int .i64 n, .string s]] w fun e w' => putGives ⟨3, a, n, s⟩ e ∧ Below w.heap.size w w' := by
  have hb := Lib.hid (box_cells 3 a n s w)
  have T := Lib.hid (Lib.tabBelow_of_tabIs htab)
  have ht : tokText ⟨3, a, n, s⟩ = if 0 ≤ n ∧ s.data.toList = [] then some (Lib.itoa n) else none := by simp [tokText]
  have HT := Lib.hid ht
  clear ht htab
  go_enter Tryz.func5, Tryz.ntmps5
  go_wp2_with fail
  go_quiet (fail)
  have c0 := hb.out nq 0
  have c1 := hb.out nq 1
  have c2 := hb.out nq 2
  have c3 := hb.out nq 3
  simp only [List.getElem?_toArray, List.getElem?_cons_zero, List.getElem?_cons_succ] at c0 c1 c2 c3
  have hB := drewN_below ((Below.refl w.heap.size w).alloc (Nat.le_refl _) (.cells #[.int .i64 3, .int .i64 a, .int .i64 n, .string s] 25)) nq
  generalize (w.alloc (.cells #[.int .i64 3, .int .i64 a, .int .i64 n, .string s] 25)).drewN nq = w1 at *
  have cf : ∀ W : World, (W.cell? ⟨w.heap.size, 2, none⟩ = some (.int .i64 n) ∧ W.cell? ⟨w.heap.size, 3, none⟩ = some (.string s) ∧ Below w.heap.size w W ∧ w.heap.size < W.heap.size) →
      Calls Tryz.prog 12 #[.int .i64 n, .int .i64 10] W fun e w' => e = .returned (.string (bytesOf (Lib.itoa n))) ∧ (w'.cell? ⟨w.heap.size, 2, none⟩ = some (.int .i64 n) ∧ w'.cell? ⟨w.heap.size, 3, none⟩ = some (.string s) ∧ Below w.heap.size w w' ∧ w.heap.size < w'.heap.size) := fun W ⟨f2, f3, fb, fl⟩ =>
    (Tryz.strconv_FormatInt_10 n h0 h1 W (T.out _ fb)).mono fun e w' ⟨he, k, os, hw⟩ => by
      subst hw
      have hg := below_grow W k os
      exact ⟨he, (hg.cell (p := ⟨w.heap.size, 2, none⟩) fl).trans f2, (hg.cell (p := ⟨w.heap.size, 3, none⟩) fl).trans f3, fb.trans (hg.mono fb.size), Nat.lt_of_lt_of_le fl hg.size⟩
  have CF := Lib.hid cf
  have hlt : w.heap.size < w1.heap.size := by
    rcases Nat.lt_or_ge w.heap.size w1.heap.size with h | h
    · exact h
    · simp [World.cell?, Array.getElem?_eq_none h] at c2
  clear cf
  by_cases hn : 0 ≤ n
  · have tn : decide (0 ≤ n) = true := by simp [hn]
    go_wp2_with fail
    go_region_held3 (fun W => W.cell? ⟨w.heap.size, 2, none⟩ = some (.int .i64 n) ∧ W.cell? ⟨w.heap.size, 3, none⟩ = some (.string s) ∧ Below w.heap.size w W ∧ w.heap.size < W.heap.size) (first | assumption | exact ⟨c2, c3, hB.drew, hlt⟩)
      (first | (go_at_call 12; refine (CF.out _ (by assumption)).mono ?_; rintro e w' ⟨rfl, hS⟩))
    obtain ⟨_, _, hBf, _⟩ := hS
    cases he : s.toList.isEmpty
    · have hs : ¬ (0 ≤ n ∧ s.data.toList = []) := fun h => by
        rw [Lib.toList_data, h.2] at he; cases he
      go_wp2_with fail
      go_ret2
      exact ⟨by unfold putGives; rw [HT.out, if_neg hs]; rfl, hBf⟩
    · have hs : s.data.toList = [] := by rw [Lib.toList_data] at he; exact List.isEmpty_iff.1 he
      go_wp2_with fail
      go_ret2
      exact ⟨by unfold putGives; rw [HT.out, if_pos ⟨hn, hs⟩]; rfl, hBf⟩
  · have hs : ¬ (0 ≤ n ∧ s.data.toList = []) := fun h => hn h.1
    have HS := Lib.hid hs
    have hn2 : n < 0 := by omega
    have tn : decide (0 ≤ n) = false := by simp; omega
    clear hs hn
    go_wp2_with fail
    first
      | go_region_with (first | (go_at_call 12; refine (CF.out _ ⟨by assumption, by assumption, by first | exact hB | exact hB.drew, by first | exact hlt | simpa using hlt⟩).mono ?_; rintro e w' ⟨rfl, f2, f3, hBf, fl⟩))
      | fail
    all_goals
      go_wp2_with fail
      go_ret2
      exact ⟨by unfold putGives; rw [HT.out, if_neg HS.out]; rfl, hBf⟩

set_option maxHeartbeats 1000000 in
theorem puts_str (a : Int) (s : ByteArray) (w : World) (hs : s.size ≤ 1100000) :
    Calls Tryz.prog 5 #[.agg #[.int .i64 4, .int .i64 a, .int .i64 0, .string s]] w fun e w' => putGives ⟨4, a, 0, s⟩ e ∧ Below w.heap.size w w' := by
  have hb := Lib.hid (box_cells 4 a 0 s w)
  have ht : tokText ⟨4, a, 0, s⟩ = if leastN s ≤ 65536 then some (quoteL s.data.toList) else none := by simp [tokText]
  have HT := Lib.hid ht
  clear ht
  go_enter Tryz.func5, Tryz.ntmps5
  go_wp2_with fail
  go_quiet (fail)
  have c0 := hb.out nq 0
  have c1 := hb.out nq 1
  have c2 := hb.out nq 2
  have c3 := hb.out nq 3
  simp only [List.getElem?_toArray, List.getElem?_cons_zero, List.getElem?_cons_succ] at c0 c1 c2 c3
  have hB := drewN_below ((Below.refl w.heap.size w).alloc (Nat.le_refl _) (.cells #[.int .i64 4, .int .i64 a, .int .i64 0, .string s] 25)) nq
  generalize (w.alloc (.cells #[.int .i64 4, .int .i64 a, .int .i64 0, .string s] 25)).drewN nq = w1 at *
  have hlt : w.heap.size < w1.heap.size := by
    rcases Nat.lt_or_ge w.heap.size w1.heap.size with h | h
    · exact h
    · simp [World.cell?, Array.getElem?_eq_none h] at c2
  have cl : ∀ W : World, (W.cell? ⟨w.heap.size, 3, none⟩ = some (.string s) ∧ Below w.heap.size w W ∧ w.heap.size < W.heap.size) →
      Calls Tryz.prog 13 #[.string s] W fun e w' => e = .returned (.int .i64 (leastN s)) ∧ (w'.cell? ⟨w.heap.size, 3, none⟩ = some (.string s) ∧ Below w.heap.size w w' ∧ w.heap.size < w'.heap.size) := fun W ⟨f3, fb, fl⟩ =>
    (least_any s W hs).mono fun e w' ⟨he, hg⟩ => ⟨he, (hg.cell (p := ⟨w.heap.size, 3, none⟩) fl).trans f3, fb.trans (hg.mono fb.size), Nat.lt_of_lt_of_le fl hg.size⟩
  have cq : ∀ W : World, (W.cell? ⟨w.heap.size, 3, none⟩ = some (.string s) ∧ Below w.heap.size w W ∧ w.heap.size < W.heap.size) →
      Calls Tryz.prog 14 #[.string s] W fun e w' => e = .returned (.string (bytesOf (quoteL s.data.toList))) ∧ (w'.cell? ⟨w.heap.size, 3, none⟩ = some (.string s) ∧ Below w.heap.size w w' ∧ w.heap.size < w'.heap.size) := fun W ⟨f3, fb, fl⟩ =>
    (str_any s W hs).mono fun e w' ⟨he, hg⟩ => ⟨he, (hg.cell (p := ⟨w.heap.size, 3, none⟩) fl).trans f3, fb.trans (hg.mono fb.size), Nat.lt_of_lt_of_le fl hg.size⟩
  have CL := Lib.hid cl
  have CQ := Lib.hid cq
  clear cl cq
  go_wp2_with fail
  go_region_held3 (fun W => W.cell? ⟨w.heap.size, 3, none⟩ = some (.string s) ∧ Below w.heap.size w W ∧ w.heap.size < W.heap.size) (first | assumption | exact ⟨c3, hB.drew, hlt⟩)
    (first | (go_at_call 13; refine (CL.out _ (by assumption)).mono ?_; rintro e w' ⟨rfl, hS⟩) | (go_at_call 14; refine (CQ.out _ (by assumption)).mono ?_; rintro e w' ⟨rfl, hS⟩))
  all_goals
    obtain ⟨_, hBf, _⟩ := hS
    by_cases hl : leastN s ≤ 65536
    · go_wp2_with fail
      go_ret2
      exact ⟨by unfold putGives; rw [HT.out, if_pos hl]; rfl, hBf⟩
    · go_wp2_with fail
      go_ret2
      exact ⟨by unfold putGives; rw [HT.out, if_neg (by omega)]; rfl, hBf⟩

set_option maxHeartbeats 1000000 in
theorem puts_other (k a n : Int) (s : ByteArray) (w : World) (h1 : (k == 1) = false) (h2 : (k == 2) = false) (h3 : (k == 3) = false) (h4 : (k == 4) = false) (h5 : (k == 5) = false) (h6 : (k == 6) = false) (hn : n = 0) :
    Calls Tryz.prog 5 #[.agg #[.int .i64 k, .int .i64 a, .int .i64 n, .string s]] w fun e w' => putGives ⟨k, a, n, s⟩ e ∧ Below w.heap.size w w' := by
  subst hn
  have hb := Lib.hid (box_cells k a 0 s w)
  have ht : tokText ⟨k, a, 0, s⟩ = none := by
    simp only [beq_eq_false_iff_ne] at h1 h2 h3 h4 h5 h6
    simp [tokText, h1, h2, h3, h4, h5, h6]
  have hk3 : (k != 3) = true := by simpa using h3
  unfold putGives
  rw [ht]
  clear ht
  go_enter Tryz.func5, Tryz.ntmps5
  go_wp2_with fail
  go_quiet (fail)
  have c0 := hb.out nq 0
  have c1 := hb.out nq 1
  have c2 := hb.out nq 2
  have c3 := hb.out nq 3
  simp only [List.getElem?_toArray, List.getElem?_cons_zero, List.getElem?_cons_succ] at c0 c1 c2 c3
  have hB := drewN_below ((Below.refl w.heap.size w).alloc (Nat.le_refl _) (.cells #[.int .i64 k, .int .i64 a, .int .i64 0, .string s] 25)) nq
  generalize (w.alloc (.cells #[.int .i64 k, .int .i64 a, .int .i64 0, .string s] 25)).drewN nq = w1 at *
  go_wp2_with fail
  go_ret2
  exact ⟨rfl, hB⟩

theorem puts_any (E : Errs) (t : Tk) (w : World) (hE : EnvL E w) (htab : Lib.TabIs Tryz.prog w "internal/strconv.uint64pow10" .u64 Lib.pow10Tab) (hs : t.t.size ≤ 1100000) (h0 : -9223372036854775808 ≤ t.n) (h1 : t.n ≤ 9223372036854775807) :
    Calls Tryz.prog 5 #[.agg #[.int .i64 t.kind, .int .i64 t.at_, .int .i64 t.n, .string t.t]] w fun e w' => putGives t e ∧ Below w.heap.size w w' := by
  obtain ⟨k, a, n, s⟩ := t
  simp only at hs h0 h1 ⊢
  by_cases hk : k = 3
  · subst hk; exact puts_int a n s w htab h0 h1
  · by_cases hn : n = 0
    · by_cases k1 : k = 1
      · subst k1 hn; exact puts_name E a s w hE hs
      · by_cases k2 : k = 2
        · subst k2 hn; exact puts_key E a s w hE
        · by_cases k4 : k = 4
          · subst k4 hn; exact puts_str a s w hs
          · by_cases k5 : k = 5
            · subst k5 hn; exact puts_tick E a s w hE hs
            · by_cases k6 : k = 6
              · subst k6 hn; exact puts_sym E a s w hE
              · exact puts_other k a n s w (by simpa using k1) (by simpa using k2) (by simpa using hk) (by simpa using k4) (by simpa using k5) (by simpa using k6) hn
    · exact puts_bad k a n s w (by simpa using hk) (by simpa using hn)
end Go.Proofs.YtabngleincejfaaGreatDoor
