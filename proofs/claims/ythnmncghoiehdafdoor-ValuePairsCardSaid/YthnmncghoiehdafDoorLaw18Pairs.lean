/- The law ValuePairs, walked: it answers true; what lay in memory stays. -/
import Derived.Test.YthnmncghoiehdafDoorWays
import Derived.Test.YthnmncghoiehdafDoorNums
import Derived.Lib.AppendIntMem
import Derived.Deep.AppendLies
import Derived.Deep.QuietTactic
import Derived.BigQuiet
import Derived.Handy
namespace Go.Proofs.YthnmncghoiehdafDoor
open Go.ChangeShapes Go.WideShapes Go.ChangeAt Go.RowKit

theorem bool_any (b : Bool) (w : World) : Calls Tryd.prog 7 #[.bool b] w fun e w' => e = .returned (.string (boolT b)) ∧ w = w' := by
  cases b
  all_goals
    go_enter Tryd.func7, Tryd.ntmps7
    go_wp2
    go_ret
    exact ⟨rfl, rfl⟩

/-- A pair's text. -/
def pairT (a b : ByteArray) : ByteArray := ⟨#[40]⟩ ++ a ++ ⟨#[44, 32]⟩ ++ b ++ ⟨#[41]⟩
theorem pair_any (a b : ByteArray) (w : World) (ha : a.size ≤ 140737488355328) (hb : b.size ≤ 140737488355328) :
    Calls Tryd.prog 5 #[.string a, .string b] w fun e w' => e = .returned (.string (pairT a b)) ∧ w = w' := by
  go_enter Tryd.func5, Tryd.ntmps5
  go_wp2
  go_ret
  exact ⟨rfl, rfl⟩

theorem below_grow (w : World) (k : Nat) (os : Array Obj) : Below w.heap.size w (Sort.grow (w.drewN k) os) := by
  refine ⟨rfl, rfl, rfl, ?_, fun i hi => ?_⟩
  · show w.heap.size ≤ (w.heap ++ os).size
    simp
  · show (w.heap ++ os)[i]? = w.heap[i]?
    rw [Array.getElem?_append, if_pos hi]

theorem int_any (n : Int) (w : World) (h0 : -9223372036854775808 ≤ n) (h1 : n ≤ 9223372036854775807) (htab : Lib.TabIs Tryd.prog w "internal/strconv.uint64pow10" .u64 Lib.pow10Tab) :
    Calls Tryd.prog 8 #[.int .i64 n] w fun e w' => e = .returned (.string ⟨(Lib.itoa n).toArray⟩) ∧ Below w.heap.size w w' := by
  have c := Tryd.strconv_FormatInt_10 n h0 h1 w htab
  have C := Lib.hid c
  clear c
  go_enter Tryd.func8, Tryd.ntmps8
  go_wp2_with (go_at_call 13; refine C.out.mono ?_; rintro e w' ⟨rfl, k, os, rfl⟩)
  go_ret
  exact ⟨rfl, below_grow w k os⟩

theorem pair_data (a b : ByteArray) : (pairT a b).data.toList = 40 :: (a.data.toList ++ ([44, 32] ++ (b.data.toList ++ [41]))) := by
  unfold pairT
  simp [ByteArray.data_append]

theorem pair_facts (a b : ByteArray) : ∃ h : 0 < (pairT a b).size, (pairT a b).size = a.size + b.size + 4 ∧ (pairT a b)[0] = 40 ∧ (∀ k (hk : k < (pairT a b).size), k + 1 = (pairT a b).size → (pairT a b)[k] = 41) ∧ (pairT a b).extract 1 (1 + a.size) = a := by
  have hd := pair_data a b
  have la : a.data.toList.length = a.size := (Lib.size_eq a).symm
  have lb : b.data.toList.length = b.size := (Lib.size_eq b).symm
  have hz : (pairT a b).size = a.size + b.size + 4 := by
    rw [Lib.size_eq, hd]
    simp only [List.length_cons, List.length_append, List.length_nil, la, lb]; omega
  have hg : ∀ k (hk : k < (pairT a b).size), (pairT a b).data.toList[k]? = some (pairT a b)[k] := fun k hk => by
    rw [Array.getElem?_toList, Array.getElem?_eq_getElem (by exact hk)]; rfl
  refine ⟨by omega, hz, ?_, ?_, ?_⟩
  · have := hg 0 (by omega)
    rw [hd, List.getElem?_cons_zero] at this
    exact (Option.some.inj this).symm
  · intro k hk he
    have := hg k hk
    rw [hd] at this
    obtain ⟨m, rfl⟩ : ∃ m, k = m + 1 := ⟨k - 1, by omega⟩
    have l2 : ([44, 32] : List UInt8).length = 2 := rfl
    rw [List.getElem?_cons_succ, List.getElem?_append_right (by omega), List.getElem?_append_right (by omega), List.getElem?_append_right (by omega)] at this
    have e : m - a.data.toList.length - ([44, 32] : List UInt8).length - b.data.toList.length = 0 := by omega
    rw [e, List.getElem?_cons_zero] at this
    exact (Option.some.inj this).symm
  · have : ((pairT a b).extract 1 (1 + a.size)).data.toList = a.data.toList := by
      rw [Lib.extract_data, hd, List.drop_succ_cons, List.drop_zero, show 1 + a.size - 1 = a.data.toList.length from by omega, List.take_left]
    rw [← Lib.mk_data ((pairT a b).extract 1 (1 + a.size)), this, Lib.mk_data]

/-- The world in which the law's argument lies in a block of its own, behind alive. -/
def boxed (a b : ByteArray) (n : Int) (is : Bool) (w : World) : World := w.alloc (.cells #[.string a, .string b, .int .i64 n, .bool is] 23)
theorem boxed_cell (a b : ByteArray) (n : Int) (is : Bool) (w : World) (j : Nat) : (numsIn (boxed a b n is w)).cell? ⟨w.heap.size, j, none⟩ = (#[.string a, .string b, .int .i64 n, .bool is] : Array Value)[j]? := by
  have h := (((Below.refl (boxed a b n is w).heap.size (boxed a b n is w)).alloc (Nat.le_refl _) (.map numEs 4))).cell (p := ⟨w.heap.size, j, none⟩) (by simp [boxed])
  show ((boxed a b n is w).alloc (.map numEs 4)).cell? _ = _
  rw [h]
  exact Lib.cell_of_heap (heap_alloc_new w _) j
theorem below_boxed (a b : ByteArray) (n : Int) (is : Bool) (w : World) : Below w.heap.size w (numsIn (boxed a b n is w)) := ((Below.refl _ _).alloc (Nat.le_refl _) _).alloc (by simp) _

theorem pairs_long (a b : ByteArray) (n : Int) (is : Bool) (w : World) (hs : 1000 < (a.size : Int) ∨ 1000 < (b.size : Int)) :
    Calls Tryd.prog 3 #[.agg #[.string a, .string b, .int .i64 n, .bool is]] w fun e w' => e = .returned (.bool true) ∧ Below w.heap.size w w' := by
  have c0 := boxed_cell a b n is w 0
  have c1 := boxed_cell a b n is w 1
  have c2 := boxed_cell a b n is w 2
  have c3 := boxed_cell a b n is w 3
  unfold boxed at c0 c1 c2 c3
  simp only [List.getElem?_toArray, List.getElem?_cons_zero, List.getElem?_cons_succ] at c0 c1 c2 c3
  by_cases h1 : 1000 < (a.size : Int)
  · clear hs
    go_enter Tryd.func3, Tryd.ntmps3
    go_wp2_with (go_at_call 4; refine (alive_is _).mono ?_; rintro e w' ⟨rfl, rfl⟩)
    go_quiet (fail)
    go_wp2
    go_ret
    exact ⟨rfl, drewN_below (below_boxed a b n is w) _⟩
  · have h2 : 1000 < (b.size : Int) := by omega
    clear hs
    go_enter Tryd.func3, Tryd.ntmps3
    go_wp2_with (go_at_call 4; refine (alive_is _).mono ?_; rintro e w' ⟨rfl, rfl⟩)
    go_quiet (fail)
    go_wp2
    go_ret
    exact ⟨rfl, drewN_below (below_boxed a b n is w) _⟩

/-- What the walk needs of a pair's text. -/
theorem pair_known (a b : ByteArray) : ∃ p : ByteArray, p = pairT a b ∧ (p.size : Int) = a.size + b.size + 4 ∧ ∃ h0 : 0 < p.size, ∃ h1 : a.size + b.size + 3 < p.size, p[0] = 40 ∧ p[a.size + b.size + 3] = 41 ∧ p.extract 1 (1 + a.size) = a := by
  obtain ⟨h, hz, h0, h1, h2⟩ := pair_facts a b
  exact ⟨_, rfl, by omega, h, by omega, h0, h1 _ _ (by omega), h2⟩

theorem bool_known (b : Bool) : ((boolT b).toList == [116, 114, 117, 101]) = b := by
  rw [Lib.toList_data]
  cases b <;> rfl

set_option maxHeartbeats 2000000 in
set_option maxRecDepth 100000 in
theorem pairs_short (a b : ByteArray) (n : Int) (is : Bool) (wv : Value) (tp : TypeId) (pv : Value) (T2 : TypeId) (v2 : Value) (w : World) (ha : a.size ≤ 1000) (hb : b.size ≤ 1000) (h0 : -9223372036854775808 ≤ n) (h1 : n ≤ 9223372036854775807) (hE : Env wv w) (hF : Env2 tp pv T2 v2 w)
    (htab : Lib.TabIs Tryd.prog w "internal/strconv.uint64pow10" .u64 Lib.pow10Tab) :
    Calls Tryd.prog 3 #[.agg #[.string a, .string b, .int .i64 n, .bool is]] w fun e w' => e = .returned (.bool true) ∧ Below w.heap.size w w' := by
  have T := Lib.hid (Lib.tabBelow_of_tabIs htab)
  have ha1 : (a.size : Int) ≤ 1000 := by omega
  have hb1 : (b.size : Int) ≤ 1000 := by omega
  have hE1 : ∀ W, Below w.heap.size w W → Env wv W := fun W hB => hE.below hB hE.wordAt
  obtain ⟨bz, bc⟩ := chain_bool wv is
  have cB : ∀ W : World, Below w.heap.size w W → Calls Tryd.prog 6 #[.string (boolT is)] W (Lexed W [⟨2, 0, 0, boolT is⟩, endTk (boolT is)]) := fun W hB => lex_chain wv _ _ W (hE1 W hB) bz bc
  have cI : 0 ≤ n → ∀ W : World, Below w.heap.size w W → Calls Tryd.prog 6 #[.string ⟨(Lib.itoa n).toArray⟩] W (Lexed W [⟨3, 0, n, ⟨#[]⟩⟩, endTk ⟨(Lib.itoa n).toArray⟩]) := fun hn W hB => lex_chain wv _ _ W (hE1 W hB) (chain_pos wv n hn h1).1 (chain_pos wv n hn h1).2
  have cN : -9223372036854775808 < n → n < 0 → ∀ W : World, Below w.heap.size w W → Calls Tryd.prog 6 #[.string ⟨(Lib.itoa n).toArray⟩] W (Lexed W [⟨6, 0, 0, ⟨#[45]⟩⟩, ⟨3, 1, n.natAbs, ⟨#[]⟩⟩, endTk ⟨(Lib.itoa n).toArray⟩]) := fun hm hn W hB => lex_chain wv _ _ W (hE1 W hB) (neg_facts n h0 hn).1 (chain_neg wv n hm hn)
  have cM : n = -9223372036854775808 → ∀ W : World, Below w.heap.size w W → Calls Tryd.prog 6 #[.string ⟨(Lib.itoa n).toArray⟩] W fun e w' => (∃ v x, e = .returned (.tuple #[v, x, .int .i64 5])) ∧ Below W.heap.size W w' := fun hm W hB => by
    subst hm
    exact lex_bad wv tp pv T2 v2 _ W (hE1 W hB) (hF.below hB hF.at_) (bad_min wv tp pv T2 v2).1 (bad_min wv tp pv T2 v2).2
  have CB := Lib.hid cB
  have CI := Lib.hid cI
  have CN := Lib.hid cN
  have CM := Lib.hid cM
  obtain ⟨p, hp, p0, p1, p2, p3, p4, p5⟩ := pair_known a b
  have cP : ∀ W : World, Calls Tryd.prog 5 #[.string a, .string b] W fun e w' => e = .returned (.string p) ∧ W = w' := fun W => by
    have := pair_any a b W (by omega) (by omega)
    rwa [← hp] at this
  have CP := Lib.hid cP
  have bk := bool_known is
  have hsl : ∀ W : World, (Instr.slice 9 (.string p) (some (.int .i64 1)) (some (.int .i64 (1 + (a.size : Int)))) none).run Tryd.prog W = .ok (.string a) W := fun W => by
    have := run_slice_string (P := Tryd.prog) W 9 p .i64 .i64 1 (1 + (a.size : Int)) Tryd.underlying9 (by omega) (by omega) (by omega)
    rw [show (1 : Int).toNat = 1 from rfl, show (1 + (a.size : Int)).toNat = 1 + a.size from by omega, p5] at this
    exact this
  have q3 : (p[0].toNat : Int) = 40 := by rw [p3]; rfl
  have q4 : (p[a.size + b.size + 3].toNat : Int) = 41 := by rw [p4]; rfl
  clear htab hE hE1 hF cB cI cN cM cP bc bz hp p3 p4 p5
  have c0 := boxed_cell a b n is w 0
  have c1 := boxed_cell a b n is w 1
  have c2 := boxed_cell a b n is w 2
  have c3 := boxed_cell a b n is w 3
  unfold boxed at c0 c1 c2 c3
  simp only [List.getElem?_toArray, List.getElem?_cons_zero, List.getElem?_cons_succ] at c0 c1 c2 c3
  go_enter Tryd.func3, Tryd.ntmps3
  go_wp2_with (go_at_call 4; refine (alive_is _).mono ?_; rintro e w' ⟨rfl, rfl⟩)
  go_quiet (fail)
  have hB0 : Below w.heap.size w (numsIn (w.alloc (.cells #[.string a, .string b, .int .i64 n, .bool is] 23))) := below_boxed a b n is w
  clear c0 c1 c2 c3
  generalize numsIn (w.alloc (.cells #[.string a, .string b, .int .i64 n, .bool is] 23)) = w1 at *
  go_wp2_with (first
    | (go_at_call 5; refine (CP.out _).mono ?_; rintro e w' ⟨rfl, rfl⟩)
    | (go_at_call 7; refine (bool_any _ _).mono ?_; rintro e w' ⟨rfl, rfl⟩))
  have hB1 : Below w.heap.size w (w1.drewN nq) := drewN_below hB0 nq
  clear hB0
  generalize w1.drewN nq = w2 at *
  refine (CB.out _ hB1).mono ?_
  rintro e w3 ⟨v, rfl, hown, hB3⟩
  have hB4 := hB1.trans (hB3.mono hB1.size)
  clear hB1 hB3
  obtain ⟨g, cap, rfl, hg1, hg2⟩ := hown.form (by simp)
  have hcells := hown.cells (g := g) rfl
  have ha : ∀ j, (⟨g, 0, none⟩ : Addr).add j = ⟨g, j, none⟩ := fun j => by unfold Addr.add; split <;> simp_all
  have k0 : w3.cell? ⟨g, 0, none⟩ = some (.int .i64 2) := by rw [← ha 0]; exact hcells 0 _ rfl
  have k1 : w3.cell? ⟨g, 1, none⟩ = some (.int .i64 0) := by rw [← ha 1]; exact hcells 1 _ rfl
  have k2 : w3.cell? ⟨g, 2, none⟩ = some (.int .i64 0) := by rw [← ha 2]; exact hcells 2 _ rfl
  have k3 : w3.cell? ⟨g, 3, none⟩ = some (.string (boolT is)) := by rw [← ha 3]; exact hcells 3 _ rfl
  clear ha hown hcells
  generalize boolT is = t at *
  go_wp2_with fail
  refine (int_any n _ h0 h1 (T.out _ hB4)).mono ?_
  rintro e w5 ⟨rfl, hB5⟩
  have hB6 := hB4.trans (hB5.mono hB4.size)
  clear hB4 hB5 k0 k1 k2 k3 hsl q3 q4 p0 bk hg1 hg2
  by_cases hm : n = -9223372036854775808
  · have LM := Lib.hid (CM.out hm)
    have HM := Lib.hid hm
    clear hm
    go_wp2_with fail
    with_reducible refine (LM.out _ hB6).mono ?_
    rintro e w7 ⟨⟨v, x, rfl⟩, hB7⟩
    have hB8 := hB6.trans (hB7.mono hB6.size)
    have hm := HM.out
    go_wp2_with fail
    go_ret
    exact ⟨rfl, hB8⟩
  · by_cases hn : n < 0
    · have LN := Lib.hid (CN.out (by omega) hn)
      go_wp2_with fail
      with_reducible refine (LN.out _ hB6).mono ?_
      rintro e w7 ⟨v, rfl, hown, hB7⟩
      have hB8 := hB6.trans (hB7.mono hB6.size)
      clear hB6 hB7
      obtain ⟨g, cap, rfl, hg1, hg2⟩ := hown.form (by simp)
      have hcells := hown.cells (g := g) rfl
      have ha : ∀ j, (⟨g, 0, none⟩ : Addr).add j = ⟨g, j, none⟩ := fun j => by unfold Addr.add; split <;> simp_all
      have k3 : w7.cell? ⟨g, 3, none⟩ = some (.string ⟨#[45]⟩) := by rw [← ha 3]; exact hcells 3 _ rfl
      clear ha hown hcells
      go_wp2_with fail
      go_ret
      exact ⟨rfl, hB8⟩
    · have LP := Lib.hid (CI.out (by omega))
      go_wp2_with fail
      with_reducible refine (LP.out _ hB6).mono ?_
      rintro e w7 ⟨v, rfl, hown, hB7⟩
      have hB8 := hB6.trans (hB7.mono hB6.size)
      clear hB6 hB7
      obtain ⟨g, cap, rfl, hg1, hg2⟩ := hown.form (by simp)
      have hcells := hown.cells (g := g) rfl
      have ha : ∀ j, (⟨g, 0, none⟩ : Addr).add j = ⟨g, j, none⟩ := fun j => by unfold Addr.add; split <;> simp_all
      have k0 : w7.cell? ⟨g, 0, none⟩ = some (.int .i64 3) := by rw [← ha 0]; exact hcells 0 _ rfl
      have k1 : w7.cell? ⟨g, 1, none⟩ = some (.int .i64 0) := by rw [← ha 1]; exact hcells 1 _ rfl
      have k2 : w7.cell? ⟨g, 2, none⟩ = some (.int .i64 n) := by rw [← ha 2]; exact hcells 2 _ rfl
      have k3 : w7.cell? ⟨g, 3, none⟩ = some (.string ⟨#[]⟩) := by rw [← ha 3]; exact hcells 3 _ rfl
      clear ha hown hcells
      go_wp2_with fail
      go_ret
      exact ⟨rfl, hB8⟩
end Go.Proofs.YthnmncghoiehdafDoor
