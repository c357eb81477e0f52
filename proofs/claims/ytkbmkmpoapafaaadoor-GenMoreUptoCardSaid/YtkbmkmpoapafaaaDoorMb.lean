/- Numbers as a map's keys, truth values as its elements. -/
import Derived.Test.YtkbmkmpoapafaaaDoorGq
import Derived.WalkArith
namespace Go.Proofs.YtkbmkmpoapafaaaDoor
open Go.ChangeShapes Go.WideShapes Go.ChangeAt Go.RowKit
open Go.Maps

theorem intLaw : Keyed Tryd.prog 3 := int_keyed Tryd.underlying3
/-- How an element reads. -/
def boolElem : Value → Option (DataW Unit × List MemPlace)
  | .bool x => some (.lit (.bool x), [])
  | _ => none
theorem zeroBool (w : World) : (zeroValue 4).run Tryd.prog w = .ok (.bool false) w := by kernel_rfl
theorem wf_small {i : Nat} (h : i ≤ 4611686018427387904) : (Lit.int .i64 (i : Int)).wf = true := WalkArith.wf_i64 ⟨by omega, by omega⟩
/-- A map that tells of numbers whether they were met. -/
def Met (W : World) (b n : Nat) (f : Nat → Bool) : Prop := ∃ D, W.ownsMap Tryd.prog 3 boolElem b n D ∧ ∀ i : Nat, i ≤ 4611686018427387904 → D.atKey (.int .i64 (i : Int)) (.lit (.bool false)) = .lit (.bool (f i))
theorem Met.of {W W' : World} {b n : Nat} {f : Nat → Bool} (h : Met W b n f) (hb : W'.heap[b]? = W.heap[b]?) : Met W' b n f := by
  obtain ⟨D, ⟨es, clock, h1, rest⟩, h2⟩ := h
  exact ⟨D, ⟨es, clock, hb.trans h1, rest⟩, h2⟩
theorem Met.lt {W : World} {b n : Nat} {f : Nat → Bool} (h : Met W b n f) : b < W.heap.size := by
  obtain ⟨D, h1, _⟩ := h
  exact h1.lt
theorem met_made (W : World) : Met (W.alloc (.map #[] 0)) W.heap.size 0 fun _ => false := ⟨_, World.ownsMap_made _ _ _ _, fun _ _ => rfl⟩

theorem wpList_met_look {w : World} {ops : Array Oper} {rest : List Oper} {o : Oper} {a : Act} {Q : Exit → Act → World → Prop} (hg : o.guard = none) (m x : Operand) (hop : o.op = Op.lookup 41 m x false) {b n : Nat} {f : Nat → Bool} (h : Met w b n f)
    (hm : a.eval m = .map (some b)) {i : Nat} (hx : a.eval x = .int .i64 (i : Int)) (hi : i ≤ 4611686018427387904) (hK : wpList Tryd.prog ops Q rest (a.put o.dst (.bool (f i))) w) : wpList Tryd.prog ops Q (o :: rest) a w := by
  obtain ⟨D, h1, h2⟩ := h
  refine wpList_plain hg fun K' hK' => ?_
  obtain ⟨v, ps, hrun, hv⟩ := h1.lookup intLaw Tryd.underlying41 (zeroBool w) (zd := .lit (.bool false)) (zp := []) rfl (keyOf_int_mk Tryd.underlying3 (wf_small hi))
  rw [h2 i hi] at hv
  obtain rfl : v = .bool (f i) := by
    cases v <;> simp [boolElem] at hv
    rw [hv.1]
  unfold Oper.wp
  simp [execOp, hop, hm, hx, hrun, Result.andThen]
  exact hK' _ _ hK
theorem wpList_met_put {w : World} {ops : Array Oper} {rest : List Oper} {o : Oper} {a : Act} {Q : Exit → Act → World → Prop} (hg : o.guard = none) (m x v : Operand) (hop : o.op = Op.mapUpdate 41 m x v) {b n : Nat} {f : Nat → Bool} (h : Met w b n f) (hn : n < maxLen)
    (hm : a.eval m = .map (some b)) {i : Nat} (hx : a.eval x = .int .i64 (i : Int)) (hi : i ≤ 4611686018427387904) (hv : a.eval v = .bool true) (hK : ∀ w', Met w' b (n + 1) (fun k => k == i || f k) → w.grownBy w' (some b) → wpList Tryd.prog ops Q rest (a.put o.dst undef) w') : wpList Tryd.prog ops Q (o :: rest) a w := by
  obtain ⟨D, h1, h2⟩ := h
  have hk := keyOf_int_mk Tryd.underlying3 (P := Tryd.prog) (wf_small hi)
  refine wpList_mapUpdate_own w hg m x v _ hop 3 4 intLaw Tryd.underlying41 boolElem b n D hm h1 hn _ _ _ hx hv hk (.lit (.bool true)) [] rfl fun w' g1 g2 => hK w' ⟨_, g1, fun k hk2 => ?_⟩ g2
  by_cases e : k = i
  · subst e
    rw [atKey_put_same (h1.isMap) (intLaw.key hk)]
    simp
  · rw [atKey_put_other (fun h => e (by cases h; rfl)), h2 k hk2]
    simp [e]
end Go.Proofs.YtkbmkmpoapafaaaDoor
