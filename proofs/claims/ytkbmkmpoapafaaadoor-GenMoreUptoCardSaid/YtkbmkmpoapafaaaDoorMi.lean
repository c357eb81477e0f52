/- Numbers as a map's keys and elements. -/
import Derived.Test.YtkbmkmpoapafaaaDoorGq
import Derived.WalkArith
namespace Go.Proofs.YtkbmkmpoapafaaaDoor
open Go.ChangeShapes Go.WideShapes Go.ChangeAt Go.RowKit
open Go.Maps

theorem intLawI : Keyed Tryd.prog 3 := int_keyed Tryd.underlying3
/-- How an element reads. -/
def intElem : Value → Option (DataW Unit × List MemPlace)
  | .int .i64 x => some (.lit (.int .i64 x), [])
  | _ => none
theorem zeroInt (w : World) : (zeroValue 3).run Tryd.prog w = .ok (.int .i64 0) w := by kernel_rfl
theorem wf_smallI {i : Nat} (h : i ≤ 4611686018427387904) : (Lit.int .i64 (i : Int)).wf = true := WalkArith.wf_i64 ⟨by omega, by omega⟩
/-- A map of numbers. -/
def MapI (W : World) (b n : Nat) (f : Nat → Nat) : Prop := ∃ D, W.ownsMap Tryd.prog 3 intElem b n D ∧ ∀ i : Nat, i ≤ 4611686018427387904 → D.atKey (.int .i64 (i : Int)) (.lit (.int .i64 0)) = .lit (.int .i64 (f i : Int))
theorem MapI.of {W W' : World} {b n : Nat} {f : Nat → Nat} (h : MapI W b n f) (hb : W'.heap[b]? = W.heap[b]?) : MapI W' b n f := by
  obtain ⟨D, ⟨es, clock, h1, rest⟩, h2⟩ := h
  exact ⟨D, ⟨es, clock, hb.trans h1, rest⟩, h2⟩
theorem MapI.lt {W : World} {b n : Nat} {f : Nat → Nat} (h : MapI W b n f) : b < W.heap.size := by
  obtain ⟨D, h1, _⟩ := h
  exact h1.lt
theorem mapi_made (W : World) : MapI (W.alloc (.map #[] 0)) W.heap.size 0 fun _ => 0 := ⟨_, World.ownsMap_made _ _ _ _, fun _ _ => rfl⟩

theorem wpList_mapi_look {w : World} {ops : Array Oper} {rest : List Oper} {o : Oper} {a : Act} {Q : Exit → Act → World → Prop} (hg : o.guard = none) (m x : Operand) (hop : o.op = Op.lookup 43 m x false) {b n : Nat} {f : Nat → Nat} (h : MapI w b n f)
    (hm : a.eval m = .map (some b)) {i : Nat} (hx : a.eval x = .int .i64 (i : Int)) (hi : i ≤ 4611686018427387904) (hK : wpList Tryd.prog ops Q rest (a.put o.dst (.int .i64 (f i : Int))) w) : wpList Tryd.prog ops Q (o :: rest) a w := by
  obtain ⟨D, h1, h2⟩ := h
  refine wpList_plain hg fun K' hK' => ?_
  obtain ⟨v, ps, hrun, hv⟩ := h1.lookup intLawI Tryd.underlying43 (zeroInt w) (zd := .lit (.int .i64 0)) (zp := []) rfl (keyOf_int_mk Tryd.underlying3 (wf_smallI hi))
  rw [h2 i hi] at hv
  obtain rfl : v = .int .i64 (f i : Int) := by
    unfold intElem at hv
    split at hv
    · simp at hv
      rw [hv.1]
    · cases hv
  unfold Oper.wp
  simp [execOp, hop, hm, hx, hrun, Result.andThen]
  exact hK' _ _ hK
theorem wpList_mapi_put {w : World} {ops : Array Oper} {rest : List Oper} {o : Oper} {a : Act} {Q : Exit → Act → World → Prop} (hg : o.guard = none) (m x v : Operand) (hop : o.op = Op.mapUpdate 43 m x v) {b n : Nat} {f : Nat → Nat} (h : MapI w b n f) (hn : n < maxLen)
    (hm : a.eval m = .map (some b)) {i j : Nat} (hx : a.eval x = .int .i64 (i : Int)) (hi : i ≤ 4611686018427387904) (hv : a.eval v = .int .i64 (j : Int)) (hK : ∀ w', MapI w' b (n + 1) (fun k => if k = i then j else f k) → w.grownBy w' (some b) → wpList Tryd.prog ops Q rest (a.put o.dst undef) w') : wpList Tryd.prog ops Q (o :: rest) a w := by
  obtain ⟨D, h1, h2⟩ := h
  have hk := keyOf_int_mk Tryd.underlying3 (P := Tryd.prog) (wf_smallI hi)
  refine wpList_mapUpdate_own w hg m x v _ hop 3 3 intLawI Tryd.underlying43 intElem b n D hm h1 hn _ _ _ hx hv hk (.lit (.int .i64 (j : Int))) [] rfl fun w' g1 g2 => hK w' ⟨_, g1, fun k hk2 => ?_⟩ g2
  by_cases e : k = i
  · subst e
    rw [atKey_put_same (h1.isMap) (intLawI.key hk)]
    simp
  · rw [atKey_put_other (fun h => e (by cases h; rfl)), h2 k hk2]
    simp [e]
end Go.Proofs.YtkbmkmpoapafaaaDoor
