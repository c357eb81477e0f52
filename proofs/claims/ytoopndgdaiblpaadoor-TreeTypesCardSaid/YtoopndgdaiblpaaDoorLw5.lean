/- Five cells written one after the other. -/
import Derived.Test.YtoopndgdaiblpaaDoorTq
namespace Go.Proofs.YtoopndgdaiblpaaDoor
open Go.ChangeShapes Go.WideShapes Go.ChangeAt Go.RowKit

theorem five_set5 (W : World) (b : Nat) (T : TypeId) (a0 a1 a2 a3 a4 v0 v1 v2 v3 v4 : Value) (h : W.heap[b]? = some (.cells #[a0, a1, a2, a3, a4] T)) :
    (((((W.setCell ⟨b, 0, none⟩ v0).setCell ⟨b, 1, none⟩ v1).setCell ⟨b, 2, none⟩ v2).setCell ⟨b, 3, none⟩ v3).setCell ⟨b, 4, none⟩ v4).heap[b]? = some (.cells #[v0, v1, v2, v3, v4] T) := by
  have h1 := heap_setCell_same _ _ 0 _ _ v0 h
  have h2 := heap_setCell_same _ _ 1 _ _ v1 h1
  have h3 := heap_setCell_same _ _ 2 _ _ v2 h2
  have h4 := heap_setCell_same _ _ 3 _ _ v3 h3
  have h5 := heap_setCell_same _ _ 4 _ _ v4 h4
  simpa using h5
theorem five_other5 (W : World) (b c : Nat) (v0 v1 v2 v3 v4 : Value) (h : c ≠ b) :
    (((((W.setCell ⟨b, 0, none⟩ v0).setCell ⟨b, 1, none⟩ v1).setCell ⟨b, 2, none⟩ v2).setCell ⟨b, 3, none⟩ v3).setCell ⟨b, 4, none⟩ v4).heap[c]? = W.heap[c]? := by
  rw [RowKit.Below.heap_setCell _ _ _ _ h, RowKit.Below.heap_setCell _ _ _ _ h, RowKit.Below.heap_setCell _ _ _ _ h, RowKit.Below.heap_setCell _ _ _ _ h, RowKit.Below.heap_setCell _ _ _ _ h]
end Go.Proofs.YtoopndgdaiblpaaDoor
