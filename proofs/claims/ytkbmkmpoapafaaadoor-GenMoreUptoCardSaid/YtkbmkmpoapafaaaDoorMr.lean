/- A row of marks. -/
import Derived.Test.YtkbmkmpoapafaaaDoorGs
namespace Go.Proofs.YtkbmkmpoapafaaaDoor
open Go.ChangeShapes Go.WideShapes Go.ChangeAt Go.RowKit

/-- Which nodes were met. -/
def MetR (W : World) (b N : Nat) (f : Nat → Bool) : Prop := ∃ cs T, W.heap[b]? = some (.cells cs T) ∧ ∀ i, i < N → cs[i]? = some (.bool (f i))
theorem MetR.cell {W : World} {b N : Nat} {f : Nat → Bool} (h : MetR W b N f) {i : Nat} (hi : i < N) : W.cell? ⟨b, i, none⟩ = some (.bool (f i)) := by
  obtain ⟨cs, T, h1, h2⟩ := h
  rw [Lib.cell_of_heap h1]; exact h2 i hi
theorem MetR.frozen {W : World} {b N : Nat} {f : Nat → Bool} (h : MetR W b N f) (i : Nat) : W.frozen? ⟨b, i, none⟩ = false := by
  obtain ⟨cs, T, h1, _⟩ := h
  exact Lib.frozen_of_heap h1 i
theorem MetR.lt {W : World} {b N : Nat} {f : Nat → Bool} (h : MetR W b N f) : b < W.heap.size := by
  obtain ⟨cs, T, h1, _⟩ := h
  exact (Array.getElem?_eq_some_iff.1 h1).1
theorem MetR.of {W W' : World} {b N : Nat} {f : Nat → Bool} (h : MetR W b N f) (hb : W'.heap[b]? = W.heap[b]?) : MetR W' b N f := by
  obtain ⟨cs, T, h1, h2⟩ := h
  exact ⟨cs, T, hb.trans h1, h2⟩
theorem MetR.set {W : World} {b N : Nat} {f g : Nat → Bool} (h : MetR W b N f) {i : Nat} (hi : i < N) (hg : ∀ j, j < N → g j = if j = i then true else f j) : MetR (W.setCell ⟨b, i, none⟩ (.bool true)) b N g := by
  obtain ⟨cs, T, h1, h2⟩ := h
  refine ⟨_, T, heap_setCell_same W b i cs T (.bool true) h1, fun j hj => ?_⟩
  rw [Array.getElem?_setIfInBounds, hg j hj]
  have hz : i < cs.size := (Array.getElem?_eq_some_iff.1 (h2 i hi)).1
  by_cases e : i = j
  · subst e; rw [if_pos rfl, if_pos hz, if_pos rfl]
  · rw [if_neg e, if_neg (fun h => e h.symm)]; exact h2 j hj
/-- One mark laid anew. -/
theorem MetR.put {W : World} {b N : Nat} {f : Nat → Bool} (h : MetR W b N f) {i : Nat} (hi : i < N) (v : Bool) : MetR (W.setCell ⟨b, i, none⟩ (.bool v)) b N (fun j => if j = i then v else f j) := by
  obtain ⟨cs, T, h1, h2⟩ := h
  refine ⟨_, T, heap_setCell_same W b i cs T (.bool v) h1, fun j hj => ?_⟩
  rw [Array.getElem?_setIfInBounds]
  have hz : i < cs.size := (Array.getElem?_eq_some_iff.1 (h2 i hi)).1
  by_cases e : i = j
  · subst e
    rw [if_pos rfl, if_pos hz]
    show _ = some (Value.bool (if i = i then v else f i))
    rw [if_pos rfl]
  · rw [if_neg e]
    show _ = some (Value.bool (if j = i then v else f j))
    rw [if_neg (fun h => e h.symm)]
    exact h2 j hj
theorem metr_made (W : World) (n : Nat) (T : TypeId) : MetR (W.alloc (.cells (madeCells #[.bool false] n) T)) W.heap.size n fun _ => false :=
  ⟨_, T, heap_last rfl, fun i hi => by simp [madeCells, hi, Nat.mod_one]⟩
end Go.Proofs.YtkbmkmpoapafaaaDoor
