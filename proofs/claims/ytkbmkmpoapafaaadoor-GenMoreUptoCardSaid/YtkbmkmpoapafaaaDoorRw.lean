/- Nodes in a row of one's own. -/
import Derived.Test.YtkbmkmpoapafaaaDoorPn
import Derived.Test.YtkbmkmpoapafaaaDoorZn
import Derived.Test.YtkbmkmpoapafaaaDoorGz
namespace Go.Proofs.YtkbmkmpoapafaaaDoor
open Go.ChangeShapes Go.WideShapes Go.ChangeAt Go.RowKit

/-- Nodes in a row of one's own, what belongs to them in other blocks. -/
def RowN (W : World) (B : Nat) (v : Value) (l : List GN) : Prop := ∃ cs, W.ownsRow B 37 5 v l.length cs ∧ NC W (fun b => B ≤ b ∧ b < W.heap.size ∧ v.ownBlock ≠ some b) l cs
theorem RowN.gr {W : World} {B C : Nat} {v : Value} {l : List GN} (h : RowN W B v l) (hC : C ≤ B) : GrAt W (fun b => C ≤ b ∧ b < W.heap.size) v l := by
  obtain ⟨cs, h1, h2⟩ := h
  exact gr_own h1 h2 (fun b hb => ⟨by omega, hb.2.1⟩) (fun b hb => by have := h1.lt b hb; exact ⟨by omega, this.2⟩)
theorem RowN.of {W W' : World} {B : Nat} {v : Value} {l : List GN} (h : RowN W B v l) (hk : ∀ b, B ≤ b → b < W.heap.size → W'.heap[b]? = W.heap[b]?) (hs : W.heap.size ≤ W'.heap.size) : RowN W' B v l := by
  obtain ⟨cs, h1, h2⟩ := h
  exact ⟨cs, own_same h1 fun q hq => hk q (h1.lt q hq).1 (h1.lt q hq).2, h2.carry (fun b hb => hk b hb.1 hb.2.1) fun b hb => ⟨hb.1, by omega, hb.2.2⟩⟩
/-- A node more. -/
theorem RowN.push {w8 W6 w5 : World} {B : Nat} {v v' : Value} {l : List GN} {x : GN} {va vl : Value} {cs : List Value} (h2 : NC w8 (fun b => B ≤ b ∧ b < w8.heap.size ∧ v.ownBlock ≠ some b) l cs) (ha : Nums w8 (fun b => B ≤ b ∧ b < w8.heap.size ∧ v.ownBlock ≠ some b) va x.args) (hl : Strs w8 (fun b => B ≤ b ∧ b < w8.heap.size ∧ v.ownBlock ≠ some b) vl x.labels)
    (hB : Below w8.heap.size w8 W6) (hg : W6.grownBy w5 v.ownBlock) (hown : w5.ownsRow B 37 5 v' (l.length + 1) (cs ++ [.int .i64 x.k, .string x.nm, va, vl, .bool x.op])) (hat : v'.ownBlock = v.ownBlock ∨ ∃ q, v'.ownBlock = some q ∧ w8.heap.size ≤ q) : RowN w5 B v' (l ++ [x]) := by
  have s1 := hB.size
  have s2 := hg.size
  have hk : ∀ b, (B ≤ b ∧ b < w8.heap.size ∧ v.ownBlock ≠ some b) → w5.heap[b]? = w8.heap[b]? := fun b hb => (hg.block b (by omega) (fun h => hb.2.2 h.symm)).trans (hB.block b hb.2.1)
  have hS : ∀ b, (B ≤ b ∧ b < w8.heap.size ∧ v.ownBlock ≠ some b) → (B ≤ b ∧ b < w5.heap.size ∧ v'.ownBlock ≠ some b) := fun b hb => by
    refine ⟨hb.1, by omega, fun h => ?_⟩
    rcases hat with h' | ⟨q, h', hq⟩
    · exact hb.2.2 (h'.symm.trans h)
    · rw [h'] at h
      have := Option.some.inj h
      omega
  refine ⟨_, by rw [List.length_append]; exact hown, (h2.carry hk hS).append (.cons (ha.carry hk hS) (hl.carry hk hS) .nil)⟩

end Go.Proofs.YtkbmkmpoapafaaaDoor
