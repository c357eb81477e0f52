/- Numbers as cells of a row of one's own. -/
import Derived.Test.YtkbmkmpoapafaaaDoorGy
namespace Go.Proofs.YtkbmkmpoapafaaaDoor
open Go.ChangeShapes Go.WideShapes Go.ChangeAt Go.RowKit

def numsI (l : List Int) : List Value := l.map (Value.int .i64)
theorem numsI_append (l m : List Int) : numsI (l ++ m) = numsI l ++ numsI m := by simp [numsI]
theorem nums_own {W : World} {S : Nat → Prop} {base : Nat} {e : TypeId} {v : Value} {l : List Int} (h : W.ownsRow base e 1 v l.length (numsI l)) (hS : ∀ b, v.ownBlock = some b → S b) : Nums W S v l := by
  have h' := h
  rcases h.2 with ⟨rfl, h0⟩ | ⟨g, cap, cur, rfl, hb, hg, h1, h2, _⟩
  · exact ⟨0, 0, .inl ⟨.inl rfl, h0⟩, fun i hi => by omega⟩
  · refine ⟨g, 0, .inr ⟨cap, rfl, h1, h2, hS g (by simp [Value.ownBlock])⟩, fun i hi => ?_⟩
    have := h'.cells (g := g) (by simp [Value.ownBlock]) i (.int .i64 l[i]) (by unfold numsI; rw [List.getElem?_map, List.getElem?_eq_getElem hi]; rfl)
    rw [Nat.zero_add]
    have e : (⟨g, 0, none⟩ : Addr).add i = ⟨g, i, none⟩ := by unfold Addr.add; split <;> simp_all
    rw [e] at this
    exact this
/-- Numbers that lie there, as cells. -/
theorem nums_sl {W : World} {S : Nat → Prop} {v : Value} {l : List Int} (h : Nums W S v l) : ∃ g o, Sl S v l.length g o ∧ ∀ j u, (numsI l)[j]? = some u → W.cell? ⟨g, o + j, none⟩ = some u := by
  obtain ⟨g, o, h1, h2⟩ := h
  refine ⟨g, o, h1, fun j u hj => ?_⟩
  unfold numsI at hj
  rw [List.getElem?_map, Option.map_eq_some_iff] at hj
  obtain ⟨a, ha, rfl⟩ := hj
  obtain ⟨hj, rfl⟩ := List.getElem?_eq_some_iff.1 ha
  exact h2 j hj
theorem own_has {W : World} {B n : Nat} {e : TypeId} {size : Nat} {v : Value} {xs : List Value} (h : W.ownsRow B e size v n xs) (hn : 0 < n) : ∃ g c, v = .slice (some ⟨g, 0, none⟩) n c ∧ n ≤ c ∧ c ≤ maxLen ∧ B ≤ g ∧ g < W.heap.size := by
  rcases h.2 with ⟨_, h0⟩ | ⟨g, cap, cur, rfl, hb, hg, h1, h2, _⟩
  · omega
  · exact ⟨g, cap, rfl, h1, h2, hb, (Array.getElem?_eq_some_iff.1 hg).1⟩

end Go.Proofs.YtkbmkmpoapafaaaDoor
