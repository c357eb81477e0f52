/- trefoilref02.Of, at any parts. -/
import Derived.Test.YtoopndgdaiblpaaDoorOfM
import Derived.Test.YtoopndgdaiblpaaDoorOfI
namespace Go.Proofs.YtoopndgdaiblpaaDoor
open Go.ChangeShapes Go.WideShapes Go.ChangeAt Go.RowKit

/-- Of at any parts: the tree that they tell, and what is left of them. -/
theorem of_any (B : Nat) : ∀ (f : Nat) (l : List Pt) (v : Value) (W : World), B ≤ W.heap.size → l.length < f → l.length ≤ 1001 → PV W B v l → Calls Tryd.prog 10 #[v] W (OfGives B W (ofL f l))
  | 0, _, _, _, _, h, _, _ => absurd h (Nat.not_lt_zero _)
  | f + 1, [], v, W, hB, _, _, hv => by
    obtain ⟨x, c, rfl⟩ : ∃ x c, v = .slice x 0 c := by
      rcases hv with ⟨_, x, c, h⟩ | ⟨g, o, c, h, _⟩
      · exact ⟨x, c, h⟩
      · exact ⟨_, _, h⟩
    exact of_nil B (f + 1) x c W
  | f + 1, p :: r, v, W, hB, hf, hl, hv => by
    rcases hv with ⟨h, _⟩ | ⟨g, o, cap, rfl, h1, h2, h3, hpa⟩
    · cases h
    · have hok := (hpa 0 (by simp)).2.2.2.2.2
      rw [List.length_cons] at hf hl h1
      have ih : ∀ (l : List Pt) (v : Value) (W : World), B ≤ W.heap.size → l.length ≤ r.length → PV W B v l → Calls Tryd.prog 10 #[v] W (OfGives B W (ofL f l)) := fun l v W a b c => of_any B f l v W a (by omega) (by omega) c
      by_cases k1 : p.kind % 21 = 14
      · exact of_14 B f p r g o cap W k1 hok hpa h3 hB h1 h2 (by omega) ih
      by_cases k2 : p.kind % 21 = 18
      · exact of_18 B f p r g o cap W k2 hok hpa h3 hB h1 h2 (by omega) ih
      by_cases k3 : p.kind % 21 = 19
      · exact of_19 B f p r g o cap W k3 hok hpa h3 hB h1 h2 (by omega) ih
      by_cases k4 : p.kind % 21 = 20
      · exact of_20 B f p r g o cap W k4 hok hpa h3 hB h1 h2 (by omega) ih
      exact of_plain B f p r g o cap W ⟨k1, k2, k3, k4⟩ hok hpa h3 hB h1 h2 (by omega) ih
end Go.Proofs.YtoopndgdaiblpaaDoor
