/- The walk over a graph comes to its end: what is reached is closed, and its first is the root. -/
import Derived.Test.YtkbmkmpoapafaaaDoorFr
namespace Gu
theorem run_done {args : Nat → List Nat} {N r K : Nat} (hK : ∀ n, n < N → (args n).length ≤ K) (hlt : ∀ n, n < N → ∀ c ∈ args n, c < N) : ∀ (k : Nat) (order todo : List Nat), Way args N r order todo → left N K order todo ≤ k → Way args N r (runR args k order todo) []
  | 0, order, todo, h, hk => by
    have : todo = [] := List.eq_nil_of_length_eq_zero (by unfold left at hk; omega)
    subst this
    exact h
  | k + 1, order, todo, h, hk => by
    rcases List.eq_nil_or_concat todo with rfl | ⟨t, n, rfl⟩
    · simpa [runR] using h
    · rw [List.concat_eq_append] at h hk ⊢
      have hn : n < N := h.lt n (.inr (by simp))
      unfold runR
      rw [List.getLast?_concat, List.dropLast_concat]
      simp only
      by_cases hc : n ∈ order
      · rw [if_pos (by simpa using hc)]
        have := left_skip (N := N) (K := K) (n := n) (order := order) (todo := t)
        exact run_done hK hlt k order t (h.skip hc) (by omega)
      · rw [if_neg (by simpa using hc)]
        have := left_step h hc (hK n hn)
        exact run_done hK hlt k _ _ (h.step hc (hlt n hn)) (by omega)
end Gu
namespace Go.Proofs.YtkbmkmpoapafaaaDoor
open Go.ChangeShapes Go.WideShapes Go.ChangeAt Go.RowKit

theorem reachL_way {G : List GN} {r : Nat} (hok : checkG G (r : Int) = 0) (aG : ∀ x ∈ G, x.args.length ≤ 2000) : Gu.Way (argsOf G) G.length r (reachL G r) [] := by
  have hin := inside_iff.1 (checkG_ok.1 hok).2.1
  refine Gu.run_done (K := 2000) (fun n hn => ?_) (fun n hn => args_lt hok hn) _ _ _ (Gu.way_start (by omega)) (Nat.le_refl _)
  rw [argsOf_eq hn, List.length_map]
  exact aG _ (List.getElem_mem hn)
/-- What is reached, at a graph that may be. -/
theorem reachG_done {G : List GN} {r : Int} (hok : checkG G r = 0) (aG : ∀ x ∈ G, x.args.length ≤ 2000) : (reachG G r).Nodup ∧ (∀ x ∈ reachG G r, x < G.length) ∧ (reachG G r).head? = some r.toNat ∧ (∀ a ∈ reachG G r, ∀ c ∈ argsOf G a, c ∈ reachG G r) ∧ reachG G r = reachL G r.toNat := by
  have hin := inside_iff.1 (checkG_ok.1 hok).2.1
  obtain ⟨rn, rfl⟩ : ∃ rn : Nat, r = (rn : Int) := ⟨r.toNat, by omega⟩
  have h : reachG G (rn : Int) = reachL G rn := by unfold reachG; rw [if_pos hok]; rfl
  rw [h]
  obtain ⟨h1, h2, h3, h4⟩ := (reachL_way hok aG).done
  exact ⟨h1, h2, h3, h4, rfl⟩
end Go.Proofs.YtkbmkmpoapafaaaDoor
