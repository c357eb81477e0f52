/- The two graphs of GraphFree, plainly: they may be, have one and two free nodes, and aren't the same. -/
import Derived.Test.YtelmigkbofnicaaDoorGa
import Derived.Test.YtelmigkbofnicaaDoorFr
namespace Go.Proofs.YtelmigkbofnicaaDoor
open Go.ChangeShapes Go.WideShapes Go.ChangeAt Go.RowKit

def starG (a : List Int) : GN := { k := 2, nm := sStar, args := a, labels := [], op := false }
def oneG (G : List GN) : List GN := G ++ [varG, starG [(G.length : Int), (G.length : Int)]]
def twoG (G : List GN) : List GN := G ++ [varG, varG, starG [(G.length : Int), (G.length : Int) + 1]]
theorem arity_star : arityI sStar = 2 := by
  have ne : ∀ t : ByteArray, t.data ≠ #[42] → sStar ≠ t := fun t h e => h (by rw [← e]; rfl)
  unfold arityI
  rw [if_neg (by
    rintro (h | h | h | h)
    · exact ne _ (by decide) h
    · exact ne _ (by decide) h
    · exact ne _ (by decide) h
    · exact ne _ (by decide) h), if_pos (.inr rfl)]
theorem fit_star {a b n : Int} (ha : 0 ≤ a ∧ a < n) (hb : 0 ≤ b ∧ b < n) : fitG (starG [a, b]) n = true := by
  unfold fitG headB argsIn starG
  simp [arity_star, inside_iff, ha, hb]
theorem fit_more {x : GN} {n m : Int} (h : fitG x n = true) (hm : n ≤ m) : fitG x m = true := by
  have h1 := fit_args h
  unfold fitG at h ⊢
  rw [Bool.and_eq_true] at h ⊢
  refine ⟨?_, h.2⟩
  unfold argsIn
  rw [List.all_eq_true]
  intro a ha
  have := h1 a ha
  exact inside_iff.2 ⟨this.1, by omega⟩
theorem len_one (G : List GN) : (oneG G).length = G.length + 2 := by simp [oneG]
theorem len_two (G : List GN) : (twoG G).length = G.length + 3 := by simp [twoG]
theorem check_one {G : List GN} {r : Int} (h : checkG G r = 0) (hl : G.length ≤ 300) : checkG (oneG G) ((G.length : Int) + 1) = 0 := by
  refine checkG_ok.2 ⟨by rw [len_one]; omega, inside_iff.2 (by rw [len_one]; omega), fun x hx => ?_⟩
  rw [len_one]
  unfold oneG at hx
  rcases List.mem_append.1 hx with hx | hx
  · exact fit_more ((checkG_ok.1 h).2.2 x hx) (by omega)
  · simp only [List.mem_cons, List.not_mem_nil, or_false] at hx
    rcases hx with rfl | rfl
    · exact fit_var _
    · exact fit_star (by omega) (by omega)
theorem check_two {G : List GN} {r : Int} (h : checkG G r = 0) (hl : G.length ≤ 300) : checkG (twoG G) ((G.length : Int) + 2) = 0 := by
  refine checkG_ok.2 ⟨by rw [len_two]; omega, inside_iff.2 (by rw [len_two]; omega), fun x hx => ?_⟩
  rw [len_two]
  unfold twoG at hx
  rcases List.mem_append.1 hx with hx | hx
  · exact fit_more ((checkG_ok.1 h).2.2 x hx) (by omega)
  · simp only [List.mem_cons, List.not_mem_nil, or_false] at hx
    rcases hx with rfl | rfl | rfl
    · exact fit_var _
    · exact fit_var _
    · exact fit_star (by omega) (by omega)
theorem one0 (G : List GN) : (oneG G)[G.length]? = some varG := by simp [oneG]
theorem one1 (G : List GN) : (oneG G)[G.length + 1]? = some (starG [(G.length : Int), (G.length : Int)]) := by simp [oneG]
theorem two0 (G : List GN) : (twoG G)[G.length]? = some varG := by simp [twoG]
theorem two1 (G : List GN) : (twoG G)[G.length + 1]? = some varG := by simp [twoG]
theorem two2 (G : List GN) : (twoG G)[G.length + 2]? = some (starG [(G.length : Int), (G.length : Int) + 1]) := by simp [twoG]
theorem argsOf_at {G : List GN} {i : Nat} {x : GN} (h : G[i]? = some x) : argsOf G i = x.args.map Int.toNat := by
  unfold argsOf toG
  rw [List.getElem?_map, h]; rfl
theorem freeAt_at {G : List GN} {i : Nat} {x : GN} (h : G[i]? = some x) : freeAt G i = x.freeB := by
  unfold freeAt
  rw [h]; rfl
theorem reach_one (G : List GN) : reachL (oneG G) (G.length + 1) = [G.length + 1, G.length] := by
  have e0 : argsOf (oneG G) G.length = [] := argsOf_at (one0 G)
  have e1 : argsOf (oneG G) (G.length + 1) = [G.length, G.length] := (argsOf_at (one1 G)).trans (by simp [starG])
  have hl : ∃ k, Gu.left (oneG G).length 2000 [] [G.length + 1] = k + 10 := ⟨Gu.left (oneG G).length 2000 [] [G.length + 1] - 10, by rw [len_one]; simp [Gu.left]; omega⟩
  obtain ⟨k, hk⟩ := hl
  unfold reachL
  rw [hk]
  simp [Gu.runR, Gu.fresh, e0, e1]
theorem reach_two (G : List GN) : reachL (twoG G) (G.length + 2) = [G.length + 2, G.length, G.length + 1] := by
  have e0 : argsOf (twoG G) G.length = [] := argsOf_at (two0 G)
  have e1 : argsOf (twoG G) (G.length + 1) = [] := argsOf_at (two1 G)
  have e2 : argsOf (twoG G) (G.length + 2) = [G.length, G.length + 1] := (argsOf_at (two2 G)).trans (by simp [starG])
  have hl : ∃ k, Gu.left (twoG G).length 2000 [] [G.length + 2] = k + 10 := ⟨Gu.left (twoG G).length 2000 [] [G.length + 2] - 10, by rw [len_two]; simp [Gu.left]; omega⟩
  obtain ⟨k, hk⟩ := hl
  unfold reachL
  rw [hk]
  simp [Gu.runR, Gu.fresh, e0, e1, e2]
theorem free_one {G : List GN} {r : Int} (h : checkG G r = 0) (hl : G.length ≤ 300) : (freeG (oneG G) ((G.length : Int) + 1)).length = 1 := by
  unfold freeG reachG
  rw [if_pos (check_one h hl), show ((G.length : Int) + 1).toNat = G.length + 1 by omega, reach_one]
  simp [List.filter, freeAt_at (one0 G), freeAt_at (one1 G), GN.freeB, varG, starG]
theorem free_two {G : List GN} {r : Int} (h : checkG G r = 0) (hl : G.length ≤ 300) : (freeG (twoG G) ((G.length : Int) + 2)).length = 2 := by
  unfold freeG reachG
  rw [if_pos (check_two h hl), show ((G.length : Int) + 2).toNat = G.length + 2 by omega, reach_two]
  simp [List.filter, freeAt_at (two0 G), freeAt_at (two1 G), freeAt_at (two2 G), GN.freeB, varG, starG]
theorem toG_at {G : List GN} {i : Nat} {x : GN} (h : G[i]? = some x) : (toG G)[i]? = some (toN x) := by
  unfold toG
  rw [List.getElem?_map, h]; rfl
theorem differ (G : List GN) : sameGr (oneG G) ((G.length : Int) + 1) (twoG G) ((G.length : Int) + 2) = false := by
  cases hb : sameGr (oneG G) ((G.length : Int) + 1) (twoG G) ((G.length : Int) + 2) with
  | false => rfl
  | true =>
    exfalso
    obtain ⟨_, _, R, hr, hm⟩ := sameGr_iff.1 hb
    rw [show ((G.length : Int) + 1).toNat = G.length + 1 by omega, show ((G.length : Int) + 2).toNat = G.length + 2 by omega] at hr
    have k := fun i c d => hm.kids _ _ _ _ hr (toG_at (one1 G)) (toG_at (two2 G)) i c d
    have k0 := k 0 G.length G.length (by simp [toN, starG]) (by simp [toN, starG])
    have k1 := k 1 G.length (G.length + 1) (by simp [toN, starG]) (by simp [toN, starG])
    have := hm.fst _ _ _ _ k0 k1 (toG_at (one0 G)) (.inl rfl)
    omega
theorem sized_one {G : List GN} (h : Sized G) : Sized (oneG G) := fun x hx => by
  rcases List.mem_append.1 hx with hx | hx
  · exact h x hx
  · simp only [List.mem_cons, List.not_mem_nil, or_false] at hx
    rcases hx with rfl | rfl <;> exact fun s hs => by cases hs
theorem sized_two {G : List GN} (h : Sized G) : Sized (twoG G) := fun x hx => by
  rcases List.mem_append.1 hx with hx | hx
  · exact h x hx
  · simp only [List.mem_cons, List.not_mem_nil, or_false] at hx
    rcases hx with rfl | rfl | rfl <;> exact fun s hs => by cases hs
theorem args_one {G : List GN} (h : ∀ x ∈ G, x.args.length ≤ 2000) : ∀ x ∈ oneG G, x.args.length ≤ 2000 := fun x hx => by
  rcases List.mem_append.1 hx with hx | hx
  · exact h x hx
  · simp only [List.mem_cons, List.not_mem_nil, or_false] at hx
    rcases hx with rfl | rfl <;> simp [varG, starG]
theorem args_two {G : List GN} (h : ∀ x ∈ G, x.args.length ≤ 2000) : ∀ x ∈ twoG G, x.args.length ≤ 2000 := fun x hx => by
  rcases List.mem_append.1 hx with hx | hx
  · exact h x hx
  · simp only [List.mem_cons, List.not_mem_nil, or_false] at hx
    rcases hx with rfl | rfl | rfl <;> simp [varG, starG]
end Go.Proofs.YtelmigkbofnicaaDoor
