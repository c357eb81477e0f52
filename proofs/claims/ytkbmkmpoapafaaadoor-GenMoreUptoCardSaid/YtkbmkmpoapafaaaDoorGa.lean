/- The graphs of trefoillaw06.alive. -/
import Derived.Test.YtkbmkmpoapafaaaDoorGp
import Derived.Test.YtkbmkmpoapafaaaDoorRh
namespace Go.Proofs.YtkbmkmpoapafaaaDoor
open Go.ChangeShapes Go.WideShapes Go.ChangeAt Go.RowKit

def arrow (a : List Int) : GN := { k := 2, nm := ⟨#[45, 62]⟩, args := a, labels := [], op := false }
def varG : GN := { k := 1, nm := ⟨#[]⟩, args := [], labels := [], op := false }
def aliveG : List GN := [arrow [1, 0], varG]
def aliveH : List GN := [arrow [1, 2], varG, arrow [1, 0]]
theorem arity_arrow : arityI ⟨#[45, 62]⟩ = 2 := by
  have ne : ∀ t : ByteArray, t.data ≠ #[45, 62] → (⟨#[45, 62]⟩ : ByteArray) ≠ t := fun t h e => h (by rw [← e])
  unfold arityI
  rw [if_neg (by
    rintro (h | h | h | h)
    · exact ne _ (by decide) h
    · exact ne _ (by decide) h
    · exact ne _ (by decide) h
    · exact ne _ (by decide) h), if_pos (.inl rfl)]
theorem fit_var (n : Int) : fitG varG n = true := by
  unfold fitG headB argsIn varG
  simp
theorem fit_arrow {a b n : Int} (ha : 0 ≤ a ∧ a < n) (hb : 0 ≤ b ∧ b < n) : fitG (arrow [a, b]) n = true := by
  unfold fitG headB argsIn arrow
  simp [arity_arrow, inside_iff, ha, hb]
theorem check_aliveG : checkG aliveG 0 = 0 := checkG_ok.2 ⟨by simp [aliveG], by simp [aliveG, inside_iff], fun x hx => by
  simp only [aliveG, List.mem_cons, List.not_mem_nil, or_false] at hx
  rcases hx with rfl | rfl
  · exact fit_arrow (by simp [aliveG]) (by simp [aliveG])
  · exact fit_var _⟩
theorem check_aliveH : checkG aliveH 0 = 0 := checkG_ok.2 ⟨by simp [aliveH], by simp [aliveH, inside_iff], fun x hx => by
  simp only [aliveH, List.mem_cons, List.not_mem_nil, or_false] at hx
  rcases hx with rfl | rfl | rfl
  · exact fit_arrow (by simp [aliveH]) (by simp [aliveH])
  · exact fit_var _
  · exact fit_arrow (by simp [aliveH]) (by simp [aliveH])⟩
theorem check_none : checkG [] 0 = 2 := checkG_out (by simp) (by simp [insideB])
theorem same_alive : sameGr aliveG 0 aliveH 0 = true := sameGr_iff.2 ⟨check_aliveG, check_aliveH, fun a b => (a = 0 ∧ b = 0) ∨ (a = 1 ∧ b = 1) ∨ (a = 0 ∧ b = 2), .inl ⟨rfl, rfl⟩, ⟨by
  rintro a b (⟨rfl, rfl⟩ | ⟨rfl, rfl⟩ | ⟨rfl, rfl⟩)
  · exact ⟨_, _, rfl, rfl, .refl _, rfl⟩
  · exact ⟨_, _, rfl, rfl, .refl _, rfl⟩
  · exact ⟨_, _, rfl, rfl, .refl _, rfl⟩, by
  rintro a b x y (⟨rfl, rfl⟩ | ⟨rfl, rfl⟩ | ⟨rfl, rfl⟩) hx hy i c d hc hd
  all_goals
    cases hx
    cases hy
    rcases i with _ | _ | i <;> first | (cases hc; cases hd; simp; done) | simp_all [toN, arrow, varG], by
  rintro a b b' x (⟨rfl, rfl⟩ | ⟨rfl, rfl⟩ | ⟨rfl, rfl⟩) h' hx hf
  all_goals
    cases hx
    first | (rcases h' with h | h | h <;> simp_all; done) | (exfalso; simp [Gu.Gn.free, toN, arrow] at hf), by
  rintro a a' b x (⟨rfl, rfl⟩ | ⟨rfl, rfl⟩ | ⟨rfl, rfl⟩) h' hx hf
  all_goals
    cases hx
    first | (rcases h' with h | h | h <;> simp_all; done) | (exfalso; simp [Gu.Gn.free, toN, arrow] at hf)⟩⟩
theorem reach_aliveH : (reachL aliveH 0).length = 3 := by
  have e0 : argsOf aliveH 0 = [1, 2] := rfl
  have e1 : argsOf aliveH 1 = [] := rfl
  have e2 : argsOf aliveH 2 = [1, 0] := rfl
  have hl : ∃ k, Gu.left aliveH.length 2000 [] [0] = k + 10 := ⟨Gu.left aliveH.length 2000 [] [0] - 10, by simp [Gu.left, aliveH]⟩
  obtain ⟨k, hk⟩ := hl
  unfold reachL
  rw [hk]
  simp [Gu.runR, Gu.fresh, e0, e1, e2]
end Go.Proofs.YtkbmkmpoapafaaaDoor
