/- The graph of trefoillaw13.alive. -/
import Derived.Test.YtkbmkmpoapafaaaDoorGa
import Derived.Test.YtkbmkmpoapafaaaDoorFh
namespace Go.Proofs.YtkbmkmpoapafaaaDoor
open Go.ChangeShapes Go.WideShapes Go.ChangeAt Go.RowKit

def alG : List GN := [arrow [1, 2], varG, varG]
theorem alG_args0 : argsOf alG 0 = [1, 2] := rfl
theorem alG_args : ∀ i, i ≠ 0 → argsOf alG i = []
  | 0, h => absurd rfl h
  | 1, _ => rfl
  | 2, _ => rfl
  | _ + 3, _ => rfl
theorem check_alG : checkG alG 0 = 0 := checkG_ok.2 ⟨by simp [alG], by simp [alG, inside_iff], fun x hx => by
  simp only [alG, List.mem_cons, List.not_mem_nil, or_false] at hx
  rcases hx with rfl | rfl | rfl
  · exact fit_arrow (by simp [alG]) (by simp [alG])
  · exact fit_var _
  · exact fit_var _⟩
theorem genC_alG : genC alG 0 [2] = 0 := genC_ok.2 ⟨check_alG, fun a ha => by rw [List.mem_singleton.1 ha]; simp [alG]⟩
set_option linter.unusedSimpArgs false in
theorem reach_alG : reachG alG 0 = [0, 1, 2] := by
  have hl : ∃ k, Gu.left alG.length 2000 [] [0] = k + 10 := ⟨Gu.left alG.length 2000 [] [0] - 10, by simp [Gu.left, alG]⟩
  obtain ⟨k, hk⟩ := hl
  unfold reachG
  rw [if_pos check_alG]
  unfold reachL
  rw [show (0 : Int).toNat = 0 from rfl, hk]
  simp [Gu.runR, Gu.fresh, alG_args0, alG_args 1 (by decide), alG_args 2 (by decide)]
theorem rch_lone {i j : Nat} (hi : i ≠ 0) : Gu.Rch (argsOf alG) [i] j ↔ j = i := by
  constructor
  · intro h
    induction h with
    | start h => exact List.mem_singleton.1 h
    | next _ hj ih => rw [ih, alG_args i hi] at hj; cases hj
  · intro h; rw [h]; exact .start (by simp)
theorem rch_zero {j : Nat} (hj : j < 3) : Gu.Rch (argsOf alG) [0] j := by
  have h0 : Gu.Rch (argsOf alG) [0] 0 := .start (by simp)
  match j, hj with
  | 0, _ => exact h0
  | 1, _ => exact h0.next (by rw [alG_args0]; simp)
  | 2, _ => exact h0.next (by rw [alG_args0]; simp)
theorem rchB_f {nx : Nat → List Nat} {F : List Nat} {i : Nat} (h : ¬ Gu.Rch nx F i) : rchB nx F i = false := by
  cases hb : rchB nx F i with
  | false => rfl
  | true => exact absurd (rchB_iff.1 hb) h
set_option linter.unusedSimpArgs false in
theorem genF_alG : genF alG 0 [2] = [1] := by
  unfold genF freeL
  rw [show alG.length = 3 from rfl, show List.range 3 = [0, 1, 2] from rfl, show ([2] : List Int).map Int.toNat = [2] from rfl, show (0 : Int).toNat = 0 from rfl]
  have a0 := rchB_iff.2 (rch_zero (j := 0) (by decide))
  have a1 := rchB_iff.2 (rch_zero (j := 1) (by decide))
  have a2 := rchB_iff.2 (rch_zero (j := 2) (by decide))
  have b1 : rchB (argsOf alG) [2] 1 = false := rchB_f fun h => by have := (rch_lone (by decide)).1 h; omega
  have b2 : rchB (argsOf alG) [2] 2 = true := rchB_iff.2 ((rch_lone (by decide)).2 rfl)
  have f0 : freeAt alG 0 = false := by simp [freeAt, alG, GN.freeB, arrow]
  have f1 : freeAt alG 1 = true := by simp [freeAt, alG, GN.freeB, varG]
  have f2 : freeAt alG 2 = true := by simp [freeAt, alG, GN.freeB, varG]
  simp [List.filter_cons, a0, a1, a2, b1, b2, f0, f1, f2]
theorem lead_alG : leadB alG 0 [2] 0 = true ∧ leadB alG 0 [2] 1 = true ∧ leadB alG 0 [2] 2 = false := by
  refine ⟨leadB_iff.2 ?_, leadB_iff.2 ?_, ?_⟩
  · rw [genF_alG]; exact ⟨1, by simp, rch_zero (by decide)⟩
  · rw [genF_alG]; exact ⟨1, by simp, (rch_lone (by decide)).2 rfl⟩
  · cases hb : leadB alG 0 [2] 2 with
    | false => rfl
    | true =>
      obtain ⟨a, ha, h⟩ := leadB_iff.1 hb
      rw [genF_alG] at ha
      have h1 := List.mem_singleton.1 ha
      have h2 := (rch_lone (by decide)).1 h
      omega
set_option linter.unusedSimpArgs false in
theorem ord_alG : ordG alG 0 [2] = [0, 1] := by
  obtain ⟨h0, h1, h2⟩ := lead_alG
  unfold ordG
  rw [reach_alG]
  simp [List.filter_cons, h0, h1, h2]
theorem fresh_alG : freshG alG 0 [2] = [arrow [1, 2], varG, varG, arrow [4, 2], varG] := by
  obtain ⟨h0, h1, h2⟩ := lead_alG
  unfold freshG
  rw [ord_alG]
  obtain ⟨b, hb⟩ : ∃ b, leadB alG 0 [2] = b := ⟨_, rfl⟩
  rw [hb] at h1 h2 ⊢
  have c1 : cpA b 3 [0, 1] 1 = 4 := by unfold cpA; rw [show (1 : Int).toNat = 1 from rfl, h1]; rfl
  have c2 : cpA b 3 [0, 1] 2 = 2 := by unfold cpA; rw [show (2 : Int).toNat = 2 from rfl, h2]; rfl
  have e : cpL b alG [0, 1] [0, 1] = [arrow [cpA b 3 [0, 1] 1, cpA b 3 [0, 1] 2], varG] := rfl
  rw [e, c1, c2]
  rfl
theorem freshR_alG : freshR alG 0 [2] = 3 := by
  obtain ⟨h0, h1, h2⟩ := lead_alG
  unfold freshR
  rw [ord_alG]
  unfold cpA
  rw [show (0 : Int).toNat = 0 from rfl, h0]
  rfl
theorem sized_alG : Sized alG := fun x hx => by
  simp only [alG, List.mem_cons, List.not_mem_nil, or_false] at hx
  rcases hx with rfl | rfl | rfl <;> exact fun s hs => by cases hs
theorem args_alG : ∀ x ∈ alG, x.args.length ≤ 2000 := fun x hx => by
  simp only [alG, List.mem_cons, List.not_mem_nil, or_false] at hx
  rcases hx with rfl | rfl | rfl <;> simp [arrow, varG]
theorem edges_alG : edges alG alG.length ≤ 2000 := by simp [edges, alG, arrow, varG]
end Go.Proofs.YtkbmkmpoapafaaaDoor
