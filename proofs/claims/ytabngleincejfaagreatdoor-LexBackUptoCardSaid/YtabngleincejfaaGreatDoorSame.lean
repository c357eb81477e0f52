/- trefoilref01.Same of two rows of tokens that are the same. -/
import Derived.Test.YtabngleincejfaaGreatDoorLaw1
namespace Go.Proofs.YtabngleincejfaaGreatDoor
open Go.ChangeShapes Go.WideShapes Go.ChangeAt Go.RowKit

theorem cellsOf_length (l : List Tk) : (cellsOf l).length = 4 * l.length := by
  induction l with
  | nil => rfl
  | cons x r ih => simp only [cellsOf, List.flatMap_cons, List.length_append, List.length_cons] at *; rw [ih]; simp [Tk.cells]; omega
theorem cellsOf_at (l : List Tk) (i j : Nat) (hi : i < l.length) (hj : j < 4) : (cellsOf l)[4 * i + j]? = (l[i]).cells[j]? := by
  induction l generalizing i with
  | nil => simp at hi
  | cons x r ih =>
    have e : cellsOf (x :: r) = x.cells ++ cellsOf r := rfl
    rw [e]
    cases i with
    | zero => rw [List.getElem?_append_left (by simp [Tk.cells]; omega)]; simp
    | succ i =>
      rw [List.getElem?_append_right (by simp [Tk.cells]; omega)]
      have e2 : 4 * (i + 1) + j - x.cells.length = 4 * i + j := by simp [Tk.cells]; omega
      rw [e2, ih i (by simpa using hi)]; rfl

/-- A row of tokens lies at a place. -/
def RowAt (w : World) (g o : Nat) (l : List Tk) : Prop := ∀ i (h : i < l.length), w.cell? ⟨g, o + i * 4, none⟩ = some (.int .i64 l[i].kind) ∧ w.cell? ⟨g, o + i * 4 + 1, none⟩ = some (.int .i64 l[i].at_) ∧ w.cell? ⟨g, o + i * 4 + 2, none⟩ = some (.int .i64 l[i].n) ∧ w.cell? ⟨g, o + i * 4 + 3, none⟩ = some (.string l[i].t)

theorem same_yes (l : List Tk) (g1 o1 c1 g2 o2 c2 : Nat) (w : World) (h1 : RowAt w g1 o1 l) (h2 : RowAt w g2 o2 l) (hl : l.length ≤ 65537) :
    Calls Tryz.prog 7 #[.slice (some ⟨g1, o1, none⟩) l.length c1, .slice (some ⟨g2, o2, none⟩) l.length c2] w fun e w' => e = .returned (.bool true) ∧ Drawn w w' := by
  have H1 := Lib.hid h1
  have H2 := Lib.hid h2
  clear h1 h2
  go_enter Tryz.func7, Tryz.ntmps7
  go_wp2
  go_loopw [13] (fun x wr => ∃ k d : Nat, k ≤ l.length ∧ x = .int .i64 k ∧ wr = w.drewN d) (fun x _ => l.length - (intOf x).toNat)
  case atStart => exact ⟨0, 0, by omega, rfl, rfl⟩
  case round =>
    obtain ⟨k, d, hk, rfl, rfl⟩ := hrel
    by_cases hlt : k < l.length
    · obtain ⟨a0, a1, a2, a3⟩ := H1.out k hlt
      obtain ⟨b0, b1, b2, b3⟩ := H2.out k hlt
      have hi' : (k : Int) < (l.length : Int) := by omega
      generalize l[k].kind = k0 at *
      generalize l[k].at_ = k1 at *
      generalize l[k].n = k2 at *
      generalize l[k].t = k3 at *
      go_wp2
      go_quiet (fail)
      go_wp2
      exact ⟨⟨k + 1, d + nq, by omega, by go_num, rfl⟩, by simp [intOf]; omega⟩
    · go_wp2
      go_ret
      exact ⟨rfl, d, rfl⟩
end Go.Proofs.YtabngleincejfaaGreatDoor
