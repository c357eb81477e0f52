/- Pairs of nodes as a map's keys. -/
import Derived.Test.YtkbmkmpoapafaaaDoorGh
import Derived.DeepKeys4
import Derived.Maps.Own
import Derived.Maps.OwnOps
import Derived.Maps.OwnSet
import Derived.Maps.Views
namespace Go.Proofs.YtkbmkmpoapafaaaDoor
open Go.ChangeShapes Go.WideShapes Go.ChangeAt Go.RowKit
open Go.Maps

theorem laidOutG : laidOutB Tryd.prog = true := by kernel_rfl
theorem pairRow : (57 : TypeId) < Tryd.prog.types.size := of_decide_eq_true (by kernel_rfl)
theorem pairWide : (match Tryd.prog.underlying 57 with | some (.array _ _) | some (.struct _) => true | _ => false) = true := by rw [Tryd.underlying57]
set_option maxRecDepth 100000 in
theorem pairLaw : Keyed Tryd.prog 57 := Keyed.of_law (deep_law_laid laidOutG (m := 2) (by omega) pairRow (by kernel_rfl) pairWide)
theorem pairCells : Tryd.prog.cellsOf 57 = 2 := by kernel_rfl
theorem intCells : Tryd.prog.cellsOf 3 = 1 := by kernel_rfl
theorem pairKeyType : Tryd.prog.keyType 57 = true := by kernel_rfl
theorem pairFields : ∃ f0 f1 : Field, Tryd.prog.underlying 57 = some (.struct #[f0, f1]) ∧ f0.type = 3 ∧ f1.type = 3 ∧ f0.offset = 0 ∧ f1.offset = 1 ∧ (f0.name != "_") = true ∧ (f1.name != "_") = true :=
  ⟨_, _, Tryd.underlying57, rfl, rfl, rfl, rfl, by decide, by decide⟩
theorem zeroUnit (w : World) : (zeroValue 59).run Tryd.prog w = .ok (.agg #[]) w := by kernel_rfl
def kp (a b : Int) : Lit := .string (keyBytes [.int .i64 a, .int .i64 b])
theorem typesSome : ∃ m, Tryd.prog.types.size = m + 1 := ⟨Tryd.prog.types.size - 1, by have h : 57 < Tryd.prog.types.size := pairRow; omega⟩
theorem key_pair {a b : Int} (wa : (Lit.int .i64 a).wf = true) (wb : (Lit.int .i64 b).wf = true) : keyOf Tryd.prog 57 (.agg #[.int .i64 a, .int .i64 b]) = some (kp a b) := by
  obtain ⟨f0, f1, hu, t0, t1, o0, o1, n0, n1⟩ := pairFields
  obtain ⟨m, hm⟩ := typesSome
  have hi : Tryd.prog.underlying 3 = some (.int .i64) := Tryd.underlying3
  unfold keyOf kp
  simp only [hu]
  rw [if_pos (by simp [pairKeyType, Value.formed, hu, pairCells]), hm]
  unfold Program.keyLits
  simp only [hu, Value.cells]
  rw [if_pos ⟨by rw [pairCells]; rfl, by simp [n0, n1]⟩]
  simp [t0, t1, o0, o1, intCells, Program.keyLits, hi, wa, wb]
theorem kp_inj {a b c d : Int} (wa : (Lit.int .i64 a).wf = true) (wb : (Lit.int .i64 b).wf = true) (wc : (Lit.int .i64 c).wf = true) (wd : (Lit.int .i64 d).wf = true) (h : kp a b = kp c d) : a = c ∧ b = d := by
  have h1 := key_pair wa wb
  have h2 := key_pair wc wd
  rw [← h] at h2
  have := pairLaw.inj h1 h2
  simpa using this
end Go.Proofs.YtkbmkmpoapafaaaDoor
