/- trefoilref01.IsName. -/
import Derived.Test.YtelmigkbofnicaaDoorNamed
import Derived.Deep.LoopGhost
import Derived.Deep.Light
namespace Go.Proofs.YtelmigkbofnicaaDoor
open Go.ChangeShapes Go.WideShapes Go.ChangeAt Go.RowKit

theorem refSmall_any (n : Int) (w : World) : Calls Tryd.prog 49 #[.int .u8 n] w fun e w' => e = .returned (.bool (smallB n || n == 95)) ∧ w = w' := by
  go_enter Tryd.func49, Tryd.ntmps49
  go_wp2
  all_goals
    go_ret
    exact ⟨by unfold smallB; simp [*]; try omega, rfl⟩
theorem refDigit_any (n : Int) (w : World) : Calls Tryd.prog 51 #[.int .u8 n] w fun e w' => e = .returned (.bool (digitB n)) ∧ w = w' := by
  go_enter Tryd.func51, Tryd.ntmps51
  go_wp2
  all_goals
    go_ret
    exact ⟨by unfold digitB; simp [*]; try omega, rfl⟩
set_option linter.unusedSimpArgs false in
theorem refLetter_any (n : Int) (w : World) : Calls Tryd.prog 50 #[.int .u8 n] w fun e w' => e = .returned (.bool (letterB n)) ∧ w = w' := by
  go_enter Tryd.func50, Tryd.ntmps50
  go_wp2
  all_goals
    go_ret
    exact ⟨congrArg (fun b => Ending.returned (.bool b)) (by unfold letterB smallB; rw [Bool.eq_iff_iff]; simp only [Bool.or_eq_true, Bool.and_eq_true, decide_eq_true_eq, beq_iff_eq, Bool.false_eq_true, Bool.true_eq_false, true_iff, false_iff, iff_true, iff_false]; omega), rfl⟩
def keysL : List ByteArray := [⟨#[97, 110, 100]⟩, ⟨#[97, 115]⟩, ⟨#[99, 108, 97, 115, 115]⟩, ⟨#[101, 108, 115, 101]⟩, ⟨#[101, 110, 100]⟩, ⟨#[102, 97, 108, 115, 101]⟩, ⟨#[102, 117, 110]⟩, ⟨#[105, 102]⟩, ⟨#[105, 110]⟩, ⟨#[105, 110, 104, 101, 114, 105, 116]⟩, ⟨#[108, 101, 116]⟩, ⟨#[109, 101, 116, 104, 111, 100]⟩, ⟨#[110, 101, 119]⟩, ⟨#[111, 98, 106, 101, 99, 116]⟩, ⟨#[114, 101, 99]⟩, ⟨#[116, 104, 101, 110]⟩, ⟨#[116, 114, 117, 101]⟩, ⟨#[118, 97, 108]⟩, ⟨#[118, 105, 114, 116, 117, 97, 108]⟩]
def keyAt (j : Nat) : ByteArray := keysL[j]?.getD ⟨#[]⟩
theorem index_key (j : Nat) (hj : j < 19) (w : World) : (Instr.index 74 (.agg #[.string ⟨#[97, 110, 100]⟩, .string ⟨#[97, 115]⟩, .string ⟨#[99, 108, 97, 115, 115]⟩, .string ⟨#[101, 108, 115, 101]⟩, .string ⟨#[101, 110, 100]⟩, .string ⟨#[102, 97, 108, 115, 101]⟩, .string ⟨#[102, 117, 110]⟩, .string ⟨#[105, 102]⟩, .string ⟨#[105, 110]⟩, .string ⟨#[105, 110, 104, 101, 114, 105, 116]⟩, .string ⟨#[108, 101, 116]⟩, .string ⟨#[109, 101, 116, 104, 111, 100]⟩, .string ⟨#[110, 101, 119]⟩, .string ⟨#[111, 98, 106, 101, 99, 116]⟩, .string ⟨#[114, 101, 99]⟩, .string ⟨#[116, 104, 101, 110]⟩, .string ⟨#[116, 114, 117, 101]⟩, .string ⟨#[118, 97, 108]⟩, .string ⟨#[118, 105, 114, 116, 117, 97, 108]⟩]) (.int .i64 (j : Int))).run Tryd.prog w = .ok (.string (keyAt j)) w := by
  match j, hj with
  | 0, _ => exact (show (Instr.index 74 (.agg #[.string ⟨#[97, 110, 100]⟩, .string ⟨#[97, 115]⟩, .string ⟨#[99, 108, 97, 115, 115]⟩, .string ⟨#[101, 108, 115, 101]⟩, .string ⟨#[101, 110, 100]⟩, .string ⟨#[102, 97, 108, 115, 101]⟩, .string ⟨#[102, 117, 110]⟩, .string ⟨#[105, 102]⟩, .string ⟨#[105, 110]⟩, .string ⟨#[105, 110, 104, 101, 114, 105, 116]⟩, .string ⟨#[108, 101, 116]⟩, .string ⟨#[109, 101, 116, 104, 111, 100]⟩, .string ⟨#[110, 101, 119]⟩, .string ⟨#[111, 98, 106, 101, 99, 116]⟩, .string ⟨#[114, 101, 99]⟩, .string ⟨#[116, 104, 101, 110]⟩, .string ⟨#[116, 114, 117, 101]⟩, .string ⟨#[118, 97, 108]⟩, .string ⟨#[118, 105, 114, 116, 117, 97, 108]⟩]) (.int .i64 0)).run Tryd.prog w = .ok (.string ⟨#[97, 110, 100]⟩) w by kernel_rfl)
  | 1, _ => exact (show (Instr.index 74 (.agg #[.string ⟨#[97, 110, 100]⟩, .string ⟨#[97, 115]⟩, .string ⟨#[99, 108, 97, 115, 115]⟩, .string ⟨#[101, 108, 115, 101]⟩, .string ⟨#[101, 110, 100]⟩, .string ⟨#[102, 97, 108, 115, 101]⟩, .string ⟨#[102, 117, 110]⟩, .string ⟨#[105, 102]⟩, .string ⟨#[105, 110]⟩, .string ⟨#[105, 110, 104, 101, 114, 105, 116]⟩, .string ⟨#[108, 101, 116]⟩, .string ⟨#[109, 101, 116, 104, 111, 100]⟩, .string ⟨#[110, 101, 119]⟩, .string ⟨#[111, 98, 106, 101, 99, 116]⟩, .string ⟨#[114, 101, 99]⟩, .string ⟨#[116, 104, 101, 110]⟩, .string ⟨#[116, 114, 117, 101]⟩, .string ⟨#[118, 97, 108]⟩, .string ⟨#[118, 105, 114, 116, 117, 97, 108]⟩]) (.int .i64 1)).run Tryd.prog w = .ok (.string ⟨#[97, 115]⟩) w by kernel_rfl)
  | 2, _ => exact (show (Instr.index 74 (.agg #[.string ⟨#[97, 110, 100]⟩, .string ⟨#[97, 115]⟩, .string ⟨#[99, 108, 97, 115, 115]⟩, .string ⟨#[101, 108, 115, 101]⟩, .string ⟨#[101, 110, 100]⟩, .string ⟨#[102, 97, 108, 115, 101]⟩, .string ⟨#[102, 117, 110]⟩, .string ⟨#[105, 102]⟩, .string ⟨#[105, 110]⟩, .string ⟨#[105, 110, 104, 101, 114, 105, 116]⟩, .string ⟨#[108, 101, 116]⟩, .string ⟨#[109, 101, 116, 104, 111, 100]⟩, .string ⟨#[110, 101, 119]⟩, .string ⟨#[111, 98, 106, 101, 99, 116]⟩, .string ⟨#[114, 101, 99]⟩, .string ⟨#[116, 104, 101, 110]⟩, .string ⟨#[116, 114, 117, 101]⟩, .string ⟨#[118, 97, 108]⟩, .string ⟨#[118, 105, 114, 116, 117, 97, 108]⟩]) (.int .i64 2)).run Tryd.prog w = .ok (.string ⟨#[99, 108, 97, 115, 115]⟩) w by kernel_rfl)
  | 3, _ => exact (show (Instr.index 74 (.agg #[.string ⟨#[97, 110, 100]⟩, .string ⟨#[97, 115]⟩, .string ⟨#[99, 108, 97, 115, 115]⟩, .string ⟨#[101, 108, 115, 101]⟩, .string ⟨#[101, 110, 100]⟩, .string ⟨#[102, 97, 108, 115, 101]⟩, .string ⟨#[102, 117, 110]⟩, .string ⟨#[105, 102]⟩, .string ⟨#[105, 110]⟩, .string ⟨#[105, 110, 104, 101, 114, 105, 116]⟩, .string ⟨#[108, 101, 116]⟩, .string ⟨#[109, 101, 116, 104, 111, 100]⟩, .string ⟨#[110, 101, 119]⟩, .string ⟨#[111, 98, 106, 101, 99, 116]⟩, .string ⟨#[114, 101, 99]⟩, .string ⟨#[116, 104, 101, 110]⟩, .string ⟨#[116, 114, 117, 101]⟩, .string ⟨#[118, 97, 108]⟩, .string ⟨#[118, 105, 114, 116, 117, 97, 108]⟩]) (.int .i64 3)).run Tryd.prog w = .ok (.string ⟨#[101, 108, 115, 101]⟩) w by kernel_rfl)
  | 4, _ => exact (show (Instr.index 74 (.agg #[.string ⟨#[97, 110, 100]⟩, .string ⟨#[97, 115]⟩, .string ⟨#[99, 108, 97, 115, 115]⟩, .string ⟨#[101, 108, 115, 101]⟩, .string ⟨#[101, 110, 100]⟩, .string ⟨#[102, 97, 108, 115, 101]⟩, .string ⟨#[102, 117, 110]⟩, .string ⟨#[105, 102]⟩, .string ⟨#[105, 110]⟩, .string ⟨#[105, 110, 104, 101, 114, 105, 116]⟩, .string ⟨#[108, 101, 116]⟩, .string ⟨#[109, 101, 116, 104, 111, 100]⟩, .string ⟨#[110, 101, 119]⟩, .string ⟨#[111, 98, 106, 101, 99, 116]⟩, .string ⟨#[114, 101, 99]⟩, .string ⟨#[116, 104, 101, 110]⟩, .string ⟨#[116, 114, 117, 101]⟩, .string ⟨#[118, 97, 108]⟩, .string ⟨#[118, 105, 114, 116, 117, 97, 108]⟩]) (.int .i64 4)).run Tryd.prog w = .ok (.string ⟨#[101, 110, 100]⟩) w by kernel_rfl)
  | 5, _ => exact (show (Instr.index 74 (.agg #[.string ⟨#[97, 110, 100]⟩, .string ⟨#[97, 115]⟩, .string ⟨#[99, 108, 97, 115, 115]⟩, .string ⟨#[101, 108, 115, 101]⟩, .string ⟨#[101, 110, 100]⟩, .string ⟨#[102, 97, 108, 115, 101]⟩, .string ⟨#[102, 117, 110]⟩, .string ⟨#[105, 102]⟩, .string ⟨#[105, 110]⟩, .string ⟨#[105, 110, 104, 101, 114, 105, 116]⟩, .string ⟨#[108, 101, 116]⟩, .string ⟨#[109, 101, 116, 104, 111, 100]⟩, .string ⟨#[110, 101, 119]⟩, .string ⟨#[111, 98, 106, 101, 99, 116]⟩, .string ⟨#[114, 101, 99]⟩, .string ⟨#[116, 104, 101, 110]⟩, .string ⟨#[116, 114, 117, 101]⟩, .string ⟨#[118, 97, 108]⟩, .string ⟨#[118, 105, 114, 116, 117, 97, 108]⟩]) (.int .i64 5)).run Tryd.prog w = .ok (.string ⟨#[102, 97, 108, 115, 101]⟩) w by kernel_rfl)
  | 6, _ => exact (show (Instr.index 74 (.agg #[.string ⟨#[97, 110, 100]⟩, .string ⟨#[97, 115]⟩, .string ⟨#[99, 108, 97, 115, 115]⟩, .string ⟨#[101, 108, 115, 101]⟩, .string ⟨#[101, 110, 100]⟩, .string ⟨#[102, 97, 108, 115, 101]⟩, .string ⟨#[102, 117, 110]⟩, .string ⟨#[105, 102]⟩, .string ⟨#[105, 110]⟩, .string ⟨#[105, 110, 104, 101, 114, 105, 116]⟩, .string ⟨#[108, 101, 116]⟩, .string ⟨#[109, 101, 116, 104, 111, 100]⟩, .string ⟨#[110, 101, 119]⟩, .string ⟨#[111, 98, 106, 101, 99, 116]⟩, .string ⟨#[114, 101, 99]⟩, .string ⟨#[116, 104, 101, 110]⟩, .string ⟨#[116, 114, 117, 101]⟩, .string ⟨#[118, 97, 108]⟩, .string ⟨#[118, 105, 114, 116, 117, 97, 108]⟩]) (.int .i64 6)).run Tryd.prog w = .ok (.string ⟨#[102, 117, 110]⟩) w by kernel_rfl)
  | 7, _ => exact (show (Instr.index 74 (.agg #[.string ⟨#[97, 110, 100]⟩, .string ⟨#[97, 115]⟩, .string ⟨#[99, 108, 97, 115, 115]⟩, .string ⟨#[101, 108, 115, 101]⟩, .string ⟨#[101, 110, 100]⟩, .string ⟨#[102, 97, 108, 115, 101]⟩, .string ⟨#[102, 117, 110]⟩, .string ⟨#[105, 102]⟩, .string ⟨#[105, 110]⟩, .string ⟨#[105, 110, 104, 101, 114, 105, 116]⟩, .string ⟨#[108, 101, 116]⟩, .string ⟨#[109, 101, 116, 104, 111, 100]⟩, .string ⟨#[110, 101, 119]⟩, .string ⟨#[111, 98, 106, 101, 99, 116]⟩, .string ⟨#[114, 101, 99]⟩, .string ⟨#[116, 104, 101, 110]⟩, .string ⟨#[116, 114, 117, 101]⟩, .string ⟨#[118, 97, 108]⟩, .string ⟨#[118, 105, 114, 116, 117, 97, 108]⟩]) (.int .i64 7)).run Tryd.prog w = .ok (.string ⟨#[105, 102]⟩) w by kernel_rfl)
  | 8, _ => exact (show (Instr.index 74 (.agg #[.string ⟨#[97, 110, 100]⟩, .string ⟨#[97, 115]⟩, .string ⟨#[99, 108, 97, 115, 115]⟩, .string ⟨#[101, 108, 115, 101]⟩, .string ⟨#[101, 110, 100]⟩, .string ⟨#[102, 97, 108, 115, 101]⟩, .string ⟨#[102, 117, 110]⟩, .string ⟨#[105, 102]⟩, .string ⟨#[105, 110]⟩, .string ⟨#[105, 110, 104, 101, 114, 105, 116]⟩, .string ⟨#[108, 101, 116]⟩, .string ⟨#[109, 101, 116, 104, 111, 100]⟩, .string ⟨#[110, 101, 119]⟩, .string ⟨#[111, 98, 106, 101, 99, 116]⟩, .string ⟨#[114, 101, 99]⟩, .string ⟨#[116, 104, 101, 110]⟩, .string ⟨#[116, 114, 117, 101]⟩, .string ⟨#[118, 97, 108]⟩, .string ⟨#[118, 105, 114, 116, 117, 97, 108]⟩]) (.int .i64 8)).run Tryd.prog w = .ok (.string ⟨#[105, 110]⟩) w by kernel_rfl)
  | 9, _ => exact (show (Instr.index 74 (.agg #[.string ⟨#[97, 110, 100]⟩, .string ⟨#[97, 115]⟩, .string ⟨#[99, 108, 97, 115, 115]⟩, .string ⟨#[101, 108, 115, 101]⟩, .string ⟨#[101, 110, 100]⟩, .string ⟨#[102, 97, 108, 115, 101]⟩, .string ⟨#[102, 117, 110]⟩, .string ⟨#[105, 102]⟩, .string ⟨#[105, 110]⟩, .string ⟨#[105, 110, 104, 101, 114, 105, 116]⟩, .string ⟨#[108, 101, 116]⟩, .string ⟨#[109, 101, 116, 104, 111, 100]⟩, .string ⟨#[110, 101, 119]⟩, .string ⟨#[111, 98, 106, 101, 99, 116]⟩, .string ⟨#[114, 101, 99]⟩, .string ⟨#[116, 104, 101, 110]⟩, .string ⟨#[116, 114, 117, 101]⟩, .string ⟨#[118, 97, 108]⟩, .string ⟨#[118, 105, 114, 116, 117, 97, 108]⟩]) (.int .i64 9)).run Tryd.prog w = .ok (.string ⟨#[105, 110, 104, 101, 114, 105, 116]⟩) w by kernel_rfl)
  | 10, _ => exact (show (Instr.index 74 (.agg #[.string ⟨#[97, 110, 100]⟩, .string ⟨#[97, 115]⟩, .string ⟨#[99, 108, 97, 115, 115]⟩, .string ⟨#[101, 108, 115, 101]⟩, .string ⟨#[101, 110, 100]⟩, .string ⟨#[102, 97, 108, 115, 101]⟩, .string ⟨#[102, 117, 110]⟩, .string ⟨#[105, 102]⟩, .string ⟨#[105, 110]⟩, .string ⟨#[105, 110, 104, 101, 114, 105, 116]⟩, .string ⟨#[108, 101, 116]⟩, .string ⟨#[109, 101, 116, 104, 111, 100]⟩, .string ⟨#[110, 101, 119]⟩, .string ⟨#[111, 98, 106, 101, 99, 116]⟩, .string ⟨#[114, 101, 99]⟩, .string ⟨#[116, 104, 101, 110]⟩, .string ⟨#[116, 114, 117, 101]⟩, .string ⟨#[118, 97, 108]⟩, .string ⟨#[118, 105, 114, 116, 117, 97, 108]⟩]) (.int .i64 10)).run Tryd.prog w = .ok (.string ⟨#[108, 101, 116]⟩) w by kernel_rfl)
  | 11, _ => exact (show (Instr.index 74 (.agg #[.string ⟨#[97, 110, 100]⟩, .string ⟨#[97, 115]⟩, .string ⟨#[99, 108, 97, 115, 115]⟩, .string ⟨#[101, 108, 115, 101]⟩, .string ⟨#[101, 110, 100]⟩, .string ⟨#[102, 97, 108, 115, 101]⟩, .string ⟨#[102, 117, 110]⟩, .string ⟨#[105, 102]⟩, .string ⟨#[105, 110]⟩, .string ⟨#[105, 110, 104, 101, 114, 105, 116]⟩, .string ⟨#[108, 101, 116]⟩, .string ⟨#[109, 101, 116, 104, 111, 100]⟩, .string ⟨#[110, 101, 119]⟩, .string ⟨#[111, 98, 106, 101, 99, 116]⟩, .string ⟨#[114, 101, 99]⟩, .string ⟨#[116, 104, 101, 110]⟩, .string ⟨#[116, 114, 117, 101]⟩, .string ⟨#[118, 97, 108]⟩, .string ⟨#[118, 105, 114, 116, 117, 97, 108]⟩]) (.int .i64 11)).run Tryd.prog w = .ok (.string ⟨#[109, 101, 116, 104, 111, 100]⟩) w by kernel_rfl)
  | 12, _ => exact (show (Instr.index 74 (.agg #[.string ⟨#[97, 110, 100]⟩, .string ⟨#[97, 115]⟩, .string ⟨#[99, 108, 97, 115, 115]⟩, .string ⟨#[101, 108, 115, 101]⟩, .string ⟨#[101, 110, 100]⟩, .string ⟨#[102, 97, 108, 115, 101]⟩, .string ⟨#[102, 117, 110]⟩, .string ⟨#[105, 102]⟩, .string ⟨#[105, 110]⟩, .string ⟨#[105, 110, 104, 101, 114, 105, 116]⟩, .string ⟨#[108, 101, 116]⟩, .string ⟨#[109, 101, 116, 104, 111, 100]⟩, .string ⟨#[110, 101, 119]⟩, .string ⟨#[111, 98, 106, 101, 99, 116]⟩, .string ⟨#[114, 101, 99]⟩, .string ⟨#[116, 104, 101, 110]⟩, .string ⟨#[116, 114, 117, 101]⟩, .string ⟨#[118, 97, 108]⟩, .string ⟨#[118, 105, 114, 116, 117, 97, 108]⟩]) (.int .i64 12)).run Tryd.prog w = .ok (.string ⟨#[110, 101, 119]⟩) w by kernel_rfl)
  | 13, _ => exact (show (Instr.index 74 (.agg #[.string ⟨#[97, 110, 100]⟩, .string ⟨#[97, 115]⟩, .string ⟨#[99, 108, 97, 115, 115]⟩, .string ⟨#[101, 108, 115, 101]⟩, .string ⟨#[101, 110, 100]⟩, .string ⟨#[102, 97, 108, 115, 101]⟩, .string ⟨#[102, 117, 110]⟩, .string ⟨#[105, 102]⟩, .string ⟨#[105, 110]⟩, .string ⟨#[105, 110, 104, 101, 114, 105, 116]⟩, .string ⟨#[108, 101, 116]⟩, .string ⟨#[109, 101, 116, 104, 111, 100]⟩, .string ⟨#[110, 101, 119]⟩, .string ⟨#[111, 98, 106, 101, 99, 116]⟩, .string ⟨#[114, 101, 99]⟩, .string ⟨#[116, 104, 101, 110]⟩, .string ⟨#[116, 114, 117, 101]⟩, .string ⟨#[118, 97, 108]⟩, .string ⟨#[118, 105, 114, 116, 117, 97, 108]⟩]) (.int .i64 13)).run Tryd.prog w = .ok (.string ⟨#[111, 98, 106, 101, 99, 116]⟩) w by kernel_rfl)
  | 14, _ => exact (show (Instr.index 74 (.agg #[.string ⟨#[97, 110, 100]⟩, .string ⟨#[97, 115]⟩, .string ⟨#[99, 108, 97, 115, 115]⟩, .string ⟨#[101, 108, 115, 101]⟩, .string ⟨#[101, 110, 100]⟩, .string ⟨#[102, 97, 108, 115, 101]⟩, .string ⟨#[102, 117, 110]⟩, .string ⟨#[105, 102]⟩, .string ⟨#[105, 110]⟩, .string ⟨#[105, 110, 104, 101, 114, 105, 116]⟩, .string ⟨#[108, 101, 116]⟩, .string ⟨#[109, 101, 116, 104, 111, 100]⟩, .string ⟨#[110, 101, 119]⟩, .string ⟨#[111, 98, 106, 101, 99, 116]⟩, .string ⟨#[114, 101, 99]⟩, .string ⟨#[116, 104, 101, 110]⟩, .string ⟨#[116, 114, 117, 101]⟩, .string ⟨#[118, 97, 108]⟩, .string ⟨#[118, 105, 114, 116, 117, 97, 108]⟩]) (.int .i64 14)).run Tryd.prog w = .ok (.string ⟨#[114, 101, 99]⟩) w by kernel_rfl)
  | 15, _ => exact (show (Instr.index 74 (.agg #[.string ⟨#[97, 110, 100]⟩, .string ⟨#[97, 115]⟩, .string ⟨#[99, 108, 97, 115, 115]⟩, .string ⟨#[101, 108, 115, 101]⟩, .string ⟨#[101, 110, 100]⟩, .string ⟨#[102, 97, 108, 115, 101]⟩, .string ⟨#[102, 117, 110]⟩, .string ⟨#[105, 102]⟩, .string ⟨#[105, 110]⟩, .string ⟨#[105, 110, 104, 101, 114, 105, 116]⟩, .string ⟨#[108, 101, 116]⟩, .string ⟨#[109, 101, 116, 104, 111, 100]⟩, .string ⟨#[110, 101, 119]⟩, .string ⟨#[111, 98, 106, 101, 99, 116]⟩, .string ⟨#[114, 101, 99]⟩, .string ⟨#[116, 104, 101, 110]⟩, .string ⟨#[116, 114, 117, 101]⟩, .string ⟨#[118, 97, 108]⟩, .string ⟨#[118, 105, 114, 116, 117, 97, 108]⟩]) (.int .i64 15)).run Tryd.prog w = .ok (.string ⟨#[116, 104, 101, 110]⟩) w by kernel_rfl)
  | 16, _ => exact (show (Instr.index 74 (.agg #[.string ⟨#[97, 110, 100]⟩, .string ⟨#[97, 115]⟩, .string ⟨#[99, 108, 97, 115, 115]⟩, .string ⟨#[101, 108, 115, 101]⟩, .string ⟨#[101, 110, 100]⟩, .string ⟨#[102, 97, 108, 115, 101]⟩, .string ⟨#[102, 117, 110]⟩, .string ⟨#[105, 102]⟩, .string ⟨#[105, 110]⟩, .string ⟨#[105, 110, 104, 101, 114, 105, 116]⟩, .string ⟨#[108, 101, 116]⟩, .string ⟨#[109, 101, 116, 104, 111, 100]⟩, .string ⟨#[110, 101, 119]⟩, .string ⟨#[111, 98, 106, 101, 99, 116]⟩, .string ⟨#[114, 101, 99]⟩, .string ⟨#[116, 104, 101, 110]⟩, .string ⟨#[116, 114, 117, 101]⟩, .string ⟨#[118, 97, 108]⟩, .string ⟨#[118, 105, 114, 116, 117, 97, 108]⟩]) (.int .i64 16)).run Tryd.prog w = .ok (.string ⟨#[116, 114, 117, 101]⟩) w by kernel_rfl)
  | 17, _ => exact (show (Instr.index 74 (.agg #[.string ⟨#[97, 110, 100]⟩, .string ⟨#[97, 115]⟩, .string ⟨#[99, 108, 97, 115, 115]⟩, .string ⟨#[101, 108, 115, 101]⟩, .string ⟨#[101, 110, 100]⟩, .string ⟨#[102, 97, 108, 115, 101]⟩, .string ⟨#[102, 117, 110]⟩, .string ⟨#[105, 102]⟩, .string ⟨#[105, 110]⟩, .string ⟨#[105, 110, 104, 101, 114, 105, 116]⟩, .string ⟨#[108, 101, 116]⟩, .string ⟨#[109, 101, 116, 104, 111, 100]⟩, .string ⟨#[110, 101, 119]⟩, .string ⟨#[111, 98, 106, 101, 99, 116]⟩, .string ⟨#[114, 101, 99]⟩, .string ⟨#[116, 104, 101, 110]⟩, .string ⟨#[116, 114, 117, 101]⟩, .string ⟨#[118, 97, 108]⟩, .string ⟨#[118, 105, 114, 116, 117, 97, 108]⟩]) (.int .i64 17)).run Tryd.prog w = .ok (.string ⟨#[118, 97, 108]⟩) w by kernel_rfl)
  | 18, _ => exact (show (Instr.index 74 (.agg #[.string ⟨#[97, 110, 100]⟩, .string ⟨#[97, 115]⟩, .string ⟨#[99, 108, 97, 115, 115]⟩, .string ⟨#[101, 108, 115, 101]⟩, .string ⟨#[101, 110, 100]⟩, .string ⟨#[102, 97, 108, 115, 101]⟩, .string ⟨#[102, 117, 110]⟩, .string ⟨#[105, 102]⟩, .string ⟨#[105, 110]⟩, .string ⟨#[105, 110, 104, 101, 114, 105, 116]⟩, .string ⟨#[108, 101, 116]⟩, .string ⟨#[109, 101, 116, 104, 111, 100]⟩, .string ⟨#[110, 101, 119]⟩, .string ⟨#[111, 98, 106, 101, 99, 116]⟩, .string ⟨#[114, 101, 99]⟩, .string ⟨#[116, 104, 101, 110]⟩, .string ⟨#[116, 114, 117, 101]⟩, .string ⟨#[118, 97, 108]⟩, .string ⟨#[118, 105, 114, 116, 117, 97, 108]⟩]) (.int .i64 18)).run Tryd.prog w = .ok (.string ⟨#[118, 105, 114, 116, 117, 97, 108]⟩) w by kernel_rfl)
  | j + 19, h => exact absurd h (by omega)
def keysT : List (List UInt8) := [[97, 110, 100], [97, 115], [99, 108, 97, 115, 115], [101, 108, 115, 101], [101, 110, 100], [102, 97, 108, 115, 101], [102, 117, 110], [105, 102], [105, 110], [105, 110, 104, 101, 114, 105, 116], [108, 101, 116], [109, 101, 116, 104, 111, 100], [110, 101, 119], [111, 98, 106, 101, 99, 116], [114, 101, 99], [116, 104, 101, 110], [116, 114, 117, 101], [118, 97, 108], [118, 105, 114, 116, 117, 97, 108]]
theorem keysT_is : keysL.map (fun k => k.toList) = keysT := by kernel_rfl
set_option maxRecDepth 100000 in
theorem key_any (s : ByteArray) : keysL.any (fun k => k.toList == s.toList) = keyB s := by
  have h1 : keyB s = keysT.any (fun l => s.toList == l) := by
    simp only [keyB, keysT, List.any_cons, List.any_nil, Bool.or_false, Bool.or_assoc]
  have h2 : keysL.any (fun k => k.toList == s.toList) = (keysL.map (fun k => k.toList)).any (fun l => l == s.toList) := by rw [List.any_map]; rfl
  rw [h1, h2, keysT_is]
  refine congrArg (fun f => keysT.any f) (funext fun l => ?_)
  rw [Bool.eq_iff_iff]
  simp only [beq_iff_eq]
  exact ⟨Eq.symm, Eq.symm⟩
set_option maxHeartbeats 1000000 in
set_option maxRecDepth 100000 in
theorem refKey_any (s : ByteArray) (w : World) : Calls Tryd.prog 45 #[.string s] w fun e w' => e = .returned (.bool (keyB s)) ∧ w = w' := by
  go_enter Tryd.func45, Tryd.ntmps45
  go_wp2_with fail
  go_loopg [6] 19 (fun gk i wr => ∃ j : Nat, gk = 19 - j ∧ j ≤ 19 ∧ i = .int .i64 (j : Int) ∧ wr = w ∧ ∀ k, k < j → ((keyAt k).toList == s.toList) = false)
  case atStart => exact ⟨0, rfl, Nat.zero_le _, rfl, rfl, fun _ h => absurd h (by omega)⟩
  case round =>
    obtain ⟨j, rfl, hj, rfl, hw, hk⟩ := hrel
    rw [hw]
    clear hw
    by_cases hlt : j < 19
    · have ik := index_key j hlt
      have hi : (j : Int) < 19 := by omega
      obtain ⟨k, ek⟩ : ∃ k, keyAt j = k := ⟨_, rfl⟩
      rw [ek] at ik
      have HK := Lib.hid (And.intro hk ek)
      clear hk ek
      cases hz : (k.toList == s.toList)
      · go_wp2_with fail
        go_roundg (19 - (j + 1))
        case measure => omega
        case rel =>
          obtain ⟨hk, ek⟩ := HK.out
          refine ⟨j + 1, rfl, hlt, by first | rfl | simp, rfl, fun i hi => ?_⟩
          by_cases e : i = j
          · subst e; rw [ek]; exact hz
          · exact hk i (by omega)
      · go_wp2_with fail
        go_ret
        refine ⟨?_, rfl⟩
        have h : keyB s = true := by
          rw [← key_any, List.any_eq_true]
          refine ⟨keyAt j, ?_, by rw [HK.out.2]; exact hz⟩
          unfold keyAt
          rw [List.getElem?_eq_getElem (show j < keysL.length from hlt)]
          exact List.getElem_mem _
        rw [h]; rfl
    · have hi : ¬ (j : Int) < 19 := by omega
      have HK := Lib.hid hk
      clear hk
      go_wp2_with fail
      go_ret
      refine ⟨?_, rfl⟩
      have h : keyB s = false := by
        rw [← key_any, List.any_eq_false]
        intro k hk
        obtain ⟨i, hi, rfl⟩ := List.mem_iff_getElem.1 hk
        have h1 := HK.out i (show i < j by have : keysL.length = 19 := rfl; omega)
        unfold keyAt at h1
        rw [List.getElem?_eq_getElem hi] at h1
        simpa using h1
      rw [h]; rfl
theorem sort_one (n : Int) : (smallB n || n == 95) = true ↔ sortF n = 1 := by
  unfold sortF
  by_cases h1 : (n == 95) = true
  · rw [if_pos h1]; simp [h1]
  · rw [if_neg h1]
    by_cases h2 : smallB n = true
    · rw [if_pos h2]; simp [h2]
    · rw [if_neg h2]
      have h3 : (smallB n || n == 95) = false := by simp [h1, h2]
      rw [h3]
      refine ⟨fun h => (by cases h), fun h => ?_⟩
      split at h
      · omega
      · split at h
        · omega
        · split at h
          · omega
          · omega
set_option linter.unusedSimpArgs false in
set_option maxHeartbeats 1000000 in
set_option maxRecDepth 100000 in
theorem refWord_any (s : ByteArray) (w : World) (hs : s.size ≤ maxLen) : Calls Tryd.prog 44 #[.string s] w fun e w' => e = .returned (.int .i64 (wordLen (from_ s 0) : Int)) ∧ w = w' := by
  unfold maxLen at hs
  by_cases h0 : s.size = 0
  · have e0 : ((s.size : Int) == 0) = true := by simp [h0]
    have ew : wordLen (from_ s 0) = 0 := by rw [from_end s 0 (by omega)]; rfl
    rw [ew]
    clear ew
    go_enter Tryd.func44, Tryd.ntmps44
    go_wp2_with fail
    go_ret
    exact ⟨rfl, rfl⟩
  · have hi : 0 < s.size := by omega
    have e0 : ((s.size : Int) == 0) = false := by rw [beq_eq_false_iff_ne]; omega
    have hi' : (0 : Int) < (s.size : Int) := by omega
    cases hz : (smallB (s[0].toNat : Int) || (s[0].toNat : Int) == 95)
    · have ew : wordLen (from_ s 0) = 0 := wordLen_no s 0 hi (by
        have h : ¬ sortF (s[0].toNat : Int) = 1 := fun h => by rw [(sort_one _).2 h] at hz; cases hz
        simpa using h)
      rw [ew]
      clear ew
      have HZ := Lib.hid hz
      clear hz
      go_enter Tryd.func44, Tryd.ntmps44
      go_wp2_with (go_at_call 49; refine (refSmall_any _ _).mono ?_; rintro e w' ⟨rfl, rfl⟩; rw [HZ.out])
      go_ret
      exact ⟨rfl, rfl⟩
    · have H1 := Lib.hid ((sort_one _).1 hz)
      have HZ := Lib.hid hz
      clear hz
      go_enter Tryd.func44, Tryd.ntmps44
      go_wp2_with (go_at_call 49; refine (refSmall_any _ _).mono ?_; rintro e w' ⟨rfl, rfl⟩; rw [HZ.out])
      go_loopg [3] (s.size - 1) (fun gk v wr => ∃ k : Nat, gk = s.size - k ∧ 1 ≤ k ∧ k ≤ s.size ∧ v = .int .i64 (k : Int) ∧ wr = w ∧ ∀ j (h : j < s.size), 1 ≤ j → j < k → restB s[j] = true)
      case atStart => exact ⟨1, by first | rfl | omega, Nat.le_refl _, by omega, by first | rfl | simp, rfl, fun j h h2 h3 => by omega⟩
      case round =>
        obtain ⟨k, hgk, hk, hks, rfl, hw, hall⟩ := hrel
        rw [hw]
        clear hw
        have HA := Lib.hid hall
        clear hall
        by_cases hlt : k < s.size
        · have hk' : (k : Int) < (s.size : Int) := by omega
          obtain ⟨c, hc⟩ : ∃ c, s[k] = c := ⟨_, rfl⟩
          have HC := Lib.hid hc
          cases hl : letterB (c.toNat : Int)
          · cases hd : digitB (c.toNat : Int)
            · have hr : restB c = false := by unfold restB; rw [hl, hd]; rfl
              have HW := Lib.hid (wordLen_is s 0 k hi H1.out (by omega) hks (fun j h h2 h3 => HA.out j h (by omega) h3) (fun _ => by rw [HC.out]; exact hr))
              clear hr
              go_wp2_with (first | (go_at_call 50; refine (refLetter_any _ _).mono ?_; rintro e w' ⟨rfl, rfl⟩) | (go_at_call 51; refine (refDigit_any _ _).mono ?_; rintro e w' ⟨rfl, rfl⟩))
              go_ret
              exact ⟨by rw [HW.out]; rfl, rfl⟩
            · have hr : restB c = true := by unfold restB; rw [hl, hd]; rfl
              go_wp2_with (first | (go_at_call 50; refine (refLetter_any _ _).mono ?_; rintro e w' ⟨rfl, rfl⟩) | (go_at_call 51; refine (refDigit_any _ _).mono ?_; rintro e w' ⟨rfl, rfl⟩))
              go_roundg (s.size - (k + 1))
              case measure => omega
              case rel =>
                refine ⟨k + 1, rfl, by omega, hlt, by first | rfl | simp, rfl, fun j h h2 h3 => ?_⟩
                by_cases e : j = k
                · subst e; rw [HC.out]; exact hr
                · exact HA.out j h h2 (by omega)
          · have hr : restB c = true := by unfold restB; rw [hl]; rfl
            go_wp2_with (first | (go_at_call 50; refine (refLetter_any _ _).mono ?_; rintro e w' ⟨rfl, rfl⟩) | (go_at_call 51; refine (refDigit_any _ _).mono ?_; rintro e w' ⟨rfl, rfl⟩))
            go_roundg (s.size - (k + 1))
            case measure => omega
            case rel =>
              refine ⟨k + 1, rfl, by omega, hlt, by first | rfl | simp, rfl, fun j h h2 h3 => ?_⟩
              by_cases e : j = k
              · subst e; rw [HC.out]; exact hr
              · exact HA.out j h h2 (by omega)
        · have hk' : ¬ (k : Int) < (s.size : Int) := by omega
          have HW := Lib.hid (wordLen_is s 0 k hi H1.out (by omega) hks (fun j h h2 h3 => HA.out j h (by omega) h3) (fun h => absurd h hlt))
          go_wp2_with fail
          go_ret
          exact ⟨by rw [HW.out]; rfl, rfl⟩
set_option linter.unusedSimpArgs false in
set_option maxHeartbeats 1000000 in
set_option maxRecDepth 100000 in
theorem refName_any (s : ByteArray) (w : World) (hs : s.size ≤ maxLen) : Calls Tryd.prog 38 #[.string s] w fun e w' => e = .returned (.bool (nameB s)) ∧ w = w' := by
  have CW := Lib.hid (refWord_any s w hs)
  have CK := Lib.hid (refKey_any s w)
  obtain ⟨wl, hwl⟩ : ∃ wl, wordLen (from_ s 0) = wl := ⟨_, rfl⟩
  obtain ⟨kb, hkb⟩ : ∃ kb, keyB s = kb := ⟨_, rfl⟩
  rw [hwl] at CW
  rw [hkb] at CK
  have hn : nameB s = (decide (0 < s.size) && decide (wl = s.size) && decide (s.size ≤ 100) && !kb) := by unfold nameB isWordB; rw [hwl, hkb]
  by_cases h0 : 0 < s.size
  rotate_left
  · have hi : ¬ (0 : Int) < (s.size : Int) := by omega
    have e0 : (decide ((0 : Int) < (s.size : Int))) = false := decide_eq_false hi
    have hf : nameB s = false := by rw [hn]; simp [h0]
    rw [hf]
    clear hn hf
    go_enter Tryd.func38, Tryd.ntmps38
    go_wp2_with fail
    go_ret
    exact ⟨rfl, rfl⟩
  have hi : (0 : Int) < (s.size : Int) := by omega
  by_cases h1 : s.size ≤ 100
  rotate_left
  · have hj : (100 : Int) < (s.size : Int) := by omega
    have hf : nameB s = false := by rw [hn]; simp [h1]
    rw [hf]
    clear hn hf
    go_enter Tryd.func38, Tryd.ntmps38
    go_wp2_with fail
    go_ret
    exact ⟨rfl, rfl⟩
  have hj : (s.size : Int) ≤ 100 := by omega
  by_cases h2 : wl = s.size
  rotate_left
  · have e2 : ((wl : Int) == (s.size : Int)) = false := by rw [beq_eq_false_iff_ne]; omega
    have hf : nameB s = false := by rw [hn]; simp [h2]
    rw [hf]
    clear hn hf
    go_enter Tryd.func38, Tryd.ntmps38
    go_wp2_with (go_at_call 44; refine CW.out.mono ?_; rintro e w' ⟨rfl, rfl⟩)
    go_ret
    exact ⟨rfl, rfl⟩
  have e2 : ((wl : Int) == (s.size : Int)) = true := by rw [beq_iff_eq]; omega
  have hf : nameB s = !kb := by rw [hn]; simp [h0, h1, h2]
  rw [hf]
  clear hn hf
  cases kb
  all_goals
    go_enter Tryd.func38, Tryd.ntmps38
    go_wp2_with (first | (go_at_call 44; refine CW.out.mono ?_; rintro e w' ⟨rfl, rfl⟩) | (go_at_call 45; refine CK.out.mono ?_; rintro e w' ⟨rfl, rfl⟩))
    go_ret
    exact ⟨rfl, rfl⟩
end Go.Proofs.YtelmigkbofnicaaDoor
