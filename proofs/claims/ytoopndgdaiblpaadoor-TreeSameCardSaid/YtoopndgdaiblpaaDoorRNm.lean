/- trefoilref01.IsName at a name of one letter. -/
import Derived.Test.YtoopndgdaiblpaaDoorTyC
namespace Go.Proofs.YtoopndgdaiblpaaDoor
open Go.ChangeShapes Go.WideShapes Go.ChangeAt Go.RowKit

set_option maxRecDepth 100000 in
theorem refSmall_at (c : Int) (w : World) (h : 97 ≤ c ∧ c ≤ 122) : Calls Tryd.prog 52 #[.int .u8 c] w fun e w' => e = .returned (.bool true) ∧ w = w' := by
  obtain ⟨h1, h2⟩ := h
  go_enter Tryd.func52, Tryd.ntmps52
  go_wp2_with fail
  go_ret
  exact ⟨rfl, rfl⟩

set_option maxRecDepth 100000 in
theorem refWord_at (c : UInt8) (w : World) (h : c = 97 ∨ c = 109 ∨ c = 110) : Calls Tryd.prog 49 #[.string ⟨#[c]⟩] w fun e w' => e = .returned (.int .i64 1) ∧ w = w' := by
  rcases h with rfl | rfl | rfl
  all_goals
    go_enter Tryd.func49, Tryd.ntmps49
    go_wp2_with (go_at_call 52; refine (refSmall_at _ _ (by decide)).mono ?_; rintro e w' ⟨rfl, rfl⟩)
    go_loopw [3] (fun i wr => i = .int .i64 1 ∧ wr = w) (fun _ _ => 0)
    case atStart => exact ⟨rfl, rfl⟩
    case round =>
      obtain ⟨rfl, rfl⟩ := hrel
      go_wp2_with fail
      go_ret
      exact ⟨rfl, rfl⟩

set_option maxHeartbeats 4000000 in
set_option maxRecDepth 100000 in
theorem refKey_at (c : UInt8) (w : World) (h : c = 97 ∨ c = 109 ∨ c = 110) : Calls Tryd.prog 48 #[.string ⟨#[c]⟩] w fun e w' => e = .returned (.bool false) ∧ w = w' := by
  rcases h with rfl | rfl | rfl
  all_goals
    go_enter Tryd.func48, Tryd.ntmps48
    go_wp2_with fail
    go_loopg [6] 19 (fun gk i wr => ∃ j, gk = 19 - j ∧ j ≤ 19 ∧ i = .int .i64 j ∧ wr = w)
    case atStart => exact ⟨0, rfl, Nat.zero_le _, rfl, rfl⟩
    case round =>
      obtain ⟨j, rfl, hj, rfl, rfl⟩ := hrel
      have h : j = 0 ∨ j = 1 ∨ j = 2 ∨ j = 3 ∨ j = 4 ∨ j = 5 ∨ j = 6 ∨ j = 7 ∨ j = 8 ∨ j = 9 ∨ j = 10 ∨ j = 11 ∨ j = 12 ∨ j = 13 ∨ j = 14 ∨ j = 15 ∨ j = 16 ∨ j = 17 ∨ j = 18 ∨ j = 19 := by omega
      rcases h with rfl | rfl | rfl | rfl | rfl | rfl | rfl | rfl | rfl | rfl | rfl | rfl | rfl | rfl | rfl | rfl | rfl | rfl | rfl | rfl
      · have ik : ∀ w, (Instr.index 96 (.agg #[.string ⟨#[97, 110, 100]⟩, .string ⟨#[97, 115]⟩, .string ⟨#[99, 108, 97, 115, 115]⟩, .string ⟨#[101, 108, 115, 101]⟩, .string ⟨#[101, 110, 100]⟩, .string ⟨#[102, 97, 108, 115, 101]⟩, .string ⟨#[102, 117, 110]⟩, .string ⟨#[105, 102]⟩, .string ⟨#[105, 110]⟩, .string ⟨#[105, 110, 104, 101, 114, 105, 116]⟩, .string ⟨#[108, 101, 116]⟩, .string ⟨#[109, 101, 116, 104, 111, 100]⟩, .string ⟨#[110, 101, 119]⟩, .string ⟨#[111, 98, 106, 101, 99, 116]⟩, .string ⟨#[114, 101, 99]⟩, .string ⟨#[116, 104, 101, 110]⟩, .string ⟨#[116, 114, 117, 101]⟩, .string ⟨#[118, 97, 108]⟩, .string ⟨#[118, 105, 114, 116, 117, 97, 108]⟩]) (.int .i64 0)).run Tryd.prog w = .ok (.string ⟨#[97, 110, 100]⟩) w := fun _ => by kernel_rfl
        go_wp2_with fail
        go_roundg 18
        case measure => omega
        case rel => exact ⟨1, rfl, by omega, by first | rfl | simp, rfl⟩
      · have ik : ∀ w, (Instr.index 96 (.agg #[.string ⟨#[97, 110, 100]⟩, .string ⟨#[97, 115]⟩, .string ⟨#[99, 108, 97, 115, 115]⟩, .string ⟨#[101, 108, 115, 101]⟩, .string ⟨#[101, 110, 100]⟩, .string ⟨#[102, 97, 108, 115, 101]⟩, .string ⟨#[102, 117, 110]⟩, .string ⟨#[105, 102]⟩, .string ⟨#[105, 110]⟩, .string ⟨#[105, 110, 104, 101, 114, 105, 116]⟩, .string ⟨#[108, 101, 116]⟩, .string ⟨#[109, 101, 116, 104, 111, 100]⟩, .string ⟨#[110, 101, 119]⟩, .string ⟨#[111, 98, 106, 101, 99, 116]⟩, .string ⟨#[114, 101, 99]⟩, .string ⟨#[116, 104, 101, 110]⟩, .string ⟨#[116, 114, 117, 101]⟩, .string ⟨#[118, 97, 108]⟩, .string ⟨#[118, 105, 114, 116, 117, 97, 108]⟩]) (.int .i64 1)).run Tryd.prog w = .ok (.string ⟨#[97, 115]⟩) w := fun _ => by kernel_rfl
        go_wp2_with fail
        go_roundg 17
        case measure => omega
        case rel => exact ⟨2, rfl, by omega, by first | rfl | simp, rfl⟩
      · have ik : ∀ w, (Instr.index 96 (.agg #[.string ⟨#[97, 110, 100]⟩, .string ⟨#[97, 115]⟩, .string ⟨#[99, 108, 97, 115, 115]⟩, .string ⟨#[101, 108, 115, 101]⟩, .string ⟨#[101, 110, 100]⟩, .string ⟨#[102, 97, 108, 115, 101]⟩, .string ⟨#[102, 117, 110]⟩, .string ⟨#[105, 102]⟩, .string ⟨#[105, 110]⟩, .string ⟨#[105, 110, 104, 101, 114, 105, 116]⟩, .string ⟨#[108, 101, 116]⟩, .string ⟨#[109, 101, 116, 104, 111, 100]⟩, .string ⟨#[110, 101, 119]⟩, .string ⟨#[111, 98, 106, 101, 99, 116]⟩, .string ⟨#[114, 101, 99]⟩, .string ⟨#[116, 104, 101, 110]⟩, .string ⟨#[116, 114, 117, 101]⟩, .string ⟨#[118, 97, 108]⟩, .string ⟨#[118, 105, 114, 116, 117, 97, 108]⟩]) (.int .i64 2)).run Tryd.prog w = .ok (.string ⟨#[99, 108, 97, 115, 115]⟩) w := fun _ => by kernel_rfl
        go_wp2_with fail
        go_roundg 16
        case measure => omega
        case rel => exact ⟨3, rfl, by omega, by first | rfl | simp, rfl⟩
      · have ik : ∀ w, (Instr.index 96 (.agg #[.string ⟨#[97, 110, 100]⟩, .string ⟨#[97, 115]⟩, .string ⟨#[99, 108, 97, 115, 115]⟩, .string ⟨#[101, 108, 115, 101]⟩, .string ⟨#[101, 110, 100]⟩, .string ⟨#[102, 97, 108, 115, 101]⟩, .string ⟨#[102, 117, 110]⟩, .string ⟨#[105, 102]⟩, .string ⟨#[105, 110]⟩, .string ⟨#[105, 110, 104, 101, 114, 105, 116]⟩, .string ⟨#[108, 101, 116]⟩, .string ⟨#[109, 101, 116, 104, 111, 100]⟩, .string ⟨#[110, 101, 119]⟩, .string ⟨#[111, 98, 106, 101, 99, 116]⟩, .string ⟨#[114, 101, 99]⟩, .string ⟨#[116, 104, 101, 110]⟩, .string ⟨#[116, 114, 117, 101]⟩, .string ⟨#[118, 97, 108]⟩, .string ⟨#[118, 105, 114, 116, 117, 97, 108]⟩]) (.int .i64 3)).run Tryd.prog w = .ok (.string ⟨#[101, 108, 115, 101]⟩) w := fun _ => by kernel_rfl
        go_wp2_with fail
        go_roundg 15
        case measure => omega
        case rel => exact ⟨4, rfl, by omega, by first | rfl | simp, rfl⟩
      · have ik : ∀ w, (Instr.index 96 (.agg #[.string ⟨#[97, 110, 100]⟩, .string ⟨#[97, 115]⟩, .string ⟨#[99, 108, 97, 115, 115]⟩, .string ⟨#[101, 108, 115, 101]⟩, .string ⟨#[101, 110, 100]⟩, .string ⟨#[102, 97, 108, 115, 101]⟩, .string ⟨#[102, 117, 110]⟩, .string ⟨#[105, 102]⟩, .string ⟨#[105, 110]⟩, .string ⟨#[105, 110, 104, 101, 114, 105, 116]⟩, .string ⟨#[108, 101, 116]⟩, .string ⟨#[109, 101, 116, 104, 111, 100]⟩, .string ⟨#[110, 101, 119]⟩, .string ⟨#[111, 98, 106, 101, 99, 116]⟩, .string ⟨#[114, 101, 99]⟩, .string ⟨#[116, 104, 101, 110]⟩, .string ⟨#[116, 114, 117, 101]⟩, .string ⟨#[118, 97, 108]⟩, .string ⟨#[118, 105, 114, 116, 117, 97, 108]⟩]) (.int .i64 4)).run Tryd.prog w = .ok (.string ⟨#[101, 110, 100]⟩) w := fun _ => by kernel_rfl
        go_wp2_with fail
        go_roundg 14
        case measure => omega
        case rel => exact ⟨5, rfl, by omega, by first | rfl | simp, rfl⟩
      · have ik : ∀ w, (Instr.index 96 (.agg #[.string ⟨#[97, 110, 100]⟩, .string ⟨#[97, 115]⟩, .string ⟨#[99, 108, 97, 115, 115]⟩, .string ⟨#[101, 108, 115, 101]⟩, .string ⟨#[101, 110, 100]⟩, .string ⟨#[102, 97, 108, 115, 101]⟩, .string ⟨#[102, 117, 110]⟩, .string ⟨#[105, 102]⟩, .string ⟨#[105, 110]⟩, .string ⟨#[105, 110, 104, 101, 114, 105, 116]⟩, .string ⟨#[108, 101, 116]⟩, .string ⟨#[109, 101, 116, 104, 111, 100]⟩, .string ⟨#[110, 101, 119]⟩, .string ⟨#[111, 98, 106, 101, 99, 116]⟩, .string ⟨#[114, 101, 99]⟩, .string ⟨#[116, 104, 101, 110]⟩, .string ⟨#[116, 114, 117, 101]⟩, .string ⟨#[118, 97, 108]⟩, .string ⟨#[118, 105, 114, 116, 117, 97, 108]⟩]) (.int .i64 5)).run Tryd.prog w = .ok (.string ⟨#[102, 97, 108, 115, 101]⟩) w := fun _ => by kernel_rfl
        go_wp2_with fail
        go_roundg 13
        case measure => omega
        case rel => exact ⟨6, rfl, by omega, by first | rfl | simp, rfl⟩
      · have ik : ∀ w, (Instr.index 96 (.agg #[.string ⟨#[97, 110, 100]⟩, .string ⟨#[97, 115]⟩, .string ⟨#[99, 108, 97, 115, 115]⟩, .string ⟨#[101, 108, 115, 101]⟩, .string ⟨#[101, 110, 100]⟩, .string ⟨#[102, 97, 108, 115, 101]⟩, .string ⟨#[102, 117, 110]⟩, .string ⟨#[105, 102]⟩, .string ⟨#[105, 110]⟩, .string ⟨#[105, 110, 104, 101, 114, 105, 116]⟩, .string ⟨#[108, 101, 116]⟩, .string ⟨#[109, 101, 116, 104, 111, 100]⟩, .string ⟨#[110, 101, 119]⟩, .string ⟨#[111, 98, 106, 101, 99, 116]⟩, .string ⟨#[114, 101, 99]⟩, .string ⟨#[116, 104, 101, 110]⟩, .string ⟨#[116, 114, 117, 101]⟩, .string ⟨#[118, 97, 108]⟩, .string ⟨#[118, 105, 114, 116, 117, 97, 108]⟩]) (.int .i64 6)).run Tryd.prog w = .ok (.string ⟨#[102, 117, 110]⟩) w := fun _ => by kernel_rfl
        go_wp2_with fail
        go_roundg 12
        case measure => omega
        case rel => exact ⟨7, rfl, by omega, by first | rfl | simp, rfl⟩
      · have ik : ∀ w, (Instr.index 96 (.agg #[.string ⟨#[97, 110, 100]⟩, .string ⟨#[97, 115]⟩, .string ⟨#[99, 108, 97, 115, 115]⟩, .string ⟨#[101, 108, 115, 101]⟩, .string ⟨#[101, 110, 100]⟩, .string ⟨#[102, 97, 108, 115, 101]⟩, .string ⟨#[102, 117, 110]⟩, .string ⟨#[105, 102]⟩, .string ⟨#[105, 110]⟩, .string ⟨#[105, 110, 104, 101, 114, 105, 116]⟩, .string ⟨#[108, 101, 116]⟩, .string ⟨#[109, 101, 116, 104, 111, 100]⟩, .string ⟨#[110, 101, 119]⟩, .string ⟨#[111, 98, 106, 101, 99, 116]⟩, .string ⟨#[114, 101, 99]⟩, .string ⟨#[116, 104, 101, 110]⟩, .string ⟨#[116, 114, 117, 101]⟩, .string ⟨#[118, 97, 108]⟩, .string ⟨#[118, 105, 114, 116, 117, 97, 108]⟩]) (.int .i64 7)).run Tryd.prog w = .ok (.string ⟨#[105, 102]⟩) w := fun _ => by kernel_rfl
        go_wp2_with fail
        go_roundg 11
        case measure => omega
        case rel => exact ⟨8, rfl, by omega, by first | rfl | simp, rfl⟩
      · have ik : ∀ w, (Instr.index 96 (.agg #[.string ⟨#[97, 110, 100]⟩, .string ⟨#[97, 115]⟩, .string ⟨#[99, 108, 97, 115, 115]⟩, .string ⟨#[101, 108, 115, 101]⟩, .string ⟨#[101, 110, 100]⟩, .string ⟨#[102, 97, 108, 115, 101]⟩, .string ⟨#[102, 117, 110]⟩, .string ⟨#[105, 102]⟩, .string ⟨#[105, 110]⟩, .string ⟨#[105, 110, 104, 101, 114, 105, 116]⟩, .string ⟨#[108, 101, 116]⟩, .string ⟨#[109, 101, 116, 104, 111, 100]⟩, .string ⟨#[110, 101, 119]⟩, .string ⟨#[111, 98, 106, 101, 99, 116]⟩, .string ⟨#[114, 101, 99]⟩, .string ⟨#[116, 104, 101, 110]⟩, .string ⟨#[116, 114, 117, 101]⟩, .string ⟨#[118, 97, 108]⟩, .string ⟨#[118, 105, 114, 116, 117, 97, 108]⟩]) (.int .i64 8)).run Tryd.prog w = .ok (.string ⟨#[105, 110]⟩) w := fun _ => by kernel_rfl
        go_wp2_with fail
        go_roundg 10
        case measure => omega
        case rel => exact ⟨9, rfl, by omega, by first | rfl | simp, rfl⟩
      · have ik : ∀ w, (Instr.index 96 (.agg #[.string ⟨#[97, 110, 100]⟩, .string ⟨#[97, 115]⟩, .string ⟨#[99, 108, 97, 115, 115]⟩, .string ⟨#[101, 108, 115, 101]⟩, .string ⟨#[101, 110, 100]⟩, .string ⟨#[102, 97, 108, 115, 101]⟩, .string ⟨#[102, 117, 110]⟩, .string ⟨#[105, 102]⟩, .string ⟨#[105, 110]⟩, .string ⟨#[105, 110, 104, 101, 114, 105, 116]⟩, .string ⟨#[108, 101, 116]⟩, .string ⟨#[109, 101, 116, 104, 111, 100]⟩, .string ⟨#[110, 101, 119]⟩, .string ⟨#[111, 98, 106, 101, 99, 116]⟩, .string ⟨#[114, 101, 99]⟩, .string ⟨#[116, 104, 101, 110]⟩, .string ⟨#[116, 114, 117, 101]⟩, .string ⟨#[118, 97, 108]⟩, .string ⟨#[118, 105, 114, 116, 117, 97, 108]⟩]) (.int .i64 9)).run Tryd.prog w = .ok (.string ⟨#[105, 110, 104, 101, 114, 105, 116]⟩) w := fun _ => by kernel_rfl
        go_wp2_with fail
        go_roundg 9
        case measure => omega
        case rel => exact ⟨10, rfl, by omega, by first | rfl | simp, rfl⟩
      · have ik : ∀ w, (Instr.index 96 (.agg #[.string ⟨#[97, 110, 100]⟩, .string ⟨#[97, 115]⟩, .string ⟨#[99, 108, 97, 115, 115]⟩, .string ⟨#[101, 108, 115, 101]⟩, .string ⟨#[101, 110, 100]⟩, .string ⟨#[102, 97, 108, 115, 101]⟩, .string ⟨#[102, 117, 110]⟩, .string ⟨#[105, 102]⟩, .string ⟨#[105, 110]⟩, .string ⟨#[105, 110, 104, 101, 114, 105, 116]⟩, .string ⟨#[108, 101, 116]⟩, .string ⟨#[109, 101, 116, 104, 111, 100]⟩, .string ⟨#[110, 101, 119]⟩, .string ⟨#[111, 98, 106, 101, 99, 116]⟩, .string ⟨#[114, 101, 99]⟩, .string ⟨#[116, 104, 101, 110]⟩, .string ⟨#[116, 114, 117, 101]⟩, .string ⟨#[118, 97, 108]⟩, .string ⟨#[118, 105, 114, 116, 117, 97, 108]⟩]) (.int .i64 10)).run Tryd.prog w = .ok (.string ⟨#[108, 101, 116]⟩) w := fun _ => by kernel_rfl
        go_wp2_with fail
        go_roundg 8
        case measure => omega
        case rel => exact ⟨11, rfl, by omega, by first | rfl | simp, rfl⟩
      · have ik : ∀ w, (Instr.index 96 (.agg #[.string ⟨#[97, 110, 100]⟩, .string ⟨#[97, 115]⟩, .string ⟨#[99, 108, 97, 115, 115]⟩, .string ⟨#[101, 108, 115, 101]⟩, .string ⟨#[101, 110, 100]⟩, .string ⟨#[102, 97, 108, 115, 101]⟩, .string ⟨#[102, 117, 110]⟩, .string ⟨#[105, 102]⟩, .string ⟨#[105, 110]⟩, .string ⟨#[105, 110, 104, 101, 114, 105, 116]⟩, .string ⟨#[108, 101, 116]⟩, .string ⟨#[109, 101, 116, 104, 111, 100]⟩, .string ⟨#[110, 101, 119]⟩, .string ⟨#[111, 98, 106, 101, 99, 116]⟩, .string ⟨#[114, 101, 99]⟩, .string ⟨#[116, 104, 101, 110]⟩, .string ⟨#[116, 114, 117, 101]⟩, .string ⟨#[118, 97, 108]⟩, .string ⟨#[118, 105, 114, 116, 117, 97, 108]⟩]) (.int .i64 11)).run Tryd.prog w = .ok (.string ⟨#[109, 101, 116, 104, 111, 100]⟩) w := fun _ => by kernel_rfl
        go_wp2_with fail
        go_roundg 7
        case measure => omega
        case rel => exact ⟨12, rfl, by omega, by first | rfl | simp, rfl⟩
      · have ik : ∀ w, (Instr.index 96 (.agg #[.string ⟨#[97, 110, 100]⟩, .string ⟨#[97, 115]⟩, .string ⟨#[99, 108, 97, 115, 115]⟩, .string ⟨#[101, 108, 115, 101]⟩, .string ⟨#[101, 110, 100]⟩, .string ⟨#[102, 97, 108, 115, 101]⟩, .string ⟨#[102, 117, 110]⟩, .string ⟨#[105, 102]⟩, .string ⟨#[105, 110]⟩, .string ⟨#[105, 110, 104, 101, 114, 105, 116]⟩, .string ⟨#[108, 101, 116]⟩, .string ⟨#[109, 101, 116, 104, 111, 100]⟩, .string ⟨#[110, 101, 119]⟩, .string ⟨#[111, 98, 106, 101, 99, 116]⟩, .string ⟨#[114, 101, 99]⟩, .string ⟨#[116, 104, 101, 110]⟩, .string ⟨#[116, 114, 117, 101]⟩, .string ⟨#[118, 97, 108]⟩, .string ⟨#[118, 105, 114, 116, 117, 97, 108]⟩]) (.int .i64 12)).run Tryd.prog w = .ok (.string ⟨#[110, 101, 119]⟩) w := fun _ => by kernel_rfl
        go_wp2_with fail
        go_roundg 6
        case measure => omega
        case rel => exact ⟨13, rfl, by omega, by first | rfl | simp, rfl⟩
      · have ik : ∀ w, (Instr.index 96 (.agg #[.string ⟨#[97, 110, 100]⟩, .string ⟨#[97, 115]⟩, .string ⟨#[99, 108, 97, 115, 115]⟩, .string ⟨#[101, 108, 115, 101]⟩, .string ⟨#[101, 110, 100]⟩, .string ⟨#[102, 97, 108, 115, 101]⟩, .string ⟨#[102, 117, 110]⟩, .string ⟨#[105, 102]⟩, .string ⟨#[105, 110]⟩, .string ⟨#[105, 110, 104, 101, 114, 105, 116]⟩, .string ⟨#[108, 101, 116]⟩, .string ⟨#[109, 101, 116, 104, 111, 100]⟩, .string ⟨#[110, 101, 119]⟩, .string ⟨#[111, 98, 106, 101, 99, 116]⟩, .string ⟨#[114, 101, 99]⟩, .string ⟨#[116, 104, 101, 110]⟩, .string ⟨#[116, 114, 117, 101]⟩, .string ⟨#[118, 97, 108]⟩, .string ⟨#[118, 105, 114, 116, 117, 97, 108]⟩]) (.int .i64 13)).run Tryd.prog w = .ok (.string ⟨#[111, 98, 106, 101, 99, 116]⟩) w := fun _ => by kernel_rfl
        go_wp2_with fail
        go_roundg 5
        case measure => omega
        case rel => exact ⟨14, rfl, by omega, by first | rfl | simp, rfl⟩
      · have ik : ∀ w, (Instr.index 96 (.agg #[.string ⟨#[97, 110, 100]⟩, .string ⟨#[97, 115]⟩, .string ⟨#[99, 108, 97, 115, 115]⟩, .string ⟨#[101, 108, 115, 101]⟩, .string ⟨#[101, 110, 100]⟩, .string ⟨#[102, 97, 108, 115, 101]⟩, .string ⟨#[102, 117, 110]⟩, .string ⟨#[105, 102]⟩, .string ⟨#[105, 110]⟩, .string ⟨#[105, 110, 104, 101, 114, 105, 116]⟩, .string ⟨#[108, 101, 116]⟩, .string ⟨#[109, 101, 116, 104, 111, 100]⟩, .string ⟨#[110, 101, 119]⟩, .string ⟨#[111, 98, 106, 101, 99, 116]⟩, .string ⟨#[114, 101, 99]⟩, .string ⟨#[116, 104, 101, 110]⟩, .string ⟨#[116, 114, 117, 101]⟩, .string ⟨#[118, 97, 108]⟩, .string ⟨#[118, 105, 114, 116, 117, 97, 108]⟩]) (.int .i64 14)).run Tryd.prog w = .ok (.string ⟨#[114, 101, 99]⟩) w := fun _ => by kernel_rfl
        go_wp2_with fail
        go_roundg 4
        case measure => omega
        case rel => exact ⟨15, rfl, by omega, by first | rfl | simp, rfl⟩
      · have ik : ∀ w, (Instr.index 96 (.agg #[.string ⟨#[97, 110, 100]⟩, .string ⟨#[97, 115]⟩, .string ⟨#[99, 108, 97, 115, 115]⟩, .string ⟨#[101, 108, 115, 101]⟩, .string ⟨#[101, 110, 100]⟩, .string ⟨#[102, 97, 108, 115, 101]⟩, .string ⟨#[102, 117, 110]⟩, .string ⟨#[105, 102]⟩, .string ⟨#[105, 110]⟩, .string ⟨#[105, 110, 104, 101, 114, 105, 116]⟩, .string ⟨#[108, 101, 116]⟩, .string ⟨#[109, 101, 116, 104, 111, 100]⟩, .string ⟨#[110, 101, 119]⟩, .string ⟨#[111, 98, 106, 101, 99, 116]⟩, .string ⟨#[114, 101, 99]⟩, .string ⟨#[116, 104, 101, 110]⟩, .string ⟨#[116, 114, 117, 101]⟩, .string ⟨#[118, 97, 108]⟩, .string ⟨#[118, 105, 114, 116, 117, 97, 108]⟩]) (.int .i64 15)).run Tryd.prog w = .ok (.string ⟨#[116, 104, 101, 110]⟩) w := fun _ => by kernel_rfl
        go_wp2_with fail
        go_roundg 3
        case measure => omega
        case rel => exact ⟨16, rfl, by omega, by first | rfl | simp, rfl⟩
      · have ik : ∀ w, (Instr.index 96 (.agg #[.string ⟨#[97, 110, 100]⟩, .string ⟨#[97, 115]⟩, .string ⟨#[99, 108, 97, 115, 115]⟩, .string ⟨#[101, 108, 115, 101]⟩, .string ⟨#[101, 110, 100]⟩, .string ⟨#[102, 97, 108, 115, 101]⟩, .string ⟨#[102, 117, 110]⟩, .string ⟨#[105, 102]⟩, .string ⟨#[105, 110]⟩, .string ⟨#[105, 110, 104, 101, 114, 105, 116]⟩, .string ⟨#[108, 101, 116]⟩, .string ⟨#[109, 101, 116, 104, 111, 100]⟩, .string ⟨#[110, 101, 119]⟩, .string ⟨#[111, 98, 106, 101, 99, 116]⟩, .string ⟨#[114, 101, 99]⟩, .string ⟨#[116, 104, 101, 110]⟩, .string ⟨#[116, 114, 117, 101]⟩, .string ⟨#[118, 97, 108]⟩, .string ⟨#[118, 105, 114, 116, 117, 97, 108]⟩]) (.int .i64 16)).run Tryd.prog w = .ok (.string ⟨#[116, 114, 117, 101]⟩) w := fun _ => by kernel_rfl
        go_wp2_with fail
        go_roundg 2
        case measure => omega
        case rel => exact ⟨17, rfl, by omega, by first | rfl | simp, rfl⟩
      · have ik : ∀ w, (Instr.index 96 (.agg #[.string ⟨#[97, 110, 100]⟩, .string ⟨#[97, 115]⟩, .string ⟨#[99, 108, 97, 115, 115]⟩, .string ⟨#[101, 108, 115, 101]⟩, .string ⟨#[101, 110, 100]⟩, .string ⟨#[102, 97, 108, 115, 101]⟩, .string ⟨#[102, 117, 110]⟩, .string ⟨#[105, 102]⟩, .string ⟨#[105, 110]⟩, .string ⟨#[105, 110, 104, 101, 114, 105, 116]⟩, .string ⟨#[108, 101, 116]⟩, .string ⟨#[109, 101, 116, 104, 111, 100]⟩, .string ⟨#[110, 101, 119]⟩, .string ⟨#[111, 98, 106, 101, 99, 116]⟩, .string ⟨#[114, 101, 99]⟩, .string ⟨#[116, 104, 101, 110]⟩, .string ⟨#[116, 114, 117, 101]⟩, .string ⟨#[118, 97, 108]⟩, .string ⟨#[118, 105, 114, 116, 117, 97, 108]⟩]) (.int .i64 17)).run Tryd.prog w = .ok (.string ⟨#[118, 97, 108]⟩) w := fun _ => by kernel_rfl
        go_wp2_with fail
        go_roundg 1
        case measure => omega
        case rel => exact ⟨18, rfl, by omega, by first | rfl | simp, rfl⟩
      · have ik : ∀ w, (Instr.index 96 (.agg #[.string ⟨#[97, 110, 100]⟩, .string ⟨#[97, 115]⟩, .string ⟨#[99, 108, 97, 115, 115]⟩, .string ⟨#[101, 108, 115, 101]⟩, .string ⟨#[101, 110, 100]⟩, .string ⟨#[102, 97, 108, 115, 101]⟩, .string ⟨#[102, 117, 110]⟩, .string ⟨#[105, 102]⟩, .string ⟨#[105, 110]⟩, .string ⟨#[105, 110, 104, 101, 114, 105, 116]⟩, .string ⟨#[108, 101, 116]⟩, .string ⟨#[109, 101, 116, 104, 111, 100]⟩, .string ⟨#[110, 101, 119]⟩, .string ⟨#[111, 98, 106, 101, 99, 116]⟩, .string ⟨#[114, 101, 99]⟩, .string ⟨#[116, 104, 101, 110]⟩, .string ⟨#[116, 114, 117, 101]⟩, .string ⟨#[118, 97, 108]⟩, .string ⟨#[118, 105, 114, 116, 117, 97, 108]⟩]) (.int .i64 18)).run Tryd.prog w = .ok (.string ⟨#[118, 105, 114, 116, 117, 97, 108]⟩) w := fun _ => by kernel_rfl
        go_wp2_with fail
        go_roundg 0
        case measure => omega
        case rel => exact ⟨19, rfl, by omega, by first | rfl | simp, rfl⟩
      · go_wp2_with fail
        go_ret
        exact ⟨rfl, rfl⟩

set_option maxRecDepth 100000 in
theorem refName_at (c : UInt8) (w : World) (h : c = 97 ∨ c = 109 ∨ c = 110) : Calls Tryd.prog 39 #[.string ⟨#[c]⟩] w fun e w' => e = .returned (.bool true) ∧ w = w' := by
  have C1 := Lib.hid (refWord_at c w h)
  have C2 := Lib.hid (refKey_at c w h)
  clear h
  go_enter Tryd.func39, Tryd.ntmps39
  go_wp2_with (first | (go_at_call 49; refine C1.out.mono ?_; rintro e w' ⟨rfl, rfl⟩) | (go_at_call 48; refine C2.out.mono ?_; rintro e w' ⟨rfl, rfl⟩))
  go_ret
  exact ⟨rfl, rfl⟩

set_option maxRecDepth 100000 in
theorem refIsWord_a (w : World) : Calls Tryd.prog 38 #[.string ⟨#[97]⟩] w fun e w' => e = .returned (.bool true) ∧ w = w' := by
  go_enter Tryd.func38, Tryd.ntmps38
  go_wp2_with (go_at_call 39; refine (refName_at 97 _ (.inl rfl)).mono ?_; rintro e w' ⟨rfl, rfl⟩)
  go_ret
  exact ⟨rfl, rfl⟩
end Go.Proofs.YtoopndgdaiblpaaDoor
