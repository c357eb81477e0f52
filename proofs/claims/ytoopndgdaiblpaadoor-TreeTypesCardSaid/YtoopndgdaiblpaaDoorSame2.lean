/- tree.Same at a tree of variables and applications and itself. -/
import Derived.Test.YtoopndgdaiblpaaDoorCheck
namespace Go.Proofs.YtoopndgdaiblpaaDoor
open Go.ChangeShapes Go.WideShapes Go.ChangeAt Go.RowKit

theorem eq_nil (x y : Option Addr) (c d : Nat) (w : World) : Calls Tryd.prog 27 #[.slice x 0 c, .slice y 0 d] w fun e w' => e = .returned (.bool true) ∧ w' = w := by
  go_enter Tryd.func27, Tryd.ntmps27
  go_wp2_with fail
  go_loopw [13] (fun i wr => i = .int .i64 0 ∧ wr = w) (fun _ _ => 0)
  case atStart => exact ⟨rfl, rfl⟩
  case round =>
    obtain ⟨rfl, rfl⟩ := hrel
    go_wp2_with fail
    go_ret
    exact ⟨rfl, rfl⟩
theorem eqf_t (x y : Option Addr) (c d : Nat) (w : World) : Calls Tryd.prog 33 #[.slice x 0 c, .slice y 0 d, .func (.func 14) #[] #[]] w fun e w' => e = .returned (.bool true) ∧ w' = w := by
  go_enter Tryd.func33, Tryd.ntmps33
  go_wp2_with fail
  go_loopw [17] (fun i wr => i = .int .i64 0 ∧ wr = w) (fun _ _ => 0)
  case atStart => exact ⟨rfl, rfl⟩
  case round =>
    obtain ⟨rfl, rfl⟩ := hrel
    go_wp2_with fail
    go_ret
    exact ⟨rfl, rfl⟩
theorem eqf_m (x y : Option Addr) (c d : Nat) (w : World) : Calls Tryd.prog 34 #[.slice x 0 c, .slice y 0 d, .func (.func 35) #[] #[]] w fun e w' => e = .returned (.bool true) ∧ w' = w := by
  go_enter Tryd.func34, Tryd.ntmps34
  go_wp2_with fail
  go_loopw [17] (fun i wr => i = .int .i64 0 ∧ wr = w) (fun _ _ => 0)
  case atStart => exact ⟨rfl, rfl⟩
  case round =>
    obtain ⟨rfl, rfl⟩ := hrel
    go_wp2_with fail
    go_ret
    exact ⟨rfl, rfl⟩

set_option maxHeartbeats 1000000 in
set_option maxRecDepth 100000 in
/-- A part that lies in two places is alike. -/
theorem alike_ok (b o b' o' : Nat) (k : Int) (s : ByteArray) (m : Nat) (x3 x4 x5 x6 y3 y4 y5 y6 : Option Addr) (e3 e4 e5 e6 f3 f4 f5 f6 : Nat) (w : World)
    (h0 : w.cell? ⟨b, o, none⟩ = some (.int .i64 k)) (h1 : w.cell? ⟨b, o + 1, none⟩ = some (.string s)) (h2 : w.cell? ⟨b, o + 2, none⟩ = some (.int .i64 0)) (h3 : w.cell? ⟨b, o + 3, none⟩ = some (.slice x3 m e3)) (h4 : w.cell? ⟨b, o + 4, none⟩ = some (.slice x4 0 e4)) (h5 : w.cell? ⟨b, o + 5, none⟩ = some (.slice x5 0 e5)) (h6 : w.cell? ⟨b, o + 6, none⟩ = some (.slice x6 0 e6))
    (g0 : w.cell? ⟨b', o', none⟩ = some (.int .i64 k)) (g1 : w.cell? ⟨b', o' + 1, none⟩ = some (.string s)) (g2 : w.cell? ⟨b', o' + 2, none⟩ = some (.int .i64 0)) (g3 : w.cell? ⟨b', o' + 3, none⟩ = some (.slice y3 m f3)) (g4 : w.cell? ⟨b', o' + 4, none⟩ = some (.slice y4 0 f4)) (g5 : w.cell? ⟨b', o' + 5, none⟩ = some (.slice y5 0 f5)) (g6 : w.cell? ⟨b', o' + 6, none⟩ = some (.slice y6 0 f6)) :
    Calls Tryd.prog 23 #[.pointer (some ⟨b, o, none⟩), .pointer (some ⟨b', o', none⟩)] w fun e w' => e = .returned (.bool true) ∧ ∃ n, w' = w.drewN n := by
  have z1 : (s.toList == s.toList) = true := beq_self_eq_true _
  have z2 : (k == k) = true := beq_self_eq_true _
  have z3 : ((m : Int) == (m : Int)) = true := beq_self_eq_true _
  have C1 : Hid (∀ n, Calls Tryd.prog 27 #[.slice x4 0 e4, .slice y4 0 f4] (w.drewN n) fun e w' => e = .returned (.bool true) ∧ w' = w.drewN n) := Lib.hid fun n => eq_nil x4 y4 e4 f4 _
  have C2 : Hid (∀ n, Calls Tryd.prog 33 #[.slice x5 0 e5, .slice y5 0 f5, .func (.func 14) #[] #[]] (w.drewN n) fun e w' => e = .returned (.bool true) ∧ w' = w.drewN n) := Lib.hid fun n => eqf_t x5 y5 e5 f5 _
  have C3 : Hid (∀ n, Calls Tryd.prog 34 #[.slice x6 0 e6, .slice y6 0 f6, .func (.func 35) #[] #[]] (w.drewN n) fun e w' => e = .returned (.bool true) ∧ w' = w.drewN n) := Lib.hid fun n => eqf_m x6 y6 e6 f6 _
  go_enter Tryd.func23, Tryd.ntmps23
  go_wp2_with fail
  go_quiet (first | (go_at_call 27; refine Calls.quiet_of_same (C1.out _)) | (go_at_call 33; refine Calls.quiet_of_same (C2.out _)) | (go_at_call 34; refine Calls.quiet_of_same (C3.out _)))
  go_wp2_with fail
  go_ret
  exact ⟨rfl, _, rfl⟩
end Go.Proofs.YtoopndgdaiblpaaDoor
