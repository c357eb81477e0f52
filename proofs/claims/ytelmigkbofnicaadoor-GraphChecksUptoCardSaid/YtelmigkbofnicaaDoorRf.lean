/- trefoilref06.IsFree. -/
import Derived.Test.YtelmigkbofnicaaDoorGp
namespace Go.Proofs.YtelmigkbofnicaaDoor
open Go.ChangeShapes Go.WideShapes Go.ChangeAt Go.RowKit
set_option linter.unusedSimpArgs false in
set_option maxHeartbeats 1000000 in
set_option maxRecDepth 100000 in
theorem refFree_any (k : Int) (nm : ByteArray) (xa xl : Option Addr) (na ca nl cl : Nat) (op : Bool) (w : World) :
    Calls Tryd.prog 31 #[.agg #[.int .i64 k, .string nm, .slice xa na ca, .slice xl nl cl, .bool op]] w fun e w' => e = .returned (.bool (k == 1 || (k == 3 && op))) ∧ Below w.heap.size w w' := by
  have B := Lib.hid ((Below.refl w.heap.size w).alloc (Nat.le_refl _) (.cells #[.int .i64 k, .string nm, .slice xa na ca, .slice xl nl cl, .bool op] 36))
  by_cases h1 : k = 1
  · subst h1
    go_enter Tryd.func31, Tryd.ntmps31
    go_wp2_with fail
    go_ret
    exact ⟨rfl, B.out⟩
  · have e1 : (k == 1) = false := by rw [beq_eq_false_iff_ne]; exact h1
    by_cases h3 : k = 3
    · subst h3
      cases op
      all_goals
        go_enter Tryd.func31, Tryd.ntmps31
        go_wp2_with fail
        go_ret
        exact ⟨rfl, B.out⟩
    · have e3 : (k == 3) = false := by rw [beq_eq_false_iff_ne]; exact h3
      have e : (k == 1 || (k == 3 && op)) = false := by rw [e1, e3]; rfl
      rw [e]
      clear e
      go_enter Tryd.func31, Tryd.ntmps31
      go_wp2_with fail
      go_ret
      exact ⟨rfl, B.out⟩
/-- At a node that may be, free is free. -/
theorem free_same {x : GN} {n : Int} (h : fitG x n = true) : (x.k == 1 || (x.k == 3 && x.op)) = x.freeB := by
  have hh := fit_head h
  unfold headB at hh
  unfold GN.freeB
  by_cases h3 : x.k = 3
  · rw [h3]; simp
  · rw [if_neg h3] at hh
    split at hh
    · cases hh
    · rename_i hn
      simp only [not_or] at hn
      have : x.op = false := by simpa using hn.1
      rw [this]; simp
end Go.Proofs.YtelmigkbofnicaaDoor
