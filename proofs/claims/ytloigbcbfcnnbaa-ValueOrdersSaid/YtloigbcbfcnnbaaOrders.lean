/- The statement ValueOrders: the law answers true at every input; no condition. -/
import Derived.Test.YtloigbcbfcnnbaaNums
import Derived.WalkKit
import Derived.ProofKit
import Derived.OpenShut
namespace Go.Proofs.Ytloigbcbfcnnbaa.valueOrders
open Go.ChangeShapes Go.WideShapes Go.ChangeAt Go.RowKit
set_option linter.unusedVariables false      -- a walk need not use every 'w<i>' (that an integer argument fits its kind)

theorem own : ownKnob Try.prog.godebug = none := by kernel_rfl

theorem walk (a0 : Int) (a1 : Int) (w0 : (Lit.int .i64 a0).wf = true) (w1 : (Lit.int .i64 a1).wf = true) (w : World) :
    Calls Try.prog 4 #[.int .i64 a0, .int .i64 a1] w fun e w' => e = .returned (.bool true) ∧ Grown w w' := by
  have hs : (wrap64 (a0 + a1) != wrap64 (a1 + a0)) = false := by rw [Int.add_comm]; simp
  have hm : (wrap64 (a0 * a1) != wrap64 (a1 * a0)) = false := by rw [Int.mul_comm]; simp
  have i0 : ∀ (p q r : Bool) (w : World), (Instr.index 29 (.agg #[.bool p, .bool q, .bool r]) (.int .i64 0)).run Try.prog w = .ok (.bool p) w := fun _ _ _ _ => by kernel_rfl
  have i1 : ∀ (p q r : Bool) (w : World), (Instr.index 29 (.agg #[.bool p, .bool q, .bool r]) (.int .i64 1)).run Try.prog w = .ok (.bool q) w := fun _ _ _ _ => by kernel_rfl
  have i2 : ∀ (p q r : Bool) (w : World), (Instr.index 29 (.agg #[.bool p, .bool q, .bool r]) (.int .i64 2)).run Try.prog w = .ok (.bool r) w := fun _ _ _ _ => by kernel_rfl
  have j0 : ∀ (p q : ByteArray) (w : World), (Instr.index 30 (.agg #[.string p, .string q]) (.int .i64 0)).run Try.prog w = .ok (.string p) w := fun _ _ _ => by kernel_rfl
  have j1 : ∀ (p q : ByteArray) (w : World), (Instr.index 30 (.agg #[.string p, .string q]) (.int .i64 1)).run Try.prog w = .ok (.string q) w := fun _ _ _ => by kernel_rfl
  have hh : (decide (a0 < a1) = true ∧ decide (a1 < a0) = false ∧ (a0 == a1) = false) ∨ (decide (a0 < a1) = false ∧ decide (a1 < a0) = true ∧ (a0 == a1) = false) ∨ (decide (a0 < a1) = false ∧ decide (a1 < a0) = false ∧ (a0 == a1) = true) := by
    simp; omega
  clear w0 w1
  rcases hh with ⟨e1, e2, e3⟩ | ⟨e1, e2, e3⟩ | ⟨e1, e2, e3⟩
  all_goals
    go_enter Try.func4, Try.ntmps4
    go_wp2_with (first | (go_at_call 6; refine (alive_any _).mono ?_; rintro e w' ⟨rfl, hg⟩) | (go_at_call 8; first | ((with_reducible refine (test_lss _ _ _).mono ?_); rintro e w' ⟨rfl, rfl⟩) | ((with_reducible refine (test_eql _ _ _).mono ?_); rintro e w' ⟨rfl, rfl⟩)))
    refine wp_loop_rounds 4 ?_
    rw [rounds_succ]
    go_wp2
    rw [rounds_succ]
    go_wp2
    rw [rounds_succ]
    go_wp2
    rw [rounds_succ]
    go_wp2
    refine wp_loop_rounds 3 ?_
    rw [rounds_succ]
    go_wp2_with (first | (go_at_call 7; first | ((with_reducible refine (num_add _ _ _).mono ?_); rintro e w' ⟨rfl, rfl⟩) | ((with_reducible refine (num_mul _ _ _).mono ?_); rintro e w' ⟨rfl, rfl⟩)))
    rw [rounds_succ]
    go_wp2_with (first | (go_at_call 7; first | ((with_reducible refine (num_add _ _ _).mono ?_); rintro e w' ⟨rfl, rfl⟩) | ((with_reducible refine (num_mul _ _ _).mono ?_); rintro e w' ⟨rfl, rfl⟩)))
    rw [rounds_succ]
    go_wp2
    go_ret
    exact ⟨rfl, by repeat (first | exact hg | apply grown_nums | apply grown_tests)⟩

set_option maxRecDepth 100000 in
theorem lifted (os : Os) (started : os.Started) (H : Type) (enc : TypeId × Value → H) :
    ReturnsInHanded {} Try.checked os 4 .any (Rows.valueOrdersSpec.pre6 enc Try.prog Try.f4 Rows.valueOrdersRow.domain false) (Rows.valueOrdersSpec.post enc Try.prog Try.f4 false true false false) := by
  refine returnsInHanded_of_change (C := Try.checked) own started (by kernel_rfl) Try.func4
    (ChangeSpec.witness6 (enc := enc) (C := Try.checked) false ⟨#[], #[.int .i64 0, .int .i64 0], []⟩ 8 (by kernel_rfl) (by kernel_rfl) (by kernel_rfl) (by kernel_rfl)) ?_
  intro W base args ds gs before hval0 hW hcnd _
  have hval : ∀ (j : Nat) t v, Try.f4.params[j]? = some t → args[j]? = some v → Value.okWide Try.prog W .any base t v := hval0
  have hW' := hW
  obtain ⟨p, q, hA0, hV, rfl, hfz, hnd⟩ := hW
  have hA : DataW.TrodAll enc Try.prog W 0 (fun _ => true) true Try.f4.params.toList args.toList ds p := hA0
  rw [Try.params4] at hA hval
  obtain ⟨v0, vs0, d0, ds0, p0, q0, hargs, rfl, rfl, h0, r0⟩ := trodAll_cons hA
  obtain ⟨v1, vs1, d1, ds1, p1, q1, rfl, rfl, rfl, h1, r1⟩ := trodAll_cons r0
  obtain ⟨rfl, rfl, rfl⟩ := trodAll_nil r1
  obtain rfl : args = #[v0, v1] := by cases args; simp_all
  obtain ⟨rfl, rfl⟩ := trodVars_none hV
  obtain ⟨a0, rfl, rfl, rfl, w0⟩ := open_int Try.underlying2 (hval 0 2 v0 rfl rfl) h0
  obtain ⟨a1, rfl, rfl, rfl, w1⟩ := open_int Try.underlying2 (hval 1 2 v1 rfl rfl) h1
  clear hA0 hval0
  simp only [List.append_nil] at hW'
  refine (walk a0 a1 w0 w1 W).mono fun e W' ⟨he, hg⟩ => ?_
  subst he
  exact ⟨_, rfl, post_of_same (pa := []) (pv := []) hW' (fun _ _ _ => (trodAll_cons_mk (shut_bool Try.underlying4 _) trodAll_mk0)) (fun sp _ => (trodAll_cons_mk (shut_int Try.underlying2 w0) (trodAll_cons_mk (shut_int Try.underlying2 w1) trodAll_mk0))) (fun _ _ => rfl) rfl
    (hg.frame _) hg.2.1 (ok_one (by kernel_rfl) rfl (okWide_bool_mk Try.underlying4 _))⟩

theorem over : Rows.valueOrdersRow.holds Try.pinned (OpenSpec.ofChange Rows.valueOrdersSpec) :=
  OpenClaim.holds_of_wide 4 Try.f4 rfl rfl rfl rfl rfl rfl rfl ⟨rfl, rfl, rfl, rfl, rfl⟩ rfl rfl rfl rfl rfl (by kernel_rfl) Try.func4 (by kernel_rfl)
    (of_decide_eq_true (by kernel_rfl)) (by unfold Func.isWrapper; first | (rw [if_pos (by decide +kernel)]; kernel_rfl) | (rw [if_neg (by decide +kernel)]; exact ⟨rfl, rfl⟩))
    (fun os started H enc _ => lifted os started H enc)

theorem proved : Rows.ValueOrdersSaid :=
  over
#print axioms proved
end Go.Proofs.Ytloigbcbfcnnbaa.valueOrders
