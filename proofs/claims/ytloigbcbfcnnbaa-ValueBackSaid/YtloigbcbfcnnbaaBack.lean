/- The statement ValueBack: the law answers true at every input; no condition. -/
import Derived.Test.YtloigbcbfcnnbaaNums
import Derived.WalkKit
import Derived.ProofKit
import Derived.OpenShut
namespace Go.Proofs.Ytloigbcbfcnnbaa.valueBack
open Go.ChangeShapes Go.WideShapes Go.ChangeAt Go.RowKit
set_option linter.unusedVariables false      -- a walk need not use every 'w<i>' (that an integer argument fits its kind)

theorem own : ownKnob Try.prog.godebug = none := by kernel_rfl

theorem walk0 (a0 : Int) (w0 : (Lit.int .i64 a0).wf = true) (w : World) :
    Calls Try.prog 3 #[.int .i64 a0, .int .i64 0] w fun e w' => e = .returned (.bool true) ∧ Grown w w' := by
  have h0 : wrap64 a0 = a0 := wrap_in a0 (bounds_i64 w0)
  clear w0
  go_enter Try.func3, Try.ntmps3
  go_wp2_with (first | (go_at_call 6; refine (alive_any _).mono ?_; rintro e w' ⟨rfl, hg⟩) | (go_at_call 7; first | ((with_reducible refine (num_add _ _ _).mono ?_); rintro e w' ⟨rfl, rfl⟩) | ((with_reducible refine (num_sub _ _ _).mono ?_); rintro e w' ⟨rfl, rfl⟩) | ((with_reducible refine (num_zero _ _).mono ?_); rintro e w' ⟨rfl, rfl⟩)))
  go_ret
  exact ⟨rfl, by repeat (first | (with_reducible exact hg) | (with_reducible apply grown_nums))⟩

/-- The five reckonings of the law: q, p, r are what the quotient, the product and the rest come to. -/
structure Reckons (a b q p r : Int) : Prop where
  quo : ∀ w, Calls Try.prog 7 #[.string ⟨#[47]⟩, .int .i64 a, .int .i64 b] w fun e w' => e = .returned (.tuple #[.int .i64 q, .int .i64 0]) ∧ numsIn w = w'
  mul : ∀ w, Calls Try.prog 7 #[.string ⟨#[42]⟩, .int .i64 q, .int .i64 b] w fun e w' => e = .returned (.tuple #[.int .i64 p, .int .i64 0]) ∧ numsIn w = w'
  sub : ∀ w, Calls Try.prog 7 #[.string ⟨#[45]⟩, .int .i64 a, .int .i64 p] w fun e w' => e = .returned (.tuple #[.int .i64 r, .int .i64 0]) ∧ numsIn w = w'
  add : ∀ w, Calls Try.prog 7 #[.string ⟨#[43]⟩, .int .i64 a, .int .i64 b] w fun e w' => e = .returned (.tuple #[.int .i64 (wrap64 (a + b)), .int .i64 0]) ∧ numsIn w = w'
  back : ∀ w, Calls Try.prog 7 #[.string ⟨#[45]⟩, .int .i64 (wrap64 (a + b)), .int .i64 b] w fun e w' => e = .returned (.tuple #[.int .i64 a, .int .i64 0]) ∧ numsIn w = w'

/-- What the rest r of a by b is, b neither 0 nor the least number. -/
structure Bounds (a b r : Int) : Prop where
  pos : 0 < b → -b < r ∧ r < b
  neg : b < 0 → b < r ∧ r < -b
  sign : (r == 0 || decide (r < 0) == decide (a < 0)) = true

theorem ret_true {x : Bool} (h : x = true) : Ending.returned (.bool x) = .returned (.bool true) := by rw [h]

theorem walk1 (a0 a1 q p r : Int) (H : Reckons a0 a1 q p r) (B : Bounds a0 a1 r) (c0 : (a1 == 0) = false) (c1 : (a1 == -9223372036854775808) = false) (cn : wrap64 (-a1) = -a1) (cp : wrap64 a1 = a1) (w : World) :
    Calls Try.prog 3 #[.int .i64 a0, .int .i64 a1] w fun e w' => e = .returned (.bool true) ∧ Grown w w' := by
  go_enter Try.func3, Try.ntmps3
  go_wp2_with (first | (go_at_call 6; refine (alive_any _).mono ?_; rintro e w' ⟨rfl, hg⟩) | (go_at_call 7; first | ((with_reducible refine (H.quo _).mono ?_); rintro e w' ⟨rfl, rfl⟩) | ((with_reducible refine (H.mul _).mono ?_); rintro e w' ⟨rfl, rfl⟩) | ((with_reducible refine (H.sub _).mono ?_); rintro e w' ⟨rfl, rfl⟩) | ((with_reducible refine (H.add _).mono ?_); rintro e w' ⟨rfl, rfl⟩) | ((with_reducible refine (H.back _).mono ?_); rintro e w' ⟨rfl, rfl⟩)))
  all_goals first
    | (exfalso; have h1 := B.pos; have h2 := B.neg; have h3 : a1 ≠ 0 := (by simpa using c0); omega)
    | (go_ret; exact ⟨ret_true (by first | rfl | exact B.sign), by repeat (first | (with_reducible exact hg) | (with_reducible apply grown_nums))⟩)

theorem walk2 (a0 a1 p : Int) (H : Reckons a0 a1 0 p a0) (c0 : (a1 == 0) = false) (c1 : (a1 == -9223372036854775808) = true) (w : World) :
    Calls Try.prog 3 #[.int .i64 a0, .int .i64 a1] w fun e w' => e = .returned (.bool true) ∧ Grown w w' := by
  go_enter Try.func3, Try.ntmps3
  go_wp2_with (first | (go_at_call 6; refine (alive_any _).mono ?_; rintro e w' ⟨rfl, hg⟩) | (go_at_call 7; first | ((with_reducible refine (H.quo _).mono ?_); rintro e w' ⟨rfl, rfl⟩) | ((with_reducible refine (H.mul _).mono ?_); rintro e w' ⟨rfl, rfl⟩) | ((with_reducible refine (H.sub _).mono ?_); rintro e w' ⟨rfl, rfl⟩) | ((with_reducible refine (H.add _).mono ?_); rintro e w' ⟨rfl, rfl⟩) | ((with_reducible refine (H.back _).mono ?_); rintro e w' ⟨rfl, rfl⟩)))
  go_ret
  exact ⟨rfl, by repeat (first | (with_reducible exact hg) | (with_reducible apply grown_nums))⟩

theorem walk3 (a0 p : Int) (H : Reckons a0 a0 1 p 0) (c0 : (a0 == 0) = false) (c1 : (a0 == -9223372036854775808) = true) (w : World) :
    Calls Try.prog 3 #[.int .i64 a0, .int .i64 a0] w fun e w' => e = .returned (.bool true) ∧ Grown w w' := by
  go_enter Try.func3, Try.ntmps3
  go_wp2_with (first | (go_at_call 6; refine (alive_any _).mono ?_; rintro e w' ⟨rfl, hg⟩) | (go_at_call 7; first | ((with_reducible refine (H.quo _).mono ?_); rintro e w' ⟨rfl, rfl⟩) | ((with_reducible refine (H.mul _).mono ?_); rintro e w' ⟨rfl, rfl⟩) | ((with_reducible refine (H.sub _).mono ?_); rintro e w' ⟨rfl, rfl⟩) | ((with_reducible refine (H.add _).mono ?_); rintro e w' ⟨rfl, rfl⟩) | ((with_reducible refine (H.back _).mono ?_); rintro e w' ⟨rfl, rfl⟩)))
  go_ret
  exact ⟨rfl, by repeat (first | (with_reducible exact hg) | (with_reducible apply grown_nums))⟩

theorem tm_lt (a b : Int) (hb : b ≠ 0) : (a.tmod b).natAbs < b.natAbs := by
  rw [Int.natAbs_tmod]; exact Nat.mod_lt _ (by omega)
theorem tm_sign (a b : Int) : (0 ≤ a → 0 ≤ a.tmod b) ∧ (a < 0 → a.tmod b ≤ 0) := by
  refine ⟨fun h => Int.tmod_nonneg _ h, fun h => ?_⟩
  have := Int.tmod_nonneg (a := -a) b (by omega)
  rw [Int.neg_tmod] at this
  omega

theorem rest_is (a b : Int) (hb : b ≠ 0) (h : -9223372036854775808 ≤ b ∧ b ≤ 9223372036854775807) : wrap64 (a - wrap64 (wrap64 (a.tdiv b) * b)) = a.tmod b := by
  obtain ⟨k, hk⟩ := wrap_is (a.tdiv b)
  obtain ⟨l, hl⟩ := wrap_is (wrap64 (a.tdiv b) * b)
  have hd := Int.tmod_def a b
  have hlt := tm_lt a b hb
  rw [hl, hk, wrap_eq _ (a.tmod b) (-(k * b) - l) (by rw [hd]; grind)]
  exact wrap_in _ (by omega)

theorem reckons (a b : Int) (hb : b ≠ 0) (ha : -9223372036854775808 ≤ a ∧ a ≤ 9223372036854775807) (h : -9223372036854775808 ≤ b ∧ b ≤ 9223372036854775807) : Reckons a b (wrap64 (a.tdiv b)) (wrap64 (wrap64 (a.tdiv b) * b)) (a.tmod b) where
  quo := fun w => num_quo a b hb w
  mul := fun w => num_mul _ b w
  sub := fun w => by rw [← rest_is a b hb h]; exact num_sub a _ w
  add := fun w => num_add a b w
  back := fun w => by
    have e : wrap64 (wrap64 (a + b) - b) = a := by unfold wrap64; omega
    have := num_sub (wrap64 (a + b)) b w
    rw [e] at this; exact this

theorem bounds (a b : Int) (hb : b ≠ 0) : Bounds a b (a.tmod b) where
  pos := fun h => by have := tm_lt a b hb; omega
  neg := fun h => by have := tm_lt a b hb; omega
  sign := by
    have h1 := tm_sign a b
    generalize a.tmod b = r at *
    by_cases e : r = 0
    · simp [e]
    · have : decide (r < 0) = decide (a < 0) := by simp; omega
      simp [this]

theorem walk (a0 : Int) (a1 : Int) (w0 : (Lit.int .i64 a0).wf = true) (w1 : (Lit.int .i64 a1).wf = true) (w : World) :
    Calls Try.prog 3 #[.int .i64 a0, .int .i64 a1] w fun e w' => e = .returned (.bool true) ∧ Grown w w' := by
  have ha := bounds_i64 w0
  have hb := bounds_i64 w1
  by_cases c0 : a1 = 0
  · subst c0; exact walk0 a0 w0 w
  by_cases c1 : a1 = -9223372036854775808
  · have R := reckons a0 a1 c0 ha hb
    by_cases c2 : a0 = a1
    · subst c2
      have e1 : wrap64 (a0.tdiv a0) = 1 := by rw [Int.tdiv_self c0]; exact wrap_in _ (by omega)
      have e2 : a0.tmod a0 = 0 := Int.tmod_self
      rw [e1, e2] at R
      exact walk3 a0 _ R (by simpa using c0) (by simpa using c1) w
    · have hlt : a0.natAbs < a1.natAbs := by omega
      have e0 : a0.tdiv a1 = 0 := by
        apply Int.natAbs_eq_zero.1
        rw [Int.natAbs_tdiv]; exact Nat.div_eq_of_lt hlt
      have e1 : wrap64 (a0.tdiv a1) = 0 := by rw [e0]; exact wrap_in _ (by omega)
      have e2 : a0.tmod a1 = a0 := by rw [Int.tmod_def, e0]; omega
      rw [e1, e2] at R
      exact walk2 a0 a1 _ R (by simpa using c0) (by simpa using c1) w
  · exact walk1 a0 a1 _ _ _ (reckons a0 a1 c0 ha hb) (bounds a0 a1 c0) (by simpa using c0) (by simpa using c1) (wrap_in _ (by omega)) (wrap_in _ (by omega)) w

set_option maxRecDepth 100000 in
theorem lifted (os : Os) (started : os.Started) (H : Type) (enc : TypeId × Value → H) :
    ReturnsInHanded {} Try.checked os 3 .any (Rows.valueBackSpec.pre6 enc Try.prog Try.f3 Rows.valueBackRow.domain false) (Rows.valueBackSpec.post enc Try.prog Try.f3 false true false false) := by
  refine returnsInHanded_of_change (C := Try.checked) own started (by kernel_rfl) Try.func3
    (ChangeSpec.witness6 (enc := enc) (C := Try.checked) false ⟨#[], #[.int .i64 0, .int .i64 0], []⟩ 8 (by kernel_rfl) (by kernel_rfl) (by kernel_rfl) (by kernel_rfl)) ?_
  intro W base args ds gs before hval0 hW hcnd _
  have hval : ∀ (j : Nat) t v, Try.f3.params[j]? = some t → args[j]? = some v → Value.okWide Try.prog W .any base t v := hval0
  have hW' := hW
  obtain ⟨p, q, hA0, hV, rfl, hfz, hnd⟩ := hW
  have hA : DataW.TrodAll enc Try.prog W 0 (fun _ => true) true Try.f3.params.toList args.toList ds p := hA0
  rw [Try.params3] at hA hval
  obtain ⟨v0, vs0, d0, ds0, p0, q0, hargs, rfl, rfl, h0, r0⟩ := trodAll_cons hA
  obtain ⟨v1, vs1, d1, ds1, p1, q1, rfl, rfl, rfl, h1, r1⟩ := trodAll_cons r0
  obtain ⟨rfl, rfl, rfl⟩ := trodAll_nil r1
  obtain rfl : args = #[v0, v1] := by cases args; simp_all
  obtain ⟨rfl, rfl⟩ := trodVars_none hV
  obtain ⟨a0, rfl, rfl, rfl, w0⟩ := open_int Try.underlying2 (hval 0 2 v0 rfl rfl) h0
  obtain ⟨a1, rfl, rfl, rfl, w1⟩ := open_int Try.underlying2 (hval 1 2 v1 rfl rfl) h1
  clear hA0 hval0
  simp only [List.append_nil] at hW'
  refine (walk a0 a1 w0 w1 W).mono fun e W' ⟨he, hg⟩ => ?_
  subst he
  exact ⟨_, rfl, post_of_same (pa := []) (pv := []) hW' (fun _ _ _ => (trodAll_cons_mk (shut_bool Try.underlying4 _) trodAll_mk0)) (fun sp _ => (trodAll_cons_mk (shut_int Try.underlying2 w0) (trodAll_cons_mk (shut_int Try.underlying2 w1) trodAll_mk0))) (fun _ _ => rfl) rfl
    (hg.frame _) hg.2.1 (ok_one (by kernel_rfl) rfl (okWide_bool_mk Try.underlying4 _))⟩

theorem over : Rows.valueBackRow.holds Try.pinned (OpenSpec.ofChange Rows.valueBackSpec) :=
  OpenClaim.holds_of_wide 3 Try.f3 rfl rfl rfl rfl rfl rfl rfl ⟨rfl, rfl, rfl, rfl, rfl⟩ rfl rfl rfl rfl rfl (by kernel_rfl) Try.func3 (by kernel_rfl)
    (of_decide_eq_true (by kernel_rfl)) (by unfold Func.isWrapper; first | (rw [if_pos (by decide +kernel)]; kernel_rfl) | (rw [if_neg (by decide +kernel)]; exact ⟨rfl, rfl⟩))
    (fun os started H enc _ => lifted os started H enc)

theorem proved : Rows.ValueBackSaid :=
  over
#print axioms proved
end Go.Proofs.Ytloigbcbfcnnbaa.valueBack
