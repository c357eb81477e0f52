/- tree.fitsMember, and tree.fits at a member. -/
import Derived.Test.YtoopndgdaiblpaaDoorFs
namespace Go.Proofs.YtoopndgdaiblpaaDoor
open Go.ChangeShapes Go.WideShapes Go.ChangeAt Go.RowKit

/-- Whether a member has what its kind has. -/
def meB : Nd → Bool
  | .me k nm as_ types args => nameB nm && (if k = 1 then textB 2 as_ && decide (types.length = 0) else if k = 2 ∨ k = 3 then emptyB as_ && decide (args.length = 1) && decide (types.length = 0) else if k = 4 then emptyB as_ && decide (args.length = 0) && decide (types.length = 1) else false)
  | .ex .. => false

theorem empty_facts {s : ByteArray} (h : s ≠ ⟨#[]⟩) : emptyB s = false ∧ (s.toList == []) = false ∧ ¬ s.toList = [] ∧ s.toList.isEmpty = false := by
  have z : (s.toList == (⟨#[]⟩ : ByteArray).toList) = false := (Lib.bytes_beq_false_iff s ⟨#[]⟩).2 h
  have e0 : (⟨#[]⟩ : ByteArray).toList = [] := by rw [Lib.toList_data]
  have z2 : (s.toList == []) = false := by rw [e0] at z; exact z
  have z3 : ¬ s.toList = [] := by simpa using z2
  exact ⟨z, z2, z3, by cases hs : s.toList with | nil => exact absurd hs z3 | cons => rfl⟩
theorem empty_yes : emptyB ⟨#[]⟩ = true := beq_self_eq_true _

section
variable (b o : Nat) (nm as_ : ByteArray) (xa xt : Option Addr) (na ca nt ct : Nat) (w : World)
set_option maxHeartbeats 1000000 in
set_option maxRecDepth 100000 in
theorem fm_name (k : Int) (h0 : w.cell? ⟨b, o, none⟩ = some (.int .i64 k)) (h1 : w.cell? ⟨b, o + 1, none⟩ = some (.string nm)) (h2 : w.cell? ⟨b, o + 2, none⟩ = some (.string as_)) (h3 : w.cell? ⟨b, o + 3, none⟩ = some (.slice xa na ca)) (h4 : w.cell? ⟨b, o + 4, none⟩ = some (.slice xt nt ct)) (CN : Hid (∀ q, Calls Tryd.prog 46 #[.string nm] (w.drewN q) fun e w' => e = .returned (.bool false) ∧ Drawn (w.drewN q) w')) :
    Calls Tryd.prog 42 #[.pointer (some ⟨b, o, none⟩)] w fun e w' => e = .returned (.bool false) ∧ Drawn w w' := by
  have hu := And.intro h0 (And.intro h1 (And.intro h2 (And.intro h3 h4)))
  clear hu
  go_enter Tryd.func42, Tryd.ntmps42
  go_wp2_with (go_at_call 46; refine (CN.out 0).mono ?_; rintro e9 w9 ⟨rfl, q9, rfl⟩)
  go_ret
  exact ⟨rfl, _, by first | rfl | exact World.drewN_drewN ..⟩
set_option maxHeartbeats 1000000 in
set_option maxRecDepth 100000 in
theorem fm_0 (h0 : w.cell? ⟨b, o, none⟩ = some (.int .i64 0)) (h1 : w.cell? ⟨b, o + 1, none⟩ = some (.string nm)) (h2 : w.cell? ⟨b, o + 2, none⟩ = some (.string as_)) (h3 : w.cell? ⟨b, o + 3, none⟩ = some (.slice xa na ca)) (h4 : w.cell? ⟨b, o + 4, none⟩ = some (.slice xt nt ct)) (CN : Hid (∀ q, Calls Tryd.prog 46 #[.string nm] (w.drewN q) fun e w' => e = .returned (.bool true) ∧ Drawn (w.drewN q) w')) :
    Calls Tryd.prog 42 #[.pointer (some ⟨b, o, none⟩)] w fun e w' => e = .returned (.bool false) ∧ Drawn w w' := by
  have hu := And.intro h0 (And.intro h1 (And.intro h2 (And.intro h3 h4)))
  clear hu
  go_enter Tryd.func42, Tryd.ntmps42
  go_wp2_with (go_at_call 46; refine (CN.out 0).mono ?_; rintro e9 w9 ⟨rfl, q9, rfl⟩)
  go_ret
  exact ⟨rfl, _, by first | rfl | exact World.drewN_drewN ..⟩
set_option maxHeartbeats 1000000 in
set_option maxRecDepth 100000 in
theorem fm_1a (h0 : w.cell? ⟨b, o, none⟩ = some (.int .i64 1)) (h1 : w.cell? ⟨b, o + 1, none⟩ = some (.string nm)) (h2 : w.cell? ⟨b, o + 2, none⟩ = some (.string as_)) (h3 : w.cell? ⟨b, o + 3, none⟩ = some (.slice xa na ca)) (h4 : w.cell? ⟨b, o + 4, none⟩ = some (.slice xt nt ct)) (CN : Hid (∀ q, Calls Tryd.prog 46 #[.string nm] (w.drewN q) fun e w' => e = .returned (.bool true) ∧ Drawn (w.drewN q) w')) (CT : Hid (∀ q, Calls Tryd.prog 44 #[.int .i64 2, .string as_] (w.drewN q) fun e w' => e = .returned (.bool false) ∧ Drawn (w.drewN q) w')) :
    Calls Tryd.prog 42 #[.pointer (some ⟨b, o, none⟩)] w fun e w' => e = .returned (.bool false) ∧ Drawn w w' := by
  have hu := And.intro h0 (And.intro h1 (And.intro h2 (And.intro h3 h4)))
  clear hu
  go_enter Tryd.func42, Tryd.ntmps42
  go_wp2_with (first | (go_at_call 46; refine (CN.out 0).mono ?_; rintro e9 w9 ⟨rfl, q9, rfl⟩) | (go_at_call 44; refine (CT.out _).mono ?_; rintro e8 w8 ⟨rfl, q8, rfl⟩))
  go_ret
  exact ⟨rfl, _, by first | rfl | exact World.drewN_drewN ..⟩
set_option maxHeartbeats 1000000 in
set_option maxRecDepth 100000 in
theorem fm_1b (h0 : w.cell? ⟨b, o, none⟩ = some (.int .i64 1)) (h1 : w.cell? ⟨b, o + 1, none⟩ = some (.string nm)) (h2 : w.cell? ⟨b, o + 2, none⟩ = some (.string as_)) (h3 : w.cell? ⟨b, o + 3, none⟩ = some (.slice xa na ca)) (h4 : w.cell? ⟨b, o + 4, none⟩ = some (.slice xt nt ct)) (CN : Hid (∀ q, Calls Tryd.prog 46 #[.string nm] (w.drewN q) fun e w' => e = .returned (.bool true) ∧ Drawn (w.drewN q) w')) (CT : Hid (∀ q, Calls Tryd.prog 44 #[.int .i64 2, .string as_] (w.drewN q) fun e w' => e = .returned (.bool true) ∧ Drawn (w.drewN q) w')) (r : Bool) (z : ((nt : Int) == 0) = r) :
    Calls Tryd.prog 42 #[.pointer (some ⟨b, o, none⟩)] w fun e w' => e = .returned (.bool r) ∧ Drawn w w' := by
  have hu := And.intro h0 (And.intro h1 (And.intro h2 (And.intro h3 h4)))
  clear hu
  go_enter Tryd.func42, Tryd.ntmps42
  go_wp2_with (first | (go_at_call 46; refine (CN.out 0).mono ?_; rintro e9 w9 ⟨rfl, q9, rfl⟩) | (go_at_call 44; refine (CT.out _).mono ?_; rintro e8 w8 ⟨rfl, q8, rfl⟩))
  go_ret
  exact ⟨rfl, _, by first | rfl | exact World.drewN_drewN ..⟩
set_option maxHeartbeats 1000000 in
set_option maxRecDepth 100000 in
theorem fm_2a (h0 : w.cell? ⟨b, o, none⟩ = some (.int .i64 2)) (h1 : w.cell? ⟨b, o + 1, none⟩ = some (.string nm)) (h2 : w.cell? ⟨b, o + 2, none⟩ = some (.string as_)) (h3 : w.cell? ⟨b, o + 3, none⟩ = some (.slice xa na ca)) (h4 : w.cell? ⟨b, o + 4, none⟩ = some (.slice xt nt ct)) (CN : Hid (∀ q, Calls Tryd.prog 46 #[.string nm] (w.drewN q) fun e w' => e = .returned (.bool true) ∧ Drawn (w.drewN q) w')) (y2 : (as_.toList == []) = false) (y3 : ¬ as_.toList = []) (y4 : as_.toList.isEmpty = false) :
    Calls Tryd.prog 42 #[.pointer (some ⟨b, o, none⟩)] w fun e w' => e = .returned (.bool false) ∧ Drawn w w' := by
  have hu := And.intro h0 (And.intro h1 (And.intro h2 (And.intro h3 h4)))
  clear hu
  have hv := And.intro y3 y4
  clear hv
  go_enter Tryd.func42, Tryd.ntmps42
  go_wp2_with (go_at_call 46; refine (CN.out 0).mono ?_; rintro e9 w9 ⟨rfl, q9, rfl⟩)
  go_ret
  exact ⟨rfl, _, by first | rfl | exact World.drewN_drewN ..⟩
set_option maxHeartbeats 1000000 in
set_option maxRecDepth 100000 in
theorem fm_2b (h0 : w.cell? ⟨b, o, none⟩ = some (.int .i64 2)) (h1 : w.cell? ⟨b, o + 1, none⟩ = some (.string nm)) (h2 : w.cell? ⟨b, o + 2, none⟩ = some (.string ⟨#[]⟩)) (h3 : w.cell? ⟨b, o + 3, none⟩ = some (.slice xa na ca)) (h4 : w.cell? ⟨b, o + 4, none⟩ = some (.slice xt nt ct)) (CN : Hid (∀ q, Calls Tryd.prog 46 #[.string nm] (w.drewN q) fun e w' => e = .returned (.bool true) ∧ Drawn (w.drewN q) w')) (z : ((na : Int) == 1) = false) :
    Calls Tryd.prog 42 #[.pointer (some ⟨b, o, none⟩)] w fun e w' => e = .returned (.bool false) ∧ Drawn w w' := by
  have hu := And.intro h0 (And.intro h1 (And.intro h2 (And.intro h3 h4)))
  clear hu
  go_enter Tryd.func42, Tryd.ntmps42
  go_wp2_with (go_at_call 46; refine (CN.out 0).mono ?_; rintro e9 w9 ⟨rfl, q9, rfl⟩)
  go_ret
  exact ⟨rfl, _, by first | rfl | exact World.drewN_drewN ..⟩
set_option maxHeartbeats 1000000 in
set_option maxRecDepth 100000 in
theorem fm_2c (h0 : w.cell? ⟨b, o, none⟩ = some (.int .i64 2)) (h1 : w.cell? ⟨b, o + 1, none⟩ = some (.string nm)) (h2 : w.cell? ⟨b, o + 2, none⟩ = some (.string ⟨#[]⟩)) (h3 : w.cell? ⟨b, o + 3, none⟩ = some (.slice xa na ca)) (h4 : w.cell? ⟨b, o + 4, none⟩ = some (.slice xt nt ct)) (CN : Hid (∀ q, Calls Tryd.prog 46 #[.string nm] (w.drewN q) fun e w' => e = .returned (.bool true) ∧ Drawn (w.drewN q) w')) (z : ((na : Int) == 1) = true) (r : Bool) (z2 : ((nt : Int) == 0) = r) :
    Calls Tryd.prog 42 #[.pointer (some ⟨b, o, none⟩)] w fun e w' => e = .returned (.bool r) ∧ Drawn w w' := by
  have hu := And.intro h0 (And.intro h1 (And.intro h2 (And.intro h3 h4)))
  clear hu
  go_enter Tryd.func42, Tryd.ntmps42
  go_wp2_with (go_at_call 46; refine (CN.out 0).mono ?_; rintro e9 w9 ⟨rfl, q9, rfl⟩)
  go_ret
  exact ⟨rfl, _, by first | rfl | exact World.drewN_drewN ..⟩
set_option maxHeartbeats 1000000 in
set_option maxRecDepth 100000 in
theorem fm_3a (h0 : w.cell? ⟨b, o, none⟩ = some (.int .i64 3)) (h1 : w.cell? ⟨b, o + 1, none⟩ = some (.string nm)) (h2 : w.cell? ⟨b, o + 2, none⟩ = some (.string as_)) (h3 : w.cell? ⟨b, o + 3, none⟩ = some (.slice xa na ca)) (h4 : w.cell? ⟨b, o + 4, none⟩ = some (.slice xt nt ct)) (CN : Hid (∀ q, Calls Tryd.prog 46 #[.string nm] (w.drewN q) fun e w' => e = .returned (.bool true) ∧ Drawn (w.drewN q) w')) (y2 : (as_.toList == []) = false) (y3 : ¬ as_.toList = []) (y4 : as_.toList.isEmpty = false) :
    Calls Tryd.prog 42 #[.pointer (some ⟨b, o, none⟩)] w fun e w' => e = .returned (.bool false) ∧ Drawn w w' := by
  have hu := And.intro h0 (And.intro h1 (And.intro h2 (And.intro h3 h4)))
  clear hu
  have hv := And.intro y3 y4
  clear hv
  go_enter Tryd.func42, Tryd.ntmps42
  go_wp2_with (go_at_call 46; refine (CN.out 0).mono ?_; rintro e9 w9 ⟨rfl, q9, rfl⟩)
  go_ret
  exact ⟨rfl, _, by first | rfl | exact World.drewN_drewN ..⟩
set_option maxHeartbeats 1000000 in
set_option maxRecDepth 100000 in
theorem fm_3b (h0 : w.cell? ⟨b, o, none⟩ = some (.int .i64 3)) (h1 : w.cell? ⟨b, o + 1, none⟩ = some (.string nm)) (h2 : w.cell? ⟨b, o + 2, none⟩ = some (.string ⟨#[]⟩)) (h3 : w.cell? ⟨b, o + 3, none⟩ = some (.slice xa na ca)) (h4 : w.cell? ⟨b, o + 4, none⟩ = some (.slice xt nt ct)) (CN : Hid (∀ q, Calls Tryd.prog 46 #[.string nm] (w.drewN q) fun e w' => e = .returned (.bool true) ∧ Drawn (w.drewN q) w')) (z : ((na : Int) == 1) = false) :
    Calls Tryd.prog 42 #[.pointer (some ⟨b, o, none⟩)] w fun e w' => e = .returned (.bool false) ∧ Drawn w w' := by
  have hu := And.intro h0 (And.intro h1 (And.intro h2 (And.intro h3 h4)))
  clear hu
  go_enter Tryd.func42, Tryd.ntmps42
  go_wp2_with (go_at_call 46; refine (CN.out 0).mono ?_; rintro e9 w9 ⟨rfl, q9, rfl⟩)
  go_ret
  exact ⟨rfl, _, by first | rfl | exact World.drewN_drewN ..⟩
set_option maxHeartbeats 1000000 in
set_option maxRecDepth 100000 in
theorem fm_3c (h0 : w.cell? ⟨b, o, none⟩ = some (.int .i64 3)) (h1 : w.cell? ⟨b, o + 1, none⟩ = some (.string nm)) (h2 : w.cell? ⟨b, o + 2, none⟩ = some (.string ⟨#[]⟩)) (h3 : w.cell? ⟨b, o + 3, none⟩ = some (.slice xa na ca)) (h4 : w.cell? ⟨b, o + 4, none⟩ = some (.slice xt nt ct)) (CN : Hid (∀ q, Calls Tryd.prog 46 #[.string nm] (w.drewN q) fun e w' => e = .returned (.bool true) ∧ Drawn (w.drewN q) w')) (z : ((na : Int) == 1) = true) (r : Bool) (z2 : ((nt : Int) == 0) = r) :
    Calls Tryd.prog 42 #[.pointer (some ⟨b, o, none⟩)] w fun e w' => e = .returned (.bool r) ∧ Drawn w w' := by
  have hu := And.intro h0 (And.intro h1 (And.intro h2 (And.intro h3 h4)))
  clear hu
  go_enter Tryd.func42, Tryd.ntmps42
  go_wp2_with (go_at_call 46; refine (CN.out 0).mono ?_; rintro e9 w9 ⟨rfl, q9, rfl⟩)
  go_ret
  exact ⟨rfl, _, by first | rfl | exact World.drewN_drewN ..⟩
set_option maxHeartbeats 1000000 in
set_option maxRecDepth 100000 in
theorem fm_4a (h0 : w.cell? ⟨b, o, none⟩ = some (.int .i64 4)) (h1 : w.cell? ⟨b, o + 1, none⟩ = some (.string nm)) (h2 : w.cell? ⟨b, o + 2, none⟩ = some (.string as_)) (h3 : w.cell? ⟨b, o + 3, none⟩ = some (.slice xa na ca)) (h4 : w.cell? ⟨b, o + 4, none⟩ = some (.slice xt nt ct)) (CN : Hid (∀ q, Calls Tryd.prog 46 #[.string nm] (w.drewN q) fun e w' => e = .returned (.bool true) ∧ Drawn (w.drewN q) w')) (y2 : (as_.toList == []) = false) (y3 : ¬ as_.toList = []) (y4 : as_.toList.isEmpty = false) :
    Calls Tryd.prog 42 #[.pointer (some ⟨b, o, none⟩)] w fun e w' => e = .returned (.bool false) ∧ Drawn w w' := by
  have hu := And.intro h0 (And.intro h1 (And.intro h2 (And.intro h3 h4)))
  clear hu
  have hv := And.intro y3 y4
  clear hv
  go_enter Tryd.func42, Tryd.ntmps42
  go_wp2_with (go_at_call 46; refine (CN.out 0).mono ?_; rintro e9 w9 ⟨rfl, q9, rfl⟩)
  go_ret
  exact ⟨rfl, _, by first | rfl | exact World.drewN_drewN ..⟩
set_option maxHeartbeats 1000000 in
set_option maxRecDepth 100000 in
theorem fm_4b (h0 : w.cell? ⟨b, o, none⟩ = some (.int .i64 4)) (h1 : w.cell? ⟨b, o + 1, none⟩ = some (.string nm)) (h2 : w.cell? ⟨b, o + 2, none⟩ = some (.string ⟨#[]⟩)) (h3 : w.cell? ⟨b, o + 3, none⟩ = some (.slice xa na ca)) (h4 : w.cell? ⟨b, o + 4, none⟩ = some (.slice xt nt ct)) (CN : Hid (∀ q, Calls Tryd.prog 46 #[.string nm] (w.drewN q) fun e w' => e = .returned (.bool true) ∧ Drawn (w.drewN q) w')) (z : ((na : Int) == 0) = false) :
    Calls Tryd.prog 42 #[.pointer (some ⟨b, o, none⟩)] w fun e w' => e = .returned (.bool false) ∧ Drawn w w' := by
  have hu := And.intro h0 (And.intro h1 (And.intro h2 (And.intro h3 h4)))
  clear hu
  go_enter Tryd.func42, Tryd.ntmps42
  go_wp2_with (go_at_call 46; refine (CN.out 0).mono ?_; rintro e9 w9 ⟨rfl, q9, rfl⟩)
  go_ret
  exact ⟨rfl, _, by first | rfl | exact World.drewN_drewN ..⟩
set_option maxHeartbeats 1000000 in
set_option maxRecDepth 100000 in
theorem fm_4c (h0 : w.cell? ⟨b, o, none⟩ = some (.int .i64 4)) (h1 : w.cell? ⟨b, o + 1, none⟩ = some (.string nm)) (h2 : w.cell? ⟨b, o + 2, none⟩ = some (.string ⟨#[]⟩)) (h3 : w.cell? ⟨b, o + 3, none⟩ = some (.slice xa na ca)) (h4 : w.cell? ⟨b, o + 4, none⟩ = some (.slice xt nt ct)) (CN : Hid (∀ q, Calls Tryd.prog 46 #[.string nm] (w.drewN q) fun e w' => e = .returned (.bool true) ∧ Drawn (w.drewN q) w')) (z : ((na : Int) == 0) = true) (r : Bool) (z2 : ((nt : Int) == 1) = r) :
    Calls Tryd.prog 42 #[.pointer (some ⟨b, o, none⟩)] w fun e w' => e = .returned (.bool r) ∧ Drawn w w' := by
  have hu := And.intro h0 (And.intro h1 (And.intro h2 (And.intro h3 h4)))
  clear hu
  go_enter Tryd.func42, Tryd.ntmps42
  go_wp2_with (go_at_call 46; refine (CN.out 0).mono ?_; rintro e9 w9 ⟨rfl, q9, rfl⟩)
  go_ret
  exact ⟨rfl, _, by first | rfl | exact World.drewN_drewN ..⟩
end

/-- fitsMember at a member that lies there. -/
theorem fitsMember_any (S : Nat → Prop) (b o : Nat) (T : TypeId) (v : Value) (w : World) (t : Nd) (hg : w.cell? ⟨0, 0, none⟩ = some (.iface T v)) (ht : NdAt w S b o t) (hx : isEx t = false) (hk : ∀ k nm a ts ags, t = .me k nm a ts ags → 0 ≤ k ∧ k ≤ 4 ∧ nm.size ≤ maxLen ∧ a.size ≤ maxLen) :
    Calls Tryd.prog 42 #[.pointer (some ⟨b, o, none⟩)] w fun e w' => e = .returned (.bool (meB t)) ∧ Drawn w w' := by
  obtain _ | ⟨hb, h0, h1, h2, h3, h4, ha, htt, hs, hts, hax⟩ := ht
  · cases hx
  rename_i k nm as_ types args va vt ga oa gt ot
  obtain ⟨k0, k1, hnm, has⟩ := hk _ _ _ _ _ rfl
  obtain ⟨xa, ca, rfl, _⟩ := ha.shape
  obtain ⟨xt, ct, rfl, _⟩ := htt.shape
  have CN : Hid (∀ q, Calls Tryd.prog 46 #[.string nm] (w.drewN q) fun e w' => e = .returned (.bool (nameB nm)) ∧ Drawn (w.drewN q) w') := Lib.hid fun q => isName_any nm T v _ hg hnm
  have CT : Hid (∀ q, Calls Tryd.prog 44 #[.int .i64 2, .string as_] (w.drewN q) fun e w' => e = .returned (.bool (textB 2 as_)) ∧ Drawn (w.drewN q) w') := Lib.hid fun q => ft_2 as_ T v _ hg has
  cases hn : nameB nm with
  | false =>
    rw [hn] at CN
    rw [show meB (.me k nm as_ types args) = false from by simp [meB, hn]]
    exact fm_name b o nm as_ xa xt _ ca _ ct w k h0 h1 h2 h3 h4 CN
  | true =>
    rw [hn] at CN
    have hks : k = 0 ∨ k = 1 ∨ k = 2 ∨ k = 3 ∨ k = 4 := by omega
    rcases hks with rfl | rfl | rfl | rfl | rfl
    · rw [show meB (.me 0 nm as_ types args) = false from by simp [meB]]
      exact fm_0 b o nm as_ xa xt _ ca _ ct w h0 h1 h2 h3 h4 CN
    · cases hq : textB 2 as_ with
      | false =>
        rw [hq] at CT
        rw [show meB (.me 1 nm as_ types args) = false from by simp [meB, hq]]
        exact fm_1a b o nm as_ xa xt _ ca _ ct w h0 h1 h2 h3 h4 CN CT
      | true =>
        rw [hq] at CT
        rw [show meB (.me 1 nm as_ types args) = ((types.length : Int) == 0) from by simp only [meB, hq, hn]; by_cases c : types.length = 0 <;> simp [c]]
        exact fm_1b b o nm as_ xa xt _ ca _ ct w h0 h1 h2 h3 h4 CN CT _ rfl
    · by_cases ce : as_ = ⟨#[]⟩
      · subst ce
        by_cases c1 : (args.length : Int) = 1
        · rw [show meB (.me 2 nm ⟨#[]⟩ types args) = ((types.length : Int) == 0) from by
            have c1' : args.length = 1 := by omega
            simp only [meB, hn, empty_yes]; by_cases c : types.length = 0 <;> simp [c, c1'] <;> omega]
          exact fm_2c b o nm xa xt _ ca _ ct w h0 h1 h2 h3 h4 CN (by simpa using c1) _ rfl
        · rw [show meB (.me 2 nm ⟨#[]⟩ types args) = false from by
            have c1' : args.length ≠ 1 := by omega
            simp [meB, c1']]
          exact fm_2b b o nm xa xt _ ca _ ct w h0 h1 h2 h3 h4 CN (by simpa using c1)
      · obtain ⟨y1, y2, y3, y4⟩ := empty_facts ce
        rw [show meB (.me 2 nm as_ types args) = false from by simp [meB, y1]]
        exact fm_2a b o nm as_ xa xt _ ca _ ct w h0 h1 h2 h3 h4 CN y2 y3 y4
    · by_cases ce : as_ = ⟨#[]⟩
      · subst ce
        by_cases c1 : (args.length : Int) = 1
        · rw [show meB (.me 3 nm ⟨#[]⟩ types args) = ((types.length : Int) == 0) from by
            have c1' : args.length = 1 := by omega
            simp only [meB, hn, empty_yes]; by_cases c : types.length = 0 <;> simp [c, c1'] <;> omega]
          exact fm_3c b o nm xa xt _ ca _ ct w h0 h1 h2 h3 h4 CN (by simpa using c1) _ rfl
        · rw [show meB (.me 3 nm ⟨#[]⟩ types args) = false from by
            have c1' : args.length ≠ 1 := by omega
            simp [meB, c1']]
          exact fm_3b b o nm xa xt _ ca _ ct w h0 h1 h2 h3 h4 CN (by simpa using c1)
      · obtain ⟨y1, y2, y3, y4⟩ := empty_facts ce
        rw [show meB (.me 3 nm as_ types args) = false from by simp [meB, y1]]
        exact fm_3a b o nm as_ xa xt _ ca _ ct w h0 h1 h2 h3 h4 CN y2 y3 y4
    · by_cases ce : as_ = ⟨#[]⟩
      · subst ce
        by_cases c1 : (args.length : Int) = 0
        · rw [show meB (.me 4 nm ⟨#[]⟩ types args) = ((types.length : Int) == 1) from by
            have c1' : args.length = 0 := by omega
            simp only [meB, hn, empty_yes]; by_cases c : types.length = 1 <;> simp [c, c1'] <;> omega]
          exact fm_4c b o nm xa xt _ ca _ ct w h0 h1 h2 h3 h4 CN (by simpa using c1) _ rfl
        · rw [show meB (.me 4 nm ⟨#[]⟩ types args) = false from by
            have c1' : args.length ≠ 0 := by omega
            simp [meB, c1']]
          exact fm_4b b o nm xa xt _ ca _ ct w h0 h1 h2 h3 h4 CN (by simpa using c1)
      · obtain ⟨y1, y2, y3, y4⟩ := empty_facts ce
        rw [show meB (.me 4 nm as_ types args) = false from by simp [meB, y1]]
        exact fm_4a b o nm as_ xa xt _ ca _ ct w h0 h1 h2 h3 h4 CN y2 y3 y4
end Go.Proofs.YtoopndgdaiblpaaDoor
