/- The law LexNames, walked: it answers true; what lay in memory stays. -/
import Derived.Test.YtabngleincejfaaDoorLaw1
namespace Go.Proofs.YtabngleincejfaaDoor
open Go.ChangeShapes Go.WideShapes Go.ChangeAt Go.RowKit

theorem EnvL.drew {E : Errs} {W : World} (h : EnvL E W) (n : Nat) : EnvL E (W.drewN n) := h.self (drewN_below (Below.refl _ _) n) (Nat.le_refl _)

theorem isName_below (s : ByteArray) (E : Errs) (W : World) (hW : EnvL E W) (hs : s.size ≤ maxLen) : Calls Tryd.prog 7 #[.string s] W fun e w' => e = .returned (.bool (nameB s)) ∧ Below W.heap.size W w' :=
  (isName_any s _ _ W hW.word hs).mono fun e w' ⟨he, n, hw⟩ => ⟨he, by rw [hw]; exact drewN_below (Below.refl _ _) n⟩

theorem names_long (E : Errs) (s : ByteArray) (w : World) (hE : EnvL E w) (hs : 300 < (s.size : Int)) :
    Calls Tryd.prog 3 #[.string s] w fun e w' => e = .returned (.bool true) ∧ Below w.heap.size w w' := by
  have HE := Lib.hid hE
  clear hE
  go_enter Tryd.func3, Tryd.ntmps3
  go_wp2_with fail
  refine (alive_is E _ HE.out).mono ?_
  rintro e w1 ⟨rfl, hB1⟩
  go_wp2_with fail
  go_ret
  exact ⟨rfl, hB1⟩

set_option maxRecDepth 100000 in
theorem names_yes (E : Errs) (s : ByteArray) (w : World) (hE : EnvL E w) (hs : (s.size : Int) ≤ 300) (hn : nameB s = true) :
    Calls Tryd.prog 3 #[.string s] w fun e w' => e = .returned (.bool true) ∧ Below w.heap.size w w' := by
  have c1 : ∀ W, EnvL E W → Calls Tryd.prog 6 #[.string s] W (Lexed W [⟨1, 0, 0, s⟩, endTk s]) := fun W hW => lex_good E _ _ W hW (by omega) (names_one hn)
  have c2 : ∀ W, EnvL E W → Calls Tryd.prog 7 #[.string s] W fun e w' => e = .returned (.bool true) ∧ Below W.heap.size W w' := fun W hW => by
    have := isName_below s E W hW (by unfold maxLen; omega)
    rwa [hn] at this
  have hk : keyB s = false := by
    unfold nameB at hn
    simpa using (Bool.and_eq_true_iff.1 hn).2
  have c3 : ∀ W, EnvL E W → Calls Tryd.prog 7 #[.string (s ++ ⟨#[120]⟩)] W fun e w' => e = .returned (.bool (nameB (s ++ ⟨#[120]⟩))) ∧ Below W.heap.size W w' := fun W hW => isName_below _ E W hW (by
    rw [Lib.size_eq, ByteArray.data_append, Array.toList_append, List.length_append, ← Lib.size_eq]; unfold maxLen; simp; omega)
  have hx : s.size ≠ 100 → keyB (s ++ ⟨#[120]⟩) = false → nameB (s ++ ⟨#[120]⟩) = true := fun h1 h2 => by
    unfold nameB; rw [names_more hn h1, h2]; rfl
  have C1 := Lib.hid c1
  have C2 := Lib.hid c2
  have C3 := Lib.hid c3
  have HX := Lib.hid hx
  have HE := Lib.hid hE
  clear c1 c2 c3 hE hn hx
  go_enter Tryd.func3, Tryd.ntmps3
  go_wp2_with fail
  refine (alive_is E _ HE.out).mono ?_
  rintro e w1 ⟨rfl, hB1⟩
  have E1 := HE.out.self hB1 (Nat.le_refl _)
  go_wp2_with fail
  refine (C1.out _ E1).mono ?_
  rintro e w2 ⟨v, rfl, hown, hB2⟩
  have E2 := E1.self hB2 (Nat.le_refl _)
  have hB3 := hB1.trans (hB2.mono hB1.size)
  obtain ⟨g, cap, rfl, hg1, hg2⟩ := hown.form (by simp)
  have hcells := hown.cells (g := g) rfl
  have ha : ∀ j, (⟨g, 0, none⟩ : Addr).add j = ⟨g, j, none⟩ := fun j => by unfold Addr.add; split <;> simp_all
  have k0 : w2.cell? ⟨g, 0, none⟩ = some (.int .i64 1) := by rw [← ha 0]; exact hcells 0 _ rfl
  have k1 : w2.cell? ⟨g, 1, none⟩ = some (.int .i64 0) := by rw [← ha 1]; exact hcells 1 _ rfl
  have k2 : w2.cell? ⟨g, 2, none⟩ = some (.int .i64 0) := by rw [← ha 2]; exact hcells 2 _ rfl
  have k3 : w2.cell? ⟨g, 3, none⟩ = some (.string s) := by rw [← ha 3]; exact hcells 3 _ rfl
  clear ha hown hcells
  go_wp2_with fail
  refine (C2.out _ E2).mono ?_
  rintro e w3 ⟨rfl, d1⟩
  have E3 := E2.self d1 (Nat.le_refl _)
  have hB4 := hB3.trans (d1.mono hB3.size)
  go_wp2_with fail
  refine (C2.out _ E3).mono ?_
  rintro e w4 ⟨rfl, d2⟩
  have E4 := E3.self d2 (Nat.le_refl _)
  have hB5 := hB4.trans (d2.mono hB4.size)
  go_wp2_with (go_at_call 8; refine (isKey_any _ _).mono ?_; rintro e w' ⟨rfl, rfl⟩)
  refine (C2.out _ E4).mono ?_
  rintro e w5 ⟨rfl, d3⟩
  have E5 := E4.self d3 (Nat.le_refl _)
  have hB6 := hB5.trans (d3.mono hB5.size)
  clear k0 k1 k2 k3
  by_cases h100 : (s.size : Int) = 100
  · go_wp2_with fail
    go_ret
    exact ⟨rfl, hB6⟩
  · cases hk2 : keyB (s ++ ⟨#[120]⟩)
    · have hn2 := HX.out (by omega) hk2
      have C4 := C3.out
      rw [hn2] at C4
      have D := Lib.hid C4
      clear C4 hn2
      go_wp2_with (go_at_call 8; refine (isKey_any _ _).mono ?_; rintro e w' ⟨rfl, rfl⟩)
      refine (D.out _ E5).mono ?_
      rintro e w6 ⟨rfl, d4⟩
      go_wp2_with fail
      go_ret
      exact ⟨rfl, hB6.trans (d4.mono hB6.size)⟩
    · go_wp2_with (go_at_call 8; refine (isKey_any _ _).mono ?_; rintro e w' ⟨rfl, rfl⟩)
      go_ret
      exact ⟨rfl, hB6⟩

/-- What is told of a text that is no name. -/
theorem names_not {s : ByteArray} (hn : nameB s = false) : toksOf s = none ∨ ∃ l, toksOf s = some l ∧ ∀ t, l = [t] → ¬ (t.kind = 1 ∧ t.at_ = 0 ∧ t.n = 0 ∧ t.t = s) := by
  cases h : toksOf s with
  | none => exact .inl rfl
  | some l =>
    refine .inr ⟨l, rfl, fun t ht hx => ?_⟩
    obtain ⟨h1, h2, h3, h4⟩ := hx
    obtain ⟨k, a, n, b⟩ := t
    simp only at h1 h2 h3 h4
    subst h1 h2 h3 h4 ht
    rw [names_back h] at hn
    cases hn

set_option maxRecDepth 100000 in
theorem names_no (E : Errs) (s : ByteArray) (w : World) (hE : EnvL E w) (hs : (s.size : Int) ≤ 300) (hn : nameB s = false) :
    Calls Tryd.prog 3 #[.string s] w fun e w' => e = .returned (.bool true) ∧ Below w.heap.size w w' := by
  have c2 : ∀ W, EnvL E W → Calls Tryd.prog 7 #[.string s] W fun e w' => e = .returned (.bool false) ∧ Below W.heap.size W w' := fun W hW => by
    have := isName_below s E W hW (by unfold maxLen; omega)
    rwa [hn] at this
  have C2 := Lib.hid c2
  have HE := Lib.hid hE
  have hz : s.size ≤ 65536 := by omega
  have c := fun W (hW : EnvL E W) => lex_all E s W hW hz
  unfold LexEnds at c
  rcases names_not hn with h | ⟨l, h, hl⟩
  · rw [h] at c
    have C1 := Lib.hid c
    clear c c2 hE hn h
    go_enter Tryd.func3, Tryd.ntmps3
    go_wp2_with fail
    refine (alive_is E _ HE.out).mono ?_
    rintro e w1 ⟨rfl, hB1⟩
    have E1 := HE.out.self hB1 (Nat.le_refl _)
    go_wp2_with fail
    refine (C1.out _ E1).mono ?_
    rintro e w2 ⟨⟨v, x, rfl⟩, hB2⟩
    have E2 := E1.self hB2 (Nat.le_refl _)
    have hB3 := hB1.trans (hB2.mono hB1.size)
    go_wp2_with fail
    refine (C2.out _ E2).mono ?_
    rintro e w3 ⟨rfl, d1⟩
    have E3 := E2.self d1 (Nat.le_refl _)
    have hB4 := hB3.trans (d1.mono hB3.size)
    go_wp2_with fail
    refine (C2.out _ E3).mono ?_
    rintro e w4 ⟨rfl, d2⟩
    have E4 := E3.self d2 (Nat.le_refl _)
    have hB5 := hB4.trans (d2.mono hB4.size)
    go_wp2_with fail
    refine (C2.out _ E4).mono ?_
    rintro e w5 ⟨rfl, d3⟩
    have hB6 := hB5.trans (d3.mono hB5.size)
    go_wp2_with fail
    go_ret
    exact ⟨rfl, hB6⟩
  · rw [h] at c
    by_cases h1 : l.length = 1
    · obtain ⟨t, rfl⟩ := List.length_eq_one_iff.1 h1
      have ht := hl t rfl
      obtain ⟨k, a, n, b⟩ := t
      simp only at ht
      have hcmp : (k == 1) = false ∨ (k = 1 ∧ (a == 0) = false) ∨ (k = 1 ∧ a = 0 ∧ (n == 0) = false) ∨ (k = 1 ∧ a = 0 ∧ n = 0 ∧ (b.toList == s.toList) = false) := by
        by_cases h1 : k = 1
        · by_cases h2 : a = 0
          · by_cases h3 : n = 0
            · refine .inr (.inr (.inr ⟨h1, h2, h3, ?_⟩))
              rw [beq_eq_false_iff_ne]
              intro h4
              rw [Lib.toList_data, Lib.toList_data] at h4
              exact ht ⟨h1, h2, h3, bytes_ext h4⟩
            · exact .inr (.inr (.inl ⟨h1, h2, by simpa using h3⟩))
          · exact .inr (.inl ⟨h1, by simpa using h2⟩)
        · exact .inl (by simpa using h1)
      have C1 := Lib.hid c
      clear c c2 hE hn h h1 hl ht
      rcases hcmp with t1 | ⟨rfl, t1⟩ | ⟨rfl, rfl, t1⟩ | ⟨rfl, rfl, rfl, t1⟩
      all_goals
        go_enter Tryd.func3, Tryd.ntmps3
        go_wp2_with fail
        refine (alive_is E _ HE.out).mono ?_
        rintro e w1 ⟨rfl, hB1⟩
        have E1 := HE.out.self hB1 (Nat.le_refl _)
        go_wp2_with fail
        refine (C1.out _ E1).mono ?_
        rintro e w2 ⟨v, rfl, hown, hB2⟩
        have E2 := E1.self hB2 (Nat.le_refl _)
        have hB3 := hB1.trans (hB2.mono hB1.size)
        obtain ⟨g, cap, rfl, hg1, hg2⟩ := hown.form (by simp)
        have hcells := hown.cells (g := g) rfl
        have ha : ∀ j, (⟨g, 0, none⟩ : Addr).add j = ⟨g, j, none⟩ := fun j => by unfold Addr.add; split <;> simp_all
        have k0 := hcells 0 _ rfl
        have k1 := hcells 1 _ rfl
        have k2 := hcells 2 _ rfl
        have k3 := hcells 3 _ rfl
        rw [ha] at k0 k1 k2 k3
        clear ha hown hcells
        go_wp2_with fail
        refine (C2.out _ E2).mono ?_
        rintro e w3 ⟨rfl, d1⟩
        have E3 := E2.self d1 (Nat.le_refl _)
        have hB4 := hB3.trans (d1.mono hB3.size)
        clear k0 k1 k2 k3
        go_wp2_with fail
        refine (C2.out _ E3).mono ?_
        rintro e w4 ⟨rfl, d2⟩
        have E4 := E3.self d2 (Nat.le_refl _)
        have hB5 := hB4.trans (d2.mono hB4.size)
        go_wp2_with fail
        refine (C2.out _ E4).mono ?_
        rintro e w5 ⟨rfl, d3⟩
        have hB6 := hB5.trans (d3.mono hB5.size)
        go_wp2_with fail
        go_ret
        exact ⟨rfl, hB6⟩
    · have h2 : ((((l ++ [endTk s]).length : Nat) : Int) == 2) = false := by
        rw [beq_eq_false_iff_ne, List.length_append]; simp; omega
      have C1 := Lib.hid c
      clear c c2 hE hn h h1 hl
      go_enter Tryd.func3, Tryd.ntmps3
      go_wp2_with fail
      refine (alive_is E _ HE.out).mono ?_
      rintro e w1 ⟨rfl, hB1⟩
      have E1 := HE.out.self hB1 (Nat.le_refl _)
      go_wp2_with fail
      refine (C1.out _ E1).mono ?_
      rintro e w2 ⟨v, rfl, hown, hB2⟩
      have E2 := E1.self hB2 (Nat.le_refl _)
      have hB3 := hB1.trans (hB2.mono hB1.size)
      obtain ⟨g, cap, rfl, hg1, hg2⟩ := hown.form (by simp)
      clear hown
      generalize (l ++ [endTk s]).length = m at *
      go_wp2_with fail
      refine (C2.out _ E2).mono ?_
      rintro e w3 ⟨rfl, d1⟩
      have E3 := E2.self d1 (Nat.le_refl _)
      have hB4 := hB3.trans (d1.mono hB3.size)
      go_wp2_with fail
      refine (C2.out _ E3).mono ?_
      rintro e w4 ⟨rfl, d2⟩
      have E4 := E3.self d2 (Nat.le_refl _)
      have hB5 := hB4.trans (d2.mono hB4.size)
      go_wp2_with fail
      refine (C2.out _ E4).mono ?_
      rintro e w5 ⟨rfl, d3⟩
      have hB6 := hB5.trans (d3.mono hB5.size)
      go_wp2_with fail
      go_ret
      exact ⟨rfl, hB6⟩

theorem names_all (E : Errs) (s : ByteArray) (w : World) (hE : EnvL E w) :
    Calls Tryd.prog 3 #[.string s] w fun e w' => e = .returned (.bool true) ∧ Below w.heap.size w w' := by
  by_cases hs : 300 < (s.size : Int)
  · exact names_long E s w hE hs
  · cases hn : nameB s
    · exact names_no E s w hE (by omega) hn
    · exact names_yes E s w hE (by omega) hn
end Go.Proofs.YtabngleincejfaaDoor
