/- token where no token begins: no symbol, a word too long, a tick with no word behind it; and a ticked word. -/
import Derived.Test.YtabngleincejfaaGreatDoorContent
namespace Go.Proofs.YtabngleincejfaaGreatDoor
open Go.ChangeShapes Go.WideShapes Go.ChangeAt Go.RowKit

theorem symbol_none (s : ByteArray) (w : World) (h : 1 ≤ s.size) (h2 : 2 ≤ s.size → symB (s.extract 0 2) = false) (h1 : symB (s.extract 0 1) = false) :
    Calls Tryz.prog 46 #[.string s] w fun e w' => e = .returned (.string ⟨#[]⟩) ∧ w = w' := by
  by_cases h3 : 2 ≤ s.size
  · have h4 := h2 h3
    have b1 : (2 : Int) ≤ (s.size : Int) := by omega
    have b2 : (1 : Int) ≤ (s.size : Int) := by omega
    have hm : min (2 : Int) (s.size : Int) = 2 := by omega
    clear h2
    go_enter Tryz.func46, Tryz.ntmps46
    go_wp2
    refine wp_loop_rounds 3 ?_
    rw [rounds_succ]
    go_wp2_with (go_at_call 10; refine (isSymbol_any _ _).mono ?_; rintro e w' ⟨rfl, rfl⟩)
    rw [rounds_succ]
    go_wp2_with (go_at_call 10; refine (isSymbol_any _ _).mono ?_; rintro e w' ⟨rfl, rfl⟩)
    rw [rounds_succ]
    go_wp2
    go_ret
    exact ⟨rfl, rfl⟩
  · have b2 : (1 : Int) ≤ (s.size : Int) := by omega
    have hm : min (2 : Int) (s.size : Int) = 1 := by omega
    clear h2
    go_enter Tryz.func46, Tryz.ntmps46
    go_wp2
    refine wp_loop_rounds 2 ?_
    rw [rounds_succ]
    go_wp2_with (go_at_call 10; refine (isSymbol_any _ _).mono ?_; rintro e w' ⟨rfl, rfl⟩)
    rw [rounds_succ]
    go_wp2
    go_ret
    exact ⟨rfl, rfl⟩

/-- A byte that begins no token. -/
theorem token_none (s : ByteArray) (i : Nat) (hi : i < s.size) (eb : Value) (w : World) (hg : w.cell? ⟨4, 0, none⟩ = some eb) (h1 : sortF (s[i].toNat : Int) = 0)
    (c : ∀ W : World, Calls Tryz.prog 46 #[.string (s.extract i s.size)] W fun e w' => e = .returned (.string ⟨#[]⟩) ∧ W = w') :
    Calls Tryz.prog 25 #[.string s, .int .i64 i] w fun e w' => e = .returned (tokenV 0 0 ⟨#[]⟩ (i : Int) eb) ∧ Below w.heap.size w w' := by
  have hS := sortOf_any (s[i].toNat : Int)
  rw [h1] at hS
  have SC := Lib.hid hS
  have C := Lib.hid c
  have b1 : (i : Int) < (s.size : Int) := by omega
  have b2 : (i : Int) ≤ (s.size : Int) := by omega
  have hl : 4 < w.heap.size := by
    rcases Nat.lt_or_ge 4 w.heap.size with h' | h'
    · exact h'
    · simp [World.cell?, Array.getElem?_eq_none h'] at hg
  clear c hS h1
  go_enter Tryz.func25, Tryz.ntmps25
  go_wp2_with (first | (go_at_call 30; refine (SC.out _).mono ?_; rintro e w' ⟨rfl, rfl⟩) | (go_at_call 46; refine (C.out _).mono ?_; rintro e w' ⟨rfl, rfl⟩))
  go_region
  go_wp2
  refine bodyPost_ret (v := tokenV 0 0 ⟨#[]⟩ (i : Int) eb) (by simp [results, Tryz.results25, go_sem, tokenV]) rfl ⟨rfl, ?_⟩
  exact ((Below.refl _ _).alloc (Nat.le_refl _) _).drew

/-- A word's token, whatever word answers there. -/
theorem token_wordly (s : ByteArray) (i : Nat) (hi : i < s.size) (w : World) (hs : s.size ≤ maxLen) (h1 : sortF (s[i].toNat : Int) = 1) (t : ByteArray) (ev : Value) (ht : t.size ≤ s.size - i)
    (c : ∀ W : World, Below w.heap.size w W → Calls Tryz.prog 17 #[.string s, .int .i64 i] W fun e w' => e = .returned (.tuple #[.string t, ev]) ∧ Drawn W w') :
    Calls Tryz.prog 25 #[.string s, .int .i64 i] w fun e w' => e = .returned (tokenV (kindOf t) 0 t ((i : Int) + (t.size : Int)) ev) ∧ Below w.heap.size w w' := by
  have C := Lib.hid c
  have hS := sortOf_any (s[i].toNat : Int)
  rw [h1] at hS
  have SC := Lib.hid hS
  have b1 : (i : Int) < (s.size : Int) := by omega
  have hz1 : (i : Int) + (t.size : Int) ≤ (s.size : Int) := by omega
  have hz2 : 0 ≤ (t.size : Int) := by omega
  unfold maxLen at hs
  clear c hS h1 ht
  cases hk : keyB t
  · have hkk : kindOf t = 1 := by unfold kindOf; rw [hk]; rfl
    have KK := Lib.hid hkk
    clear hkk
    go_enter Tryz.func25, Tryz.ntmps25
    go_wp2_with (first | (go_at_call 30; refine (SC.out _).mono ?_; rintro e w' ⟨rfl, rfl⟩) | (go_at_call 17; refine (C.out _ ((Below.refl _ _).alloc (Nat.le_refl _) _)).mono ?_; rintro e w' ⟨rfl, nq, rfl⟩) | (go_at_call 9; refine (isKey_any _ _).mono ?_; rintro e w' ⟨rfl, rfl⟩))
    refine bodyPost_ret (v := tokenV 1 0 t ((i : Int) + (t.size : Int)) ev) (by simp [results, Tryz.results25, go_sem, tokenV]) rfl ⟨by rw [KK.out], ?_⟩
    exact set4 (drewN_below ((Below.refl _ _).alloc (Nat.le_refl _) _) _) _ (Nat.le_refl _) _ _ _ _
  · have hkk : kindOf t = 2 := by unfold kindOf; rw [hk]; rfl
    have KK := Lib.hid hkk
    clear hkk
    go_enter Tryz.func25, Tryz.ntmps25
    go_wp2_with (first | (go_at_call 30; refine (SC.out _).mono ?_; rintro e w' ⟨rfl, rfl⟩) | (go_at_call 17; refine (C.out _ ((Below.refl _ _).alloc (Nat.le_refl _) _)).mono ?_; rintro e w' ⟨rfl, nq, rfl⟩) | (go_at_call 9; refine (isKey_any _ _).mono ?_; rintro e w' ⟨rfl, rfl⟩))
    refine bodyPost_ret (v := tokenV 2 0 t ((i : Int) + (t.size : Int)) ev) (by simp [results, Tryz.results25, go_sem, tokenV]) rfl ⟨by rw [KK.out], ?_⟩
    exact set4 (drewN_below ((Below.refl _ _).alloc (Nat.le_refl _) _) _) _ (Nat.le_refl _) _ _ _ _

/-- A tick's token, whatever word answers behind it. -/
theorem token_tickly (s : ByteArray) (i : Nat) (hi : i < s.size) (w : World) (hs : s.size ≤ maxLen) (h1 : sortF (s[i].toNat : Int) = 4) (t : ByteArray) (ev : Value) (ht : t.size ≤ s.size - (i + 1))
    (c : ∀ W : World, Below w.heap.size w W → Calls Tryz.prog 17 #[.string s, .int .i64 ((i : Int) + 1)] W fun e w' => e = .returned (.tuple #[.string t, ev]) ∧ Drawn W w') :
    Calls Tryz.prog 25 #[.string s, .int .i64 i] w fun e w' => e = .returned (tokenV 5 0 t ((i : Int) + 1 + (t.size : Int)) ev) ∧ Below w.heap.size w w' := by
  have C := Lib.hid c
  have hS := sortOf_any (s[i].toNat : Int)
  rw [h1] at hS
  have SC := Lib.hid hS
  have b1 : (i : Int) < (s.size : Int) := by omega
  have hz1 : (i : Int) + 1 + (t.size : Int) ≤ (s.size : Int) := by omega
  have hz2 : 0 ≤ (t.size : Int) := by omega
  unfold maxLen at hs
  clear c hS h1 ht
  go_enter Tryz.func25, Tryz.ntmps25
  go_wp2_with (first | (go_at_call 30; refine (SC.out _).mono ?_; rintro e w' ⟨rfl, rfl⟩) | (go_at_call 17; refine (C.out _ ((Below.refl _ _).alloc (Nat.le_refl _) _)).mono ?_; rintro e w' ⟨rfl, nq, rfl⟩))
  refine bodyPost_ret (v := tokenV 5 0 t ((i : Int) + 1 + (t.size : Int)) ev) (by simp [results, Tryz.results25, go_sem, tokenV]) rfl ⟨rfl, ?_⟩
  exact set4 (drewN_below ((Below.refl _ _).alloc (Nat.le_refl _) _) _) _ (Nat.le_refl _) _ _ _ _
end Go.Proofs.YtabngleincejfaaGreatDoor
