/- Symbols: which texts are one, and the longest one that a text begins with. -/
import Derived.Test.YtabngleincejfaaGreatDoorToks
namespace Go.Proofs.YtabngleincejfaaGreatDoor
open Go.ChangeShapes Go.WideShapes Go.ChangeAt Go.RowKit

/-- A symbol: one of nineteen texts. -/
def symB (s : ByteArray) : Bool :=
  s.toList == [45, 62] || s.toList == [60, 45] || s.toList == [58, 62] || s.toList == [46, 46] || s.toList == [123, 60] || s.toList == [62, 125] || s.toList == [40] || s.toList == [41] || s.toList == [58] || s.toList == [59] || s.toList == [61] || s.toList == [60] || s.toList == [62] || s.toList == [43] || s.toList == [45] || s.toList == [42] || s.toList == [47] || s.toList == [44] || s.toList == [35]

set_option maxHeartbeats 1000000 in
theorem isSymbol_any (s : ByteArray) (w : World) : Calls Tryz.prog 10 #[.string s] w fun e w' => e = .returned (.bool (symB s)) ∧ w = w' := by
  cases h0 : (s.toList == [45, 62])
  rotate_left
  · go_enter Tryz.func10, Tryz.ntmps10
    go_wp2
    go_ret
    exact ⟨by simp [symB, h0], rfl⟩
  cases h1 : (s.toList == [60, 45])
  rotate_left
  · go_enter Tryz.func10, Tryz.ntmps10
    go_wp2
    go_ret
    exact ⟨by simp [symB, h0, h1], rfl⟩
  cases h2 : (s.toList == [58, 62])
  rotate_left
  · go_enter Tryz.func10, Tryz.ntmps10
    go_wp2
    go_ret
    exact ⟨by simp [symB, h0, h1, h2], rfl⟩
  cases h3 : (s.toList == [46, 46])
  rotate_left
  · go_enter Tryz.func10, Tryz.ntmps10
    go_wp2
    go_ret
    exact ⟨by simp [symB, h0, h1, h2, h3], rfl⟩
  cases h4 : (s.toList == [123, 60])
  rotate_left
  · go_enter Tryz.func10, Tryz.ntmps10
    go_wp2
    go_ret
    exact ⟨by simp [symB, h0, h1, h2, h3, h4], rfl⟩
  cases h5 : (s.toList == [62, 125])
  rotate_left
  · go_enter Tryz.func10, Tryz.ntmps10
    go_wp2
    go_ret
    exact ⟨by simp [symB, h0, h1, h2, h3, h4, h5], rfl⟩
  cases h6 : (s.toList == [40])
  rotate_left
  · go_enter Tryz.func10, Tryz.ntmps10
    go_wp2
    go_ret
    exact ⟨by simp [symB, h0, h1, h2, h3, h4, h5, h6], rfl⟩
  cases h7 : (s.toList == [41])
  rotate_left
  · go_enter Tryz.func10, Tryz.ntmps10
    go_wp2
    go_ret
    exact ⟨by simp [symB, h0, h1, h2, h3, h4, h5, h6, h7], rfl⟩
  cases h8 : (s.toList == [58])
  rotate_left
  · go_enter Tryz.func10, Tryz.ntmps10
    go_wp2
    go_ret
    exact ⟨by simp [symB, h0, h1, h2, h3, h4, h5, h6, h7, h8], rfl⟩
  cases h9 : (s.toList == [59])
  rotate_left
  · go_enter Tryz.func10, Tryz.ntmps10
    go_wp2
    go_ret
    exact ⟨by simp [symB, h0, h1, h2, h3, h4, h5, h6, h7, h8, h9], rfl⟩
  cases h10 : (s.toList == [61])
  rotate_left
  · go_enter Tryz.func10, Tryz.ntmps10
    go_wp2
    go_ret
    exact ⟨by simp [symB, h0, h1, h2, h3, h4, h5, h6, h7, h8, h9, h10], rfl⟩
  cases h11 : (s.toList == [60])
  rotate_left
  · go_enter Tryz.func10, Tryz.ntmps10
    go_wp2
    go_ret
    exact ⟨by simp [symB, h0, h1, h2, h3, h4, h5, h6, h7, h8, h9, h10, h11], rfl⟩
  cases h12 : (s.toList == [62])
  rotate_left
  · go_enter Tryz.func10, Tryz.ntmps10
    go_wp2
    go_ret
    exact ⟨by simp [symB, h0, h1, h2, h3, h4, h5, h6, h7, h8, h9, h10, h11, h12], rfl⟩
  cases h13 : (s.toList == [43])
  rotate_left
  · go_enter Tryz.func10, Tryz.ntmps10
    go_wp2
    go_ret
    exact ⟨by simp [symB, h0, h1, h2, h3, h4, h5, h6, h7, h8, h9, h10, h11, h12, h13], rfl⟩
  cases h14 : (s.toList == [45])
  rotate_left
  · go_enter Tryz.func10, Tryz.ntmps10
    go_wp2
    go_ret
    exact ⟨by simp [symB, h0, h1, h2, h3, h4, h5, h6, h7, h8, h9, h10, h11, h12, h13, h14], rfl⟩
  cases h15 : (s.toList == [42])
  rotate_left
  · go_enter Tryz.func10, Tryz.ntmps10
    go_wp2
    go_ret
    exact ⟨by simp [symB, h0, h1, h2, h3, h4, h5, h6, h7, h8, h9, h10, h11, h12, h13, h14, h15], rfl⟩
  cases h16 : (s.toList == [47])
  rotate_left
  · go_enter Tryz.func10, Tryz.ntmps10
    go_wp2
    go_ret
    exact ⟨by simp [symB, h0, h1, h2, h3, h4, h5, h6, h7, h8, h9, h10, h11, h12, h13, h14, h15, h16], rfl⟩
  cases h17 : (s.toList == [44])
  rotate_left
  · go_enter Tryz.func10, Tryz.ntmps10
    go_wp2
    go_ret
    exact ⟨by simp [symB, h0, h1, h2, h3, h4, h5, h6, h7, h8, h9, h10, h11, h12, h13, h14, h15, h16, h17], rfl⟩
  cases h18 : (s.toList == [35])
  rotate_left
  · go_enter Tryz.func10, Tryz.ntmps10
    go_wp2
    go_ret
    exact ⟨by simp [symB, h0, h1, h2, h3, h4, h5, h6, h7, h8, h9, h10, h11, h12, h13, h14, h15, h16, h17, h18], rfl⟩
  · go_enter Tryz.func10, Tryz.ntmps10
    go_wp2
    go_ret
    exact ⟨by simp [symB, h0, h1, h2, h3, h4, h5, h6, h7, h8, h9, h10, h11, h12, h13, h14, h15, h16, h17, h18], rfl⟩

/-- The longest symbol that a text begins with; none: the empty text. -/
def symF (s : ByteArray) : ByteArray := if 2 ≤ s.size ∧ symB (s.extract 0 2) = true then s.extract 0 2 else if 1 ≤ s.size ∧ symB (s.extract 0 1) = true then s.extract 0 1 else ⟨#[]⟩

theorem symbol_two (s : ByteArray) (w : World) (h : 2 ≤ s.size) (h2 : symB (s.extract 0 2) = true) :
    Calls Tryz.prog 46 #[.string s] w fun e w' => e = .returned (.string (s.extract 0 2)) ∧ w = w' := by
  have b1 : (2 : Int) ≤ (s.size : Int) := by omega
  have hm : min (2 : Int) (s.size : Int) = 2 := by omega
  go_enter Tryz.func46, Tryz.ntmps46
  go_wp2
  refine wp_loop_rounds 1 ?_
  rw [rounds_succ]
  go_wp2_with (go_at_call 10; refine (isSymbol_any _ _).mono ?_; rintro e w' ⟨rfl, rfl⟩)
  go_ret
  exact ⟨rfl, rfl⟩
theorem symbol_one (s : ByteArray) (w : World) (h : 1 ≤ s.size) (h2 : 2 ≤ s.size → symB (s.extract 0 2) = false) (h1 : symB (s.extract 0 1) = true) :
    Calls Tryz.prog 46 #[.string s] w fun e w' => e = .returned (.string (s.extract 0 1)) ∧ w = w' := by
  by_cases h3 : 2 ≤ s.size
  · have h4 := h2 h3
    have b1 : (2 : Int) ≤ (s.size : Int) := by omega
    have b2 : (1 : Int) ≤ (s.size : Int) := by omega
    have hm : min (2 : Int) (s.size : Int) = 2 := by omega
    clear h2
    go_enter Tryz.func46, Tryz.ntmps46
    go_wp2
    refine wp_loop_rounds 2 ?_
    rw [rounds_succ]
    go_wp2_with (go_at_call 10; refine (isSymbol_any _ _).mono ?_; rintro e w' ⟨rfl, rfl⟩)
    rw [rounds_succ]
    go_wp2_with (go_at_call 10; refine (isSymbol_any _ _).mono ?_; rintro e w' ⟨rfl, rfl⟩)
    go_ret
    exact ⟨rfl, rfl⟩
  · have b2 : (1 : Int) ≤ (s.size : Int) := by omega
    have hm : min (2 : Int) (s.size : Int) = 1 := by omega
    clear h2
    go_enter Tryz.func46, Tryz.ntmps46
    go_wp2
    refine wp_loop_rounds 1 ?_
    rw [rounds_succ]
    go_wp2_with (go_at_call 10; refine (isSymbol_any _ _).mono ?_; rintro e w' ⟨rfl, rfl⟩)
    go_ret
    exact ⟨rfl, rfl⟩

/-- A symbol of n bytes begins at a place: token tells it. -/
theorem token_sym (s : ByteArray) (i : Nat) (hi : i < s.size) (n : Nat) (hn : i + n ≤ s.size) (w : World) (hs : s.size ≤ maxLen) (h1 : sortF (s[i].toNat : Int) = 0) (h0 : 0 < n)
    (c : ∀ W : World, Calls Tryz.prog 46 #[.string (s.extract i s.size)] W fun e w' => e = .returned (.string (s.extract i (i + n))) ∧ W = w') :
    Calls Tryz.prog 25 #[.string s, .int .i64 i] w fun e w' => e = .returned (tokenV 6 0 (s.extract i (i + n)) ((i : Int) + (n : Int)) .nilIface) ∧ Below w.heap.size w w' := by
  have hS := sortOf_any (s[i].toNat : Int)
  rw [h1] at hS
  have SC := Lib.hid hS
  have hz : (s.extract i (i + n)).size = n := by
    rw [Lib.size_eq, Lib.extract_data, List.length_take, List.length_drop, ← Lib.size_eq]; omega
  have hne : ((s.extract i (i + n)).toList == []) = false := by
    rw [beq_eq_false_iff_ne]; intro h
    have := congrArg List.length h
    rw [Lib.toList_data, ← Lib.size_eq, hz] at this
    simp at this; omega
  generalize s.extract i (i + n) = t at *
  have hne2 : t.toList.isEmpty = false := by
    cases h : t.toList with
    | nil => rw [h] at hne; simp at hne
    | cons a b => rfl
  have C := Lib.hid c
  have b1 : (i : Int) < (s.size : Int) := by omega
  have b2 : (i : Int) ≤ (s.size : Int) := by omega
  have hz1 : (t.size : Int) ≤ n := by omega
  unfold maxLen at hs
  have HZ := Lib.hid hz
  have hb : (i : Int) + (n : Int) ≤ (s.size : Int) := by omega
  clear c hS h1 hz
  go_enter Tryz.func25, Tryz.ntmps25
  go_wp2_with (first | (go_at_call 30; refine (SC.out _).mono ?_; rintro e w' ⟨rfl, rfl⟩) | (go_at_call 46; refine (C.out _).mono ?_; rintro e w' ⟨rfl, rfl⟩))
  refine bodyPost_ret (v := tokenV 6 0 t ((i : Int) + (t.size : Int)) .nilIface) (by simp [results, Tryz.results25, go_sem, tokenV]) rfl ⟨by rw [HZ.out], ?_⟩
  go_grown
end Go.Proofs.YtabngleincejfaaGreatDoor
