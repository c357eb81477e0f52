/- Plain facts: a number's digits are parsed as it; no Go in sight. -/
import Derived.Lib.ParseIntB
import Derived.Lib.ParseIntBCases
import Derived.Lib.ItoaNum
import Derived.Lib.Strings
namespace Go.Proofs.YtabngleincejfaaGreatDoor
open Go.Lib

theorem pu_snoc (M : Nat) (c : UInt8) : ∀ (l : List UInt8) (a b : Nat), parseUintM M a l = .ok b → parseUintM M a (l ++ [c]) = parseUintM M b [c]
  | [], a, b, h => by
    simp only [parseUintM, NumEnd.ok.injEq] at h
    subst h; rfl
  | d :: r, a, b, h => by
    rw [List.cons_append]
    unfold parseUintM at h ⊢
    split at h
    · split at h
      · cases h
      · split at h
        · cases h
        · rename_i h1 h2 h3
          rw [if_pos h1, if_neg h2, if_neg h3]
          exact pu_snoc M c r _ b h
    · cases h

theorem digit_nat (d : Nat) (h : d < 10) : (UInt8.ofNat (48 + d)).toNat = 48 + d := by
  rw [UInt8.toNat_ofNat']; omega

theorem pu_dec (u : Nat) (hu : u ≤ 18446744073709551615) : parseUintM 18446744073709551615 0 (decDigits u) = .ok u := by
  induction u using Nat.strongRecOn with
  | _ u ih =>
    rw [decDigits.eq_def]
    split
    · rename_i h
      simp only [parseUintM, digit_nat u h]
      rw [if_pos (by omega), if_neg (by omega), if_neg (by omega)]
      congr 1; omega
    · rename_i h
      rw [pu_snoc _ _ _ 0 (u / 10) (ih (u / 10) (by omega) (by omega))]
      simp only [parseUintM, digit_nat (u % 10) (by omega)]
      rw [if_pos (by omega), if_neg (by omega), if_neg (by omega)]
      congr 1; omega

theorem dec_head (u : Nat) : ∃ c r, decDigits u = c :: r ∧ 48 ≤ c.toNat ∧ c.toNat ≤ 57 := by
  induction u using Nat.strongRecOn with
  | _ u ih =>
    rw [decDigits.eq_def]
    split
    · rename_i h
      exact ⟨_, [], rfl, by rw [digit_nat u h]; omega⟩
    · obtain ⟨c, r, h, hc⟩ := ih (u / 10) (by omega)
      exact ⟨c, r ++ [UInt8.ofNat (48 + u % 10)], by rw [h]; rfl, hc⟩

theorem pub_dec (u : Nat) (hu : u ≤ 18446744073709551615) : parseUintB 64 (decDigits u) = .ok u := by
  obtain ⟨c, r, h, _⟩ := dec_head u
  unfold parseUintB
  rw [if_neg (by rw [h]; simp)]
  exact pu_dec u hu

theorem parse_itoa (n : Int) (h0 : -9223372036854775808 ≤ n) (h1 : n ≤ 9223372036854775807) : parseIntB 64 (itoa n) = .ok n := by
  unfold itoa
  split
  · rename_i h
    unfold parseIntB
    have e : (45 : UInt8).toNat = 45 := rfl
    simp only [e, or_true, if_true]
    rw [pub_dec n.natAbs (by omega)]
    simp only [not_true_eq_false, false_and, if_false, true_and]
    rw [if_neg (by omega)]
    congr 1; omega
  · rename_i h
    obtain ⟨c, r, hd, hc⟩ := dec_head n.toNat
    rw [hd]
    unfold parseIntB
    have e1 : ¬ (c.toNat = 43 ∨ c.toNat = 45) := by omega
    have e2 : ¬ c.toNat = 45 := by omega
    simp only [if_neg e1]
    rw [← hd, pub_dec n.toNat (by omega)]
    simp only [e2, not_false_eq_true, true_and, false_and, if_false]
    rw [if_neg (by omega)]
    congr 1; omega

/-- Digits alone, too great for an int64. -/
theorem parse_range (u : Nat) (h0 : 9223372036854775808 ≤ u) (h1 : u ≤ 18446744073709551615) : parseIntB 64 (decDigits u) = .range := by
  obtain ⟨c, r, hd, hc⟩ := dec_head u
  rw [hd]
  unfold parseIntB
  have e1 : ¬ (c.toNat = 43 ∨ c.toNat = 45) := by omega
  have e2 : ¬ c.toNat = 45 := by omega
  simp only [if_neg e1]
  rw [← hd, pub_dec u h1]
  simp only [e2, not_false_eq_true, true_and]
  rw [if_pos (by omega)]
end Go.Proofs.YtabngleincejfaaGreatDoor
