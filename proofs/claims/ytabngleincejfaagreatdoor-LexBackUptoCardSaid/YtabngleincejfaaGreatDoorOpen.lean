/- content where a text has no end, or a wrong backslash: it tells errText. -/
import Derived.Test.YtabngleincejfaaGreatDoorSkip
import Derived.Deep.QuietTactic
import Derived.BigQuiet
namespace Go.Proofs.YtabngleincejfaaGreatDoor
open Go.ChangeShapes Go.WideShapes Go.ChangeAt Go.RowKit

theorem escaped_no (c : UInt8) (w : World) (h1 : c ≠ 110) (h2 : c ≠ 34) (h3 : c ≠ 92) : Calls Tryz.prog 62 #[.int .u8 (c.toNat : Int)] w fun e w' => e = .returned (.tuple #[.int .u8 0, .bool false]) ∧ w = w' := by
  have t1 : ((c.toNat : Int) == 110) = false := by
    have := u8_eq c 110; rw [decide_eq_false h1] at this; exact this
  have t2 : ((c.toNat : Int) == 34) = false := by
    have := u8_eq c 34; rw [decide_eq_false h2] at this; exact this
  have t3 : ((c.toNat : Int) == 92) = false := by
    have := u8_eq c 92; rw [decide_eq_false h3] at this; exact this
  clear h1 h2 h3
  go_enter Tryz.func62, Tryz.ntmps62
  go_wp2
  go_ret2
  exact ⟨rfl, rfl⟩

/-- From a place on the bytes tell no text. -/
inductive DecBad (s : ByteArray) : Nat → Prop
  | open_ : DecBad s s.size
  | last {p : Nat} (hp : p < s.size) (hl : p + 1 = s.size) (h : s[p] = 92) : DecBad s p
  | wrong {p : Nat} (hp : p + 1 < s.size) (h : s[p] = 92) (h1 : s[p + 1] ≠ 110) (h2 : s[p + 1] ≠ 34) (h3 : s[p + 1] ≠ 92) : DecBad s p
  | esc {p : Nat} {d : UInt8} (hp : p + 1 < s.size) (h : s[p] = 92) (ht : toldB s[p + 1] d) (r : DecBad s (p + 2)) : DecBad s p
  | plain {p : Nat} (hp : p < s.size) (h1 : s[p] ≠ 34) (h2 : s[p] ≠ 92) (r : DecBad s (p + 1)) : DecBad s p

set_option maxHeartbeats 2000000 in
set_option maxRecDepth 100000 in
theorem content_bad (E : Errs) (s : ByteArray) (i : Nat) (w : World) (hE : EnvL E w) (hs : s.size ≤ 65536) (hd : DecBad s i) :
    Calls Tryz.prog 45 #[.string s, .int .i64 i] w fun e' w' => (∃ e : Nat, e' = .returned (.tuple #[.string ⟨#[]⟩, .int .i64 (e : Int), .iface E.tt E.vt])) ∧ Below w.heap.size w w' := by
  have HD := Lib.hid hd
  have hip : i ≤ s.size := by cases hd <;> omega
  have HE := Lib.hid hE
  clear hd hE
  go_enter Tryz.func45, Tryz.ntmps45
  go_wp2
  go_loopw [1] (fun x wr => ∃ (p : Nat) (d : List UInt8), p ≤ s.size ∧ d.length ≤ p ∧ x = .int .i64 p ∧ HeldC w.heap.size d wr ∧ DecBad s p ∧ Below w.heap.size w wr) (fun x _ => s.size - (intOf x).toNat)
  case atStart => exact ⟨i, [], hip, by simp, rfl, Lib.fresh_isBuilder _ _ _, HD.out, (Below.refl _ _).alloc (Nat.le_refl _) _⟩
  case round =>
    obtain ⟨p, d, hp, hdl, rfl, hb, hr, hB⟩ := hrel
    have HB := Lib.hid hb
    have ht := (HE.out.self hB (Nat.le_refl _)).text
    clear hb
    cases hr with
    | open_ =>
      go_wp2_with fail
      go_quiet (fail)
      go_wp2
      go_ret3
      exact ⟨⟨s.size, rfl⟩, drewN_below hB _⟩
    | last hp2 hl h =>
      have t1 : ((s[p].toNat : Int) == 34) = false := by rw [h]; rfl
      have t2 : ((s[p].toNat : Int) == 92) = true := by rw [h]; rfl
      have t3 : ((p : Int) + 1 == (s.size : Int)) = true := by simp; omega
      clear h
      go_wp2_with fail
      go_quiet (fail)
      go_wp2
      go_ret3
      exact ⟨⟨p + 1, by go_num⟩, drewN_below hB _⟩
    | wrong hp2 h h1 h2 h3 =>
      have t1 : ((s[p].toNat : Int) == 34) = false := by rw [h]; rfl
      have t2 : ((s[p].toNat : Int) == 92) = true := by rw [h]; rfl
      have t3 : ((p : Int) + 1 == (s.size : Int)) = false := by simp; omega
      have b1 : (p : Int) + 1 < (s.size : Int) := by omega
      have N := Lib.hid (And.intro h1 (And.intro h2 h3))
      clear h h1 h2 h3
      go_wp2_with fail
      refine (escaped_no _ _ N.out.1 N.out.2.1 N.out.2.2).mono ?_
      rintro e' w' ⟨rfl, rfl⟩
      go_wp2_with fail
      go_quiet (fail)
      go_wp2
      go_ret3
      exact ⟨⟨p + 1, by go_num⟩, drewN_below hB _⟩
    | esc hp2 h htt r2 =>
      rename_i d2
      have t1 : ((s[p].toNat : Int) == 34) = false := by rw [h]; rfl
      have t2 : ((s[p].toNat : Int) == 92) = true := by rw [h]; rfl
      have t3 : ((p : Int) + 1 == (s.size : Int)) = false := by simp; omega
      have b1 : (p : Int) + 1 < (s.size : Int) := by omega
      have HT := Lib.hid htt
      have RR := Lib.hid r2
      clear h htt r2 ht
      go_wp2_with fail
      refine (escaped_yes _ _ _ HT.out).mono ?_
      rintro e' w' ⟨rfl, rfl⟩
      go_wp2_with fail
      refine (Tryz.Builder_WriteByte w.heap.size w.heap.size _ _ _ HB.out (by rw [Lib.byteCells_length]; omega) hB.size).mono ?_
      rintro e' w1 ⟨rfl, hb1, hB1⟩
      have hB2 := hB.trans hB1
      rw [cellsC_snoc] at hb1
      have HB1 : HeldC w.heap.size (d ++ [d2]) w1 := .inr hb1
      clear hb1
      go_wp2_with fail
      go_roundw
      case rel => exact ⟨p + 2, d ++ [d2], by omega, by simp; omega, by go_num, HB1, RR.out, hB2⟩
      case measure => simp [intOf]; omega
    | plain hp2 h1 h2 r2 =>
      have t1 : ((s[p].toNat : Int) == 34) = false := by
        have := u8_eq s[p] 34; rw [decide_eq_false h1] at this; exact this
      have t2 : ((s[p].toNat : Int) == 92) = false := by
        have := u8_eq s[p] 92; rw [decide_eq_false h2] at this; exact this
      have RR := Lib.hid r2
      clear h1 h2 r2 ht
      go_wp2_with fail
      refine (Tryz.Builder_WriteByte w.heap.size w.heap.size _ _ _ HB.out (by rw [Lib.byteCells_length]; omega) hB.size).mono ?_
      rintro e' w1 ⟨rfl, hb1, hB1⟩
      have hB2 := hB.trans hB1
      rw [cellsC_snoc] at hb1
      have HB1 : HeldC w.heap.size (d ++ [s[p]]) w1 := .inr hb1
      clear hb1
      go_wp2_with fail
      go_roundw
      case rel => exact ⟨p + 1, d ++ [s[p]], by omega, by simp; omega, by go_num, HB1, RR.out, hB2⟩
      case measure => simp [intOf]; omega

theorem token_open (E : Errs) (s : ByteArray) (i : Nat) (hi : i < s.size) (w : World) (hE : EnvL E w) (hs : s.size ≤ 65536) (h1 : sortF (s[i].toNat : Int) = 3) (hd : DecBad s (i + 1)) :
    Calls Tryz.prog 25 #[.string s, .int .i64 i] w fun e' w' => (∃ e : Int, e' = .returned (tokenV 4 0 ⟨#[]⟩ e (.iface E.tt E.vt))) ∧ Below w.heap.size w w' := by
  have hS := sortOf_any (s[i].toNat : Int)
  rw [h1] at hS
  have SC := Lib.hid hS
  have c : ∀ W : World, EnvL E W → Calls Tryz.prog 45 #[.string s, .int .i64 ((i : Int) + 1)] W fun e' w' => (∃ e : Nat, e' = .returned (.tuple #[.string ⟨#[]⟩, .int .i64 (e : Int), .iface E.tt E.vt])) ∧ Below W.heap.size W w' := fun W hW => by
    have := content_bad E s (i + 1) W hW hs hd
    rwa [Int.natCast_add] at this
  have C := Lib.hid c
  have b1 : (i : Int) < (s.size : Int) := by omega
  have HE := Lib.hid hE
  clear c hS h1 hd hE
  go_enter Tryz.func25, Tryz.ntmps25
  go_wp2_with (first | (go_at_call 30; refine (SC.out _).mono ?_; rintro e' w' ⟨rfl, rfl⟩))
  refine (C.out _ (HE.out.self ((Below.refl _ _).alloc (Nat.le_refl _) _) (Nat.le_refl _))).mono ?_
  rintro e' w1 ⟨⟨e, rfl⟩, hB⟩
  have hB' : Below (w.alloc tokObj).heap.size (w.alloc tokObj) w1 := hB
  obtain ⟨k0, k1, k2, k3, kf⟩ := tok_cells hB'
  have hBw : Below w.heap.size w w1 := ((Below.refl _ _).alloc (Nat.le_refl _) _).trans (hB'.mono (by simp))
  clear hB hB'
  go_wp2_with fail
  refine bodyPost_ret (v := tokenV 4 0 ⟨#[]⟩ (e : Int) (.iface E.tt E.vt)) (by simp [results, Tryz.results25, go_sem, tokenV, k0, k1, k2, k3]) rfl ⟨⟨_, rfl⟩, ?_⟩
  exact set4 hBw _ (Nat.le_refl _) _ _ _ _
end Go.Proofs.YtabngleincejfaaGreatDoor
