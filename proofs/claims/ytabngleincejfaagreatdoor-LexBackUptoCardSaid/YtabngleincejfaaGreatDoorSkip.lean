/- skip, at any place of any text; what the errors and tables of package lex lie as. -/
import Derived.Test.YtabngleincejfaaGreatDoorContent
import Derived.Test.YtabngleincejfaaGreatDoorGreat
import Derived.Test.YtabngleincejfaaGreatDoorShelf
import Derived.Lib.IndexMore
namespace Go.Proofs.YtabngleincejfaaGreatDoor
open Go.ChangeShapes Go.WideShapes Go.ChangeAt Go.RowKit

/-- What the errors are. -/
structure Errs where
  tb : TypeId
  vb : Value
  tn : TypeId
  vn : Value
  tw : TypeId
  vw : Value
  tt : TypeId
  vt : Value
  to : TypeId
  vo : Value
  tp : TypeId
  pv : Value
  m : Int

/-- They lie there. -/
structure EnvL (E : Errs) (W : World) : Prop where
  byte : W.cell? ⟨4, 0, none⟩ = some (.iface E.tb E.vb)
  word : W.cell? ⟨1, 0, none⟩ = some (.iface E.tw E.vw)
  text : W.cell? ⟨7, 0, none⟩ = some (.iface E.tt E.vt)
  note : W.cell? ⟨2, 0, none⟩ = some (.iface E.to E.vo)
  most : W.cell? ⟨6, 0, none⟩ = some (.int .i64 E.m)
  two : Env2 E.tp E.pv E.tn E.vn W

theorem EnvL.at_ {E : Errs} {W : World} (h : EnvL E W) : 12 ≤ W.heap.size := h.two.at_
theorem EnvL.below {E : Errs} {W W' : World} {B : Nat} (h : EnvL E W) (hB : Below B W W') (hb : 12 ≤ B) : EnvL E W' where
  byte := (hB.cell (p := ⟨4, 0, none⟩) (Nat.lt_of_lt_of_le (by decide) hb)).trans h.byte
  word := (hB.cell (p := ⟨1, 0, none⟩) (Nat.lt_of_lt_of_le (by decide) hb)).trans h.word
  text := (hB.cell (p := ⟨7, 0, none⟩) (Nat.lt_of_lt_of_le (by decide) hb)).trans h.text
  note := (hB.cell (p := ⟨2, 0, none⟩) (Nat.lt_of_lt_of_le (by decide) hb)).trans h.note
  most := (hB.cell (p := ⟨6, 0, none⟩) (Nat.lt_of_lt_of_le (by decide) hb)).trans h.most
  two := h.two.below hB hb
theorem EnvL.env {E : Errs} {W : World} (h : EnvL E W) : Env (.iface E.tw E.vw) W := ⟨h.word, Nat.lt_of_lt_of_le (by decide) h.at_⟩
theorem EnvL.self {E : Errs} {W W' : World} {B : Nat} (h : EnvL E W) (hB : Below B W W') (hb : W.heap.size ≤ B) : EnvL E W' := h.below hB (Nat.le_trans h.at_ hb)

/-- Where skip ends, none: at a note without an end. -/
inductive SkipR (s : ByteArray) : Nat → Option Nat → Prop
  | stop : SkipR s s.size (some s.size)
  | here {i : Nat} (hi : i < s.size) (hb : blankB (s[i].toNat : Int) = false) (hp : Lib.hasPrefix (from_ s i) [40, 42] = false) : SkipR s i (some i)
  | blank {i : Nat} {o : Option Nat} (hi : i < s.size) (hb : blankB (s[i].toNat : Int) = true) (r : SkipR s (i + 1) o) : SkipR s i o
  | note {i n : Nat} {o : Option Nat} (hi : i < s.size) (hb : blankB (s[i].toNat : Int) = false) (hp : Lib.hasPrefix (from_ s i) [40, 42] = true) (hn : Lib.index (from_ s (i + 2)) [42, 41] = (n : Int)) (r : SkipR s (i + (n + 4)) o) : SkipR s i o
  | opened {i : Nat} (hi : i < s.size) (hb : blankB (s[i].toNat : Int) = false) (hp : Lib.hasPrefix (from_ s i) [40, 42] = true) (hn : Lib.index (from_ s (i + 2)) [42, 41] = -1) : SkipR s i none

theorem prefix_room (s : ByteArray) (i : Nat) (hp : Lib.hasPrefix (from_ s i) [40, 42] = true) : i + 2 ≤ s.size := by
  have h := (List.isPrefixOf_iff_prefix.1 hp).length_le
  rw [from_length] at h
  simp at h; omega

theorem index_fits (s : ByteArray) (i n : Nat) (h : Lib.index (from_ s (i + 2)) [42, 41] = (n : Int)) (hi : i + 2 ≤ s.size) : i + (n + 4) ≤ s.size := by
  have := Lib.index_room (from_ s (i + 2)) [42, 41] (by omega)
  rw [h, from_length] at this
  simp at this; omega

theorem SkipR.le {s : ByteArray} {i : Nat} {o : Option Nat} (h : SkipR s i o) : i ≤ s.size := by
  cases h <;> omega
theorem SkipR.to_le {s : ByteArray} {i j : Nat} (h : SkipR s i (some j)) : i ≤ j ∧ j ≤ s.size := by
  generalize ho : some j = o at h
  induction h with
  | stop => cases ho; omega
  | here hi _ _ => cases ho; omega
  | blank hi _ _ ih => have := ih ho; omega
  | note hi _ _ _ _ ih => have := ih ho; omega
  | opened => cases ho

def skipGives (E : Errs) (o : Option Nat) (e : Ending) : Prop := match o with
  | some j => e = .returned (.tuple #[.int .i64 (j : Int), .nilIface])
  | none => ∃ j : Nat, e = .returned (.tuple #[.int .i64 (j : Int), .iface E.to E.vo])

set_option maxHeartbeats 2000000 in
theorem skip_any (E : Errs) (s : ByteArray) (i : Nat) (o : Option Nat) (w : World) (hE : EnvL E w) (hs : s.size ≤ 65536) (h : SkipR s i o) :
    Calls Tryz.prog 24 #[.string s, .int .i64 i] w fun e w' => skipGives E o e ∧ Below w.heap.size w w' := by
  have hle := h.le
  have H0 := Lib.hid h
  have HE := Lib.hid hE
  have hn := hE.note
  clear h hE
  go_enter Tryz.func24, Tryz.ntmps24
  go_wp2
  go_loopw [1] (fun x wr => ∃ p : Nat, p ≤ s.size ∧ x = .int .i64 p ∧ SkipR s p o ∧ wr = w) (fun x _ => s.size - (intOf x).toNat)
  case atStart => exact ⟨i, hle, rfl, H0.out, rfl⟩
  case round =>
    obtain ⟨p, hp, rfl, hr, rfl⟩ := hrel
    cases hr with
    | stop =>
      go_wp2_with fail
      go_ret2
      exact ⟨rfl, Below.refl _ _⟩
    | here hi2 hb hpf =>
      have hx : (s.extract p s.size).data.toList = from_ s p := by rw [Lib.extract_to_end]; rfl
      have c : ∀ W : World, Calls Tryz.prog 43 #[.string (s.extract p s.size), .string ⟨#[40, 42]⟩] W fun e w' => e = .returned (.bool false) ∧ w' = W := fun W => by
        have := Tryz.strings_HasPrefix (s.extract p s.size) ⟨#[40, 42]⟩ W
        rw [hx] at this
        rw [← hpf]
        exact this
      have C := Lib.hid c
      have hi' : (p : Int) < (s.size : Int) := by omega
      clear c hx hpf
      go_wp2_with (first | (go_at_call 42; refine (isBlank_any _ _).mono ?_; rintro e w' ⟨rfl, rfl⟩) | (go_at_call 43; refine (C.out _).mono ?_; rintro e w' ⟨rfl, rfl⟩))
      go_ret2
      exact ⟨rfl, Below.refl _ _⟩
    | blank hi2 hb r =>
      have R := Lib.hid r
      have hi' : (p : Int) < (s.size : Int) := by omega
      clear r
      go_wp2_with (go_at_call 42; refine (isBlank_any _ _).mono ?_; rintro e w' ⟨rfl, rfl⟩)
      go_roundw
      case rel => exact ⟨p + 1, by omega, by go_num, R.out, trivial⟩
      case measure => simp [intOf]; omega
    | note hi2 hb hpf hx r =>
      rename_i n
      have hr2 := prefix_room s p hpf
      have hf2 := index_fits s p n hx hr2
      have hx1 : (s.extract p s.size).data.toList = from_ s p := by rw [Lib.extract_to_end]; rfl
      have hx2 : (s.extract (p + 2) s.size).data.toList = from_ s (p + 2) := by rw [Lib.extract_to_end]; rfl
      have c : ∀ W : World, Calls Tryz.prog 43 #[.string (s.extract p s.size), .string ⟨#[40, 42]⟩] W fun e w' => e = .returned (.bool true) ∧ w' = W := fun W => by
        have := Tryz.strings_HasPrefix (s.extract p s.size) ⟨#[40, 42]⟩ W
        rw [hx1] at this
        rw [← hpf]
        exact this
      have C := Lib.hid c
      have d : Calls Tryz.prog 39 #[.string (s.extract (p + 2) s.size), .string ⟨#[42, 41]⟩] wr fun e w' => e = .returned (.int .i64 (n : Int)) ∧ w' = wr := by
        have := Tryz.strings_Index (s.extract (p + 2) s.size) ⟨#[42, 41]⟩ E.m wr (by rw [Lib.size_eq, Lib.extract_to_end, List.length_drop, ← Lib.size_eq]; omega) HE.out.most
        rw [hx2] at this
        rw [← hx]
        exact this
      have D := Lib.hid d
      have R := Lib.hid r
      have hi' : (p : Int) < (s.size : Int) := by omega
      have b1 : (p : Int) + 2 ≤ (s.size : Int) := by omega
      have b2 : (p : Int) + ((n : Int) + 4) ≤ (s.size : Int) := by omega
      have b3 : (0 : Int) ≤ (n : Int) := by omega
      clear c d hx1 hx2 hpf hx r
      go_wp2_with (first | (go_at_call 42; refine (isBlank_any _ _).mono ?_; rintro e w' ⟨rfl, rfl⟩) | (go_at_call 43; refine (C.out _).mono ?_; rintro e w' ⟨rfl, rfl⟩) | (go_at_call 39; refine D.out.mono ?_; rintro e w' ⟨rfl, rfl⟩))
      go_roundw
      case rel => exact ⟨p + (n + 4), by omega, by go_num, R.out, trivial⟩
      case measure => simp [intOf]; omega
    | opened hi2 hb hpf hx =>
      have hr2 := prefix_room s p hpf
      have hx1 : (s.extract p s.size).data.toList = from_ s p := by rw [Lib.extract_to_end]; rfl
      have hx2 : (s.extract (p + 2) s.size).data.toList = from_ s (p + 2) := by rw [Lib.extract_to_end]; rfl
      have c : ∀ W : World, Calls Tryz.prog 43 #[.string (s.extract p s.size), .string ⟨#[40, 42]⟩] W fun e w' => e = .returned (.bool true) ∧ w' = W := fun W => by
        have := Tryz.strings_HasPrefix (s.extract p s.size) ⟨#[40, 42]⟩ W
        rw [hx1] at this
        rw [← hpf]
        exact this
      have C := Lib.hid c
      have d : Calls Tryz.prog 39 #[.string (s.extract (p + 2) s.size), .string ⟨#[42, 41]⟩] wr fun e w' => e = .returned (.int .i64 (-1)) ∧ w' = wr := by
        have := Tryz.strings_Index (s.extract (p + 2) s.size) ⟨#[42, 41]⟩ E.m wr (by rw [Lib.size_eq, Lib.extract_to_end, List.length_drop, ← Lib.size_eq]; omega) HE.out.most
        rw [hx2] at this
        rw [← hx]
        exact this
      have D := Lib.hid d
      have hi' : (p : Int) < (s.size : Int) := by omega
      have b1 : (p : Int) + 2 ≤ (s.size : Int) := by omega
      clear c d hx1 hx2 hpf hx
      go_wp2_with (first | (go_at_call 42; refine (isBlank_any _ _).mono ?_; rintro e w' ⟨rfl, rfl⟩) | (go_at_call 43; refine (C.out _).mono ?_; rintro e w' ⟨rfl, rfl⟩) | (go_at_call 39; refine D.out.mono ?_; rintro e w' ⟨rfl, rfl⟩))
      go_quiet (fail)
      go_wp2
      go_ret2
      exact ⟨⟨p, rfl⟩, drewN_below (Below.refl _ _) _⟩
end Go.Proofs.YtabngleincejfaaGreatDoor
