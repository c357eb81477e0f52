/- The tokens of a text, one by one: what skip and token come to at a place. -/
import Derived.Test.YtabngleincejfaaGreatDoorLexa
import Derived.Test.YtabngleincejfaaGreatDoorShelf
import Derived.Below
import Derived.Handy
import Derived.Lib.AtoiErrMem
namespace Go.Proofs.YtabngleincejfaaGreatDoor
open Go.ChangeShapes Go.WideShapes Go.ChangeAt Go.RowKit

def blankB (n : Int) : Bool := n == 32 || n == 9 || n == 10 || n == 13
theorem isBlank_any (n : Int) (w : World) : Calls Tryz.prog 42 #[.int .u8 n] w fun e w' => e = .returned (.bool (blankB n)) ∧ w = w' := by
  cases h1 : (n == 32)
  · cases h2 : (n == 9)
    · cases h3 : (n == 10)
      · go_enter Tryz.func42, Tryz.ntmps42
        go_wp2
        go_ret
        exact ⟨by unfold blankB; rw [h1, h2, h3]; rfl, rfl⟩
      · go_enter Tryz.func42, Tryz.ntmps42
        go_wp2
        go_ret
        exact ⟨by unfold blankB; rw [h1, h2, h3]; rfl, rfl⟩
    · go_enter Tryz.func42, Tryz.ntmps42
      go_wp2
      go_ret
      exact ⟨by unfold blankB; rw [h1, h2]; rfl, rfl⟩
  · go_enter Tryz.func42, Tryz.ntmps42
    go_wp2
    go_ret
    exact ⟨by unfold blankB; rw [h1]; rfl, rfl⟩

theorem skip_end (s : ByteArray) (w : World) :
    Calls Tryz.prog 24 #[.string s, .int .i64 s.size] w fun e w' => e = .returned (.tuple #[.int .i64 s.size, .nilIface]) ∧ w = w' := by
  go_enter Tryz.func24, Tryz.ntmps24
  go_wp2
  refine wp_loop_rounds 1 ?_
  rw [rounds_succ]
  go_wp2
  go_ret2
  exact ⟨rfl, rfl⟩

theorem skip_stop (s : ByteArray) (i : Nat) (hi : i < s.size) (w : World) (hb : blankB (s[i].toNat : Int) = false) (hp : Lib.hasPrefix (from_ s i) [40, 42] = false) :
    Calls Tryz.prog 24 #[.string s, .int .i64 i] w fun e w' => e = .returned (.tuple #[.int .i64 i, .nilIface]) ∧ w = w' := by
  have hx : (s.extract i s.size).data.toList = from_ s i := by rw [Lib.extract_to_end]; rfl
  have c : Calls Tryz.prog 43 #[.string (s.extract i s.size), .string ⟨#[40, 42]⟩] w fun e w' => e = .returned (.bool false) ∧ w' = w := by
    have := Tryz.strings_HasPrefix (s.extract i s.size) ⟨#[40, 42]⟩ w
    rw [hx] at this
    rw [← hp]
    exact this
  have C := Lib.hid c
  have hi' : (i : Int) < (s.size : Int) := by omega
  clear c hx hp
  go_enter Tryz.func24, Tryz.ntmps24
  go_wp2
  refine wp_loop_rounds 1 ?_
  rw [rounds_succ]
  go_wp2_with (first | (go_at_call 42; refine (isBlank_any _ _).mono ?_; rintro e w' ⟨rfl, rfl⟩) | (go_at_call 43; refine C.out.mono ?_; rintro e w' ⟨rfl, rfl⟩))
  go_ret2
  exact ⟨rfl, rfl⟩

theorem drewN_below {B : Nat} {a w : World} (h : Below B a w) (n : Nat) : Below B a (w.drewN n) := ⟨h.os, h.tape, h.output, h.size, h.block⟩

theorem set4 {B : Nat} {a w : World} (h : Below B a w) (b : Nat) (hb : B ≤ b) (x0 x1 x2 x3 : Value) :
    Below B a ((((w.setCell ⟨b, 0, none⟩ x0).setCell ⟨b, 1, none⟩ x1).setCell ⟨b, 2, none⟩ x2).setCell ⟨b, 3, none⟩ x3) :=
  (((h.setCell (p := ⟨b, 0, none⟩) hb _).setCell (p := ⟨b, 1, none⟩) hb _).setCell (p := ⟨b, 2, none⟩) hb _).setCell (p := ⟨b, 3, none⟩) hb _

/-- What token answers: a kind, a number, a text, where it ends, an error. -/
def tokenV (kind n : Int) (t : ByteArray) (e : Int) (err : Value) : Value := .tuple #[.agg #[.int .i64 kind, .int .i64 0, .int .i64 n, .string t], .int .i64 e, err]

def kindOf (t : ByteArray) : Int := if keyB t = true then 2 else 1

theorem token_word (s : ByteArray) (i : Nat) (hi : i < s.size) (ew : Value) (w : World) (hg : w.cell? ⟨1, 0, none⟩ = some ew) (hgb : 1 < w.heap.size) (hs : s.size ≤ maxLen) (h1 : sortF (s[i].toNat : Int) = 1) (h2 : wordLen (from_ s i) ≤ 100) :
    Calls Tryz.prog 25 #[.string s, .int .i64 i] w fun e w' => e = .returned (tokenV (kindOf (s.extract i (i + wordLen (from_ s i)))) 0 (s.extract i (i + wordLen (from_ s i))) ((i : Int) + (wordLen (from_ s i) : Int)) .nilIface) ∧ Below w.heap.size w w' := by
  have hle := wordLen_le s i
  have c : ∀ W : World, Below w.heap.size w W → Calls Tryz.prog 17 #[.string s, .int .i64 i] W fun e w' => e = .returned (.tuple #[.string (s.extract i (i + wordLen (from_ s i))), .nilIface]) ∧ Drawn W w' := fun W hB => by
    have := word_yes s i hi ew W ((hB.cell (p := ⟨1, 0, none⟩) hgb).trans hg) hs h1
    unfold wordGives at this
    rwa [if_pos h2] at this
  have C := Lib.hid c
  have hS := sortOf_any (s[i].toNat : Int)
  rw [h1] at hS
  have SC := Lib.hid hS
  have hz : (s.extract i (i + wordLen (from_ s i))).size = wordLen (from_ s i) := by
    rw [Lib.size_eq, Lib.extract_data, List.length_take, List.length_drop, ← Lib.size_eq]; omega
  generalize s.extract i (i + wordLen (from_ s i)) = t at *
  generalize wordLen (from_ s i) = n at *
  have b1 : (i : Int) < (s.size : Int) := by omega
  have hz1 : (t.size : Int) ≤ n := by omega
  unfold maxLen at hs
  have HZ := Lib.hid hz
  clear c hS h1 hz
  cases hk : keyB t
  · have hkk : kindOf t = 1 := by unfold kindOf; rw [hk]; rfl
    have KK := Lib.hid hkk
    clear hkk
    go_enter Tryz.func25, Tryz.ntmps25
    go_wp2_with (first | (go_at_call 30; refine (SC.out _).mono ?_; rintro e w' ⟨rfl, rfl⟩) | (go_at_call 17; refine (C.out _ ((Below.refl _ _).alloc (Nat.le_refl _) _)).mono ?_; rintro e w' ⟨rfl, nq, rfl⟩) | (go_at_call 9; refine (isKey_any _ _).mono ?_; rintro e w' ⟨rfl, rfl⟩))
    refine bodyPost_ret (v := tokenV 1 0 t ((i : Int) + (t.size : Int)) .nilIface) (by simp [results, Tryz.results25, go_sem, tokenV]) rfl ⟨by rw [KK.out, HZ.out], ?_⟩
    exact set4 (drewN_below ((Below.refl _ _).alloc (Nat.le_refl _) _) _) _ (Nat.le_refl _) _ _ _ _
  · have hkk : kindOf t = 2 := by unfold kindOf; rw [hk]; rfl
    have KK := Lib.hid hkk
    clear hkk
    go_enter Tryz.func25, Tryz.ntmps25
    go_wp2_with (first | (go_at_call 30; refine (SC.out _).mono ?_; rintro e w' ⟨rfl, rfl⟩) | (go_at_call 17; refine (C.out _ ((Below.refl _ _).alloc (Nat.le_refl _) _)).mono ?_; rintro e w' ⟨rfl, nq, rfl⟩) | (go_at_call 9; refine (isKey_any _ _).mono ?_; rintro e w' ⟨rfl, rfl⟩))
    refine bodyPost_ret (v := tokenV 2 0 t ((i : Int) + (t.size : Int)) .nilIface) (by simp [results, Tryz.results25, go_sem, tokenV]) rfl ⟨by rw [KK.out, HZ.out], ?_⟩
    exact set4 (drewN_below ((Below.refl _ _).alloc (Nat.le_refl _) _) _) _ (Nat.le_refl _) _ _ _ _

/-- The digits that a place begins with. -/
def digitC (c : UInt8) : Bool := digitB (c.toNat : Int)
def numLen (l : List UInt8) : Nat := (l.takeWhile digitC).length

theorem numLen_le (s : ByteArray) (i : Nat) : numLen (from_ s i) ≤ s.size - i := by
  have h := from_length s i
  have := (List.takeWhile_prefix (l := from_ s i) digitC).length_le
  unfold numLen; omega

theorem numLen_is (s : ByteArray) (i e : Nat) (he : i ≤ e) (hs : e ≤ s.size)
    (hall : ∀ j (h : j < s.size), i ≤ j → j < e → digitC s[j] = true) (hend : ∀ h : e < s.size, digitC s[e] = false) : numLen (from_ s i) = e - i := by
  unfold numLen
  apply takeWhile_len
  · rw [from_length]; omega
  · intro j c hj h
    rw [from_get] at h
    obtain ⟨h', rfl⟩ := byte_of _ _ _ h
    exact hall _ _ (by omega) (by omega)
  · intro c h
    rw [from_get] at h
    obtain ⟨h', rfl⟩ := byte_of _ _ _ h
    have e2 : i + (e - i) = e := by omega
    simp only [e2]
    exact hend _

/-- A token's variable, laid in a block of its own. -/
def tokObj : Obj := .cells #[.int .i64 0, .int .i64 0, .int .i64 0, .string ⟨#[]⟩] 25
theorem tok_heap {w w1 : World} (hB : Below (w.alloc tokObj).heap.size (w.alloc tokObj) w1) : w1.heap[w.heap.size]? = some tokObj := by
  rw [hB.block _ (by simp)]
  exact heap_alloc_new w _
theorem tok_cells {w w1 : World} (hB : Below (w.alloc tokObj).heap.size (w.alloc tokObj) w1) :
    w1.cell? ⟨w.heap.size, 0, none⟩ = some (.int .i64 0) ∧ w1.cell? ⟨w.heap.size, 1, none⟩ = some (.int .i64 0) ∧ w1.cell? ⟨w.heap.size, 2, none⟩ = some (.int .i64 0) ∧ w1.cell? ⟨w.heap.size, 3, none⟩ = some (.string ⟨#[]⟩) ∧ ∀ j, w1.frozen? ⟨w.heap.size, j, none⟩ = false := by
  have h := tok_heap hB
  unfold tokObj at h
  exact ⟨Lib.cell_of_heap h 0, Lib.cell_of_heap h 1, Lib.cell_of_heap h 2, Lib.cell_of_heap h 3, fun j => Lib.frozen_of_heap h j⟩

set_option maxHeartbeats 1000000 in
theorem token_digit (s : ByteArray) (i : Nat) (hi : i < s.size) (w : World) (hs : s.size ≤ 65536) (h1 : sortF (s[i].toNat : Int) = 2) (v : Int) (h2 : Lib.parseIntB 64 (s.extract i (i + numLen (from_ s i))).data.toList = .ok v) :
    Calls Tryz.prog 25 #[.string s, .int .i64 i] w fun e w' => e = .returned (tokenV 3 v ⟨#[]⟩ ((i : Int) + (numLen (from_ s i) : Int)) .nilIface) ∧ Below w.heap.size w w' := by
  have hle := numLen_le s i
  have hS := sortOf_any (s[i].toNat : Int)
  rw [h1] at hS
  have SC := Lib.hid hS
  have hz : (s.extract i (i + numLen (from_ s i))).size = numLen (from_ s i) := by
    rw [Lib.size_eq, Lib.extract_data, List.length_take, List.length_drop, ← Lib.size_eq]; omega
  have c : ∀ W : World, Calls Tryz.prog 44 #[.string (s.extract i (i + numLen (from_ s i))), .int .i64 10, .int .i64 64] W fun e w' => e = .returned (.tuple #[.int .i64 v, .nilIface]) ∧ Below W.heap.size W w' := fun W =>
    (Tryz.strconv_ParseInt_10_at64_ok (s.extract i (i + numLen (from_ s i))) (by omega) v h2 W).mono fun e w' ⟨he, hw⟩ => ⟨he, by
      rcases hw with rfl | ⟨t, rfl⟩
      · exact Below.refl _ _
      · exact Lib.bytesWorld_below _ _ _⟩
  have C := Lib.hid c
  have b1 : (i : Int) < (s.size : Int) := by omega
  clear c hS h1 hz h2
  go_enter Tryz.func25, Tryz.ntmps25
  go_wp2_with (first | (go_at_call 30; refine (SC.out _).mono ?_; rintro e w' ⟨rfl, rfl⟩))
  go_loopw [12] (fun x wr => ∃ k : Nat, i ≤ k ∧ k ≤ s.size ∧ x = .int .i64 k ∧ wr = w.alloc (.cells #[.int .i64 0, .int .i64 0, .int .i64 0, .string ⟨#[]⟩] 25) ∧ ∀ j (h : j < s.size), i ≤ j → j < k → digitC s[j] = true) (fun x _ => s.size - (intOf x).toNat)
  case atStart => exact ⟨i, by omega, by omega, rfl, rfl, fun j h h2 h3 => by omega⟩
  case round =>
    obtain ⟨k, hk, hks, rfl, rfl, hall⟩ := hrel
    have HA := Lib.hid hall
    clear hall
    by_cases hlt : k < s.size
    · cases hr : digitC s[k]
      · have hnl := numLen_is s i k hk hks HA.out (fun _ => hr)
        have HN := Lib.hid hnl
        have hd : digitB (s[k].toNat : Int) = false := hr
        clear hnl hr
        have he : i + (k - i) = k := by omega
        have CK : ∀ W : World, Calls Tryz.prog 44 #[.string (s.extract i k), .int .i64 10, .int .i64 64] W fun e w' => e = .returned (.tuple #[.int .i64 v, .nilIface]) ∧ Below W.heap.size W w' := by
          have := C.out
          rw [HN.out, he] at this
          exact this
        have DK := Lib.hid CK
        clear CK he
        have b2 : (i : Int) ≤ (k : Int) := by omega
        have b3 : (k : Int) ≤ (s.size : Int) := by omega
        go_wp2_with (first | (go_at_call 32; refine (isDigit_any _ _).mono ?_; rintro e w' ⟨rfl, rfl⟩))
        refine (DK.out _).mono ?_
        rintro e w1 ⟨rfl, hB⟩
        have hB' : Below (w.alloc tokObj).heap.size (w.alloc tokObj) w1 := hB
        obtain ⟨k0, k1, k2, k3, kf⟩ := tok_cells hB'
        have hBw : Below w.heap.size w w1 := ((Below.refl _ _).alloc (Nat.le_refl _) _).trans (hB'.mono (by simp))
        clear hB hB'
        go_wp2_with fail
        refine bodyPost_ret (v := tokenV 3 v ⟨#[]⟩ (k : Int) .nilIface) (by simp [results, Tryz.results25, go_sem, tokenV, k0, k1, k2, k3]) rfl ⟨by rw [HN.out, show (i : Int) + ((k - i : Nat) : Int) = (k : Int) from by omega], ?_⟩
        exact set4 hBw _ (Nat.le_refl _) _ _ _ _
      · have HR := Lib.hid hr
        have hd : digitB (s[k].toNat : Int) = true := hr
        clear hr
        go_wp2_with (first | (go_at_call 32; refine (isDigit_any _ _).mono ?_; rintro e w' ⟨rfl, rfl⟩))
        go_roundw
        case rel => exact ⟨k + 1, by omega, by omega, by go_num, trivial, fun j h h2 h3 => by
          rcases Nat.lt_or_ge j k with hj | hj
          · exact HA.out j h h2 hj
          · have : j = k := by omega
            subst this; exact HR.out⟩
        case measure => simp [intOf]; omega
    · have hnl := numLen_is s i k hk hks HA.out (fun h => by omega)
      have HN := Lib.hid hnl
      clear hnl
      have he : i + (k - i) = k := by omega
      have CK : ∀ W : World, Calls Tryz.prog 44 #[.string (s.extract i k), .int .i64 10, .int .i64 64] W fun e w' => e = .returned (.tuple #[.int .i64 v, .nilIface]) ∧ Below W.heap.size W w' := by
        have := C.out
        rw [HN.out, he] at this
        exact this
      have DK := Lib.hid CK
      clear CK he
      have b2 : (i : Int) ≤ (k : Int) := by omega
      have b3 : (k : Int) ≤ (s.size : Int) := by omega
      go_wp2_with (first | (go_at_call 32; refine (isDigit_any _ _).mono ?_; rintro e w' ⟨rfl, rfl⟩))
      refine (DK.out _).mono ?_
      rintro e w1 ⟨rfl, hB⟩
      have hB' : Below (w.alloc tokObj).heap.size (w.alloc tokObj) w1 := hB
      obtain ⟨k0, k1, k2, k3, kf⟩ := tok_cells hB'
      have hBw : Below w.heap.size w w1 := ((Below.refl _ _).alloc (Nat.le_refl _) _).trans (hB'.mono (by simp))
      clear hB hB'
      go_wp2_with fail
      refine bodyPost_ret (v := tokenV 3 v ⟨#[]⟩ (k : Int) .nilIface) (by simp [results, Tryz.results25, go_sem, tokenV, k0, k1, k2, k3]) rfl ⟨by rw [HN.out, show (i : Int) + ((k - i : Nat) : Int) = (k : Int) from by omega], ?_⟩
      exact set4 hBw _ (Nat.le_refl _) _ _ _ _

end Go.Proofs.YtabngleincejfaaGreatDoor
