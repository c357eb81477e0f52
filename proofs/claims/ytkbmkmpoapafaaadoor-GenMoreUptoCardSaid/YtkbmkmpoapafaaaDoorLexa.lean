/- What the small functions of package lex come to: sorts of bytes, words, keys, names; no condition but that errWord holds an error. -/
import Derived.Test.YtkbmkmpoapafaaaDoorRows
import Derived.WalkKit
import Derived.ProofKit
import Derived.OpenShut
import Derived.Deep.QuietTactic
import Derived.BigQuiet
import Derived.Deep.Draws
import Derived.Lib.Hide
import Derived.Lib.Strings
import Derived.Deep.Light
namespace Go.Proofs.YtkbmkmpoapafaaaDoor
open Go.ChangeShapes Go.WideShapes Go.ChangeAt Go.RowKit

/-- Sorts of bytes. -/
def smallB (n : Int) : Bool := decide (97 ≤ n) && decide (n ≤ 122)
def digitB (n : Int) : Bool := decide (48 ≤ n) && decide (n ≤ 57)
def letterB (n : Int) : Bool := smallB n || (decide (65 ≤ n) && decide (n ≤ 90)) || n == 95
def sortF (n : Int) : Int := if (n == 95) = true then 1 else if smallB n = true then 1 else if digitB n = true then 2 else if (n == 34) = true then 3 else if (n == 39) = true then 4 else 0

theorem isSmall_any (n : Int) (w : World) : Calls Tryd.prog 89 #[.int .u8 n] w fun e w' => e = .returned (.bool (smallB n)) ∧ w = w' := by
  go_enter Tryd.func89, Tryd.ntmps89
  go_wp2
  all_goals
    go_ret
    exact ⟨by unfold smallB; simp [*]; try omega, rfl⟩

theorem isDigit_any (n : Int) (w : World) : Calls Tryd.prog 77 #[.int .u8 n] w fun e w' => e = .returned (.bool (digitB n)) ∧ w = w' := by
  go_enter Tryd.func77, Tryd.ntmps77
  go_wp2
  all_goals
    go_ret
    exact ⟨by unfold digitB; simp [*]; try omega, rfl⟩

theorem isLetter_any (n : Int) (w : World) : Calls Tryd.prog 76 #[.int .u8 n] w fun e w' => e = .returned (.bool (letterB n)) ∧ w = w' := by
  go_enter Tryd.func76, Tryd.ntmps76
  go_wp2_with (go_at_call 89; refine (isSmall_any _ _).mono ?_; rintro e w' ⟨rfl, rfl⟩)
  all_goals
    go_ret
    exact ⟨by unfold letterB; simp [*]; try omega, rfl⟩

theorem sortOf_any (n : Int) (w : World) : Calls Tryd.prog 75 #[.int .u8 n] w fun e w' => e = .returned (.int .i64 (sortF n)) ∧ w = w' := by
  go_enter Tryd.func75, Tryd.ntmps75
  go_wp2_with (first | (go_at_call 89; refine (isSmall_any _ _).mono ?_; rintro e w' ⟨rfl, rfl⟩) | (go_at_call 77; refine (isDigit_any _ _).mono ?_; rintro e w' ⟨rfl, rfl⟩))
  all_goals
    go_ret
    go_light
    refine ⟨?_, rfl⟩
    unfold sortF
    simp [*]

/-- A key: one of nineteen texts. -/
def keyB (s : ByteArray) : Bool :=
  s.toList == [97, 110, 100] || s.toList == [97, 115] || s.toList == [99, 108, 97, 115, 115] || s.toList == [101, 108, 115, 101] || s.toList == [101, 110, 100] || s.toList == [102, 97, 108, 115, 101] || s.toList == [102, 117, 110] || s.toList == [105, 102] || s.toList == [105, 110] || s.toList == [105, 110, 104, 101, 114, 105, 116] ||
  s.toList == [108, 101, 116] || s.toList == [109, 101, 116, 104, 111, 100] || s.toList == [110, 101, 119] || s.toList == [111, 98, 106, 101, 99, 116] || s.toList == [114, 101, 99] || s.toList == [116, 104, 101, 110] || s.toList == [116, 114, 117, 101] || s.toList == [118, 97, 108] || s.toList == [118, 105, 114, 116, 117, 97, 108]

set_option maxHeartbeats 1000000 in
theorem isKey_any (s : ByteArray) (w : World) : Calls Tryd.prog 58 #[.string s] w fun e w' => e = .returned (.bool (keyB s)) ∧ w = w' := by
  cases h0 : (s.toList == [97, 110, 100])
  rotate_left
  · go_enter Tryd.func58, Tryd.ntmps58
    go_wp2
    go_ret
    exact ⟨by simp [keyB, h0], rfl⟩
  cases h1 : (s.toList == [97, 115])
  rotate_left
  · go_enter Tryd.func58, Tryd.ntmps58
    go_wp2
    go_ret
    exact ⟨by simp [keyB, h0, h1], rfl⟩
  cases h2 : (s.toList == [99, 108, 97, 115, 115])
  rotate_left
  · go_enter Tryd.func58, Tryd.ntmps58
    go_wp2
    go_ret
    exact ⟨by simp [keyB, h0, h1, h2], rfl⟩
  cases h3 : (s.toList == [101, 108, 115, 101])
  rotate_left
  · go_enter Tryd.func58, Tryd.ntmps58
    go_wp2
    go_ret
    exact ⟨by simp [keyB, h0, h1, h2, h3], rfl⟩
  cases h4 : (s.toList == [101, 110, 100])
  rotate_left
  · go_enter Tryd.func58, Tryd.ntmps58
    go_wp2
    go_ret
    exact ⟨by simp [keyB, h0, h1, h2, h3, h4], rfl⟩
  cases h5 : (s.toList == [102, 97, 108, 115, 101])
  rotate_left
  · go_enter Tryd.func58, Tryd.ntmps58
    go_wp2
    go_ret
    exact ⟨by simp [keyB, h0, h1, h2, h3, h4, h5], rfl⟩
  cases h6 : (s.toList == [102, 117, 110])
  rotate_left
  · go_enter Tryd.func58, Tryd.ntmps58
    go_wp2
    go_ret
    exact ⟨by simp [keyB, h0, h1, h2, h3, h4, h5, h6], rfl⟩
  cases h7 : (s.toList == [105, 102])
  rotate_left
  · go_enter Tryd.func58, Tryd.ntmps58
    go_wp2
    go_ret
    exact ⟨by simp [keyB, h0, h1, h2, h3, h4, h5, h6, h7], rfl⟩
  cases h8 : (s.toList == [105, 110])
  rotate_left
  · go_enter Tryd.func58, Tryd.ntmps58
    go_wp2
    go_ret
    exact ⟨by simp [keyB, h0, h1, h2, h3, h4, h5, h6, h7, h8], rfl⟩
  cases h9 : (s.toList == [105, 110, 104, 101, 114, 105, 116])
  rotate_left
  · go_enter Tryd.func58, Tryd.ntmps58
    go_wp2
    go_ret
    exact ⟨by simp [keyB, h0, h1, h2, h3, h4, h5, h6, h7, h8, h9], rfl⟩
  cases h10 : (s.toList == [108, 101, 116])
  rotate_left
  · go_enter Tryd.func58, Tryd.ntmps58
    go_wp2
    go_ret
    exact ⟨by simp [keyB, h0, h1, h2, h3, h4, h5, h6, h7, h8, h9, h10], rfl⟩
  cases h11 : (s.toList == [109, 101, 116, 104, 111, 100])
  rotate_left
  · go_enter Tryd.func58, Tryd.ntmps58
    go_wp2
    go_ret
    exact ⟨by simp [keyB, h0, h1, h2, h3, h4, h5, h6, h7, h8, h9, h10, h11], rfl⟩
  cases h12 : (s.toList == [110, 101, 119])
  rotate_left
  · go_enter Tryd.func58, Tryd.ntmps58
    go_wp2
    go_ret
    exact ⟨by simp [keyB, h0, h1, h2, h3, h4, h5, h6, h7, h8, h9, h10, h11, h12], rfl⟩
  cases h13 : (s.toList == [111, 98, 106, 101, 99, 116])
  rotate_left
  · go_enter Tryd.func58, Tryd.ntmps58
    go_wp2
    go_ret
    exact ⟨by simp [keyB, h0, h1, h2, h3, h4, h5, h6, h7, h8, h9, h10, h11, h12, h13], rfl⟩
  cases h14 : (s.toList == [114, 101, 99])
  rotate_left
  · go_enter Tryd.func58, Tryd.ntmps58
    go_wp2
    go_ret
    exact ⟨by simp [keyB, h0, h1, h2, h3, h4, h5, h6, h7, h8, h9, h10, h11, h12, h13, h14], rfl⟩
  cases h15 : (s.toList == [116, 104, 101, 110])
  rotate_left
  · go_enter Tryd.func58, Tryd.ntmps58
    go_wp2
    go_ret
    exact ⟨by simp [keyB, h0, h1, h2, h3, h4, h5, h6, h7, h8, h9, h10, h11, h12, h13, h14, h15], rfl⟩
  cases h16 : (s.toList == [116, 114, 117, 101])
  rotate_left
  · go_enter Tryd.func58, Tryd.ntmps58
    go_wp2
    go_ret
    exact ⟨by simp [keyB, h0, h1, h2, h3, h4, h5, h6, h7, h8, h9, h10, h11, h12, h13, h14, h15, h16], rfl⟩
  cases h17 : (s.toList == [118, 97, 108])
  rotate_left
  · go_enter Tryd.func58, Tryd.ntmps58
    go_wp2
    go_ret
    exact ⟨by simp [keyB, h0, h1, h2, h3, h4, h5, h6, h7, h8, h9, h10, h11, h12, h13, h14, h15, h16, h17], rfl⟩
  cases h18 : (s.toList == [118, 105, 114, 116, 117, 97, 108])
  rotate_left
  · go_enter Tryd.func58, Tryd.ntmps58
    go_wp2
    go_ret
    exact ⟨by simp [keyB, h0, h1, h2, h3, h4, h5, h6, h7, h8, h9, h10, h11, h12, h13, h14, h15, h16, h17, h18], rfl⟩
  · go_enter Tryd.func58, Tryd.ntmps58
    go_wp2
    go_ret
    exact ⟨by simp [keyB, h0, h1, h2, h3, h4, h5, h6, h7, h8, h9, h10, h11, h12, h13, h14, h15, h16, h17, h18], rfl⟩

/-- A byte of a word behind its first one. -/
def restB (c : UInt8) : Bool := letterB (c.toNat : Int) || digitB (c.toNat : Int)
/-- How many bytes the word has that a text begins with; 0: none. -/
def wordLen (l : List UInt8) : Nat := match l with
  | [] => 0
  | c :: r => if sortF (c.toNat : Int) = 1 then 1 + (r.takeWhile restB).length else 0

theorem wordLen_cons (c : UInt8) (r : List UInt8) : wordLen (c :: r) = if sortF (c.toNat : Int) = 1 then 1 + (r.takeWhile restB).length else 0 := rfl

theorem takeWhile_len (p : UInt8 → Bool) : ∀ (l : List UInt8) (m : Nat), m ≤ l.length → (∀ j c, j < m → l[j]? = some c → p c = true) → (∀ c, l[m]? = some c → p c = false) → (l.takeWhile p).length = m
  | [], m, hm, _, _ => by simp at hm; simp [hm]
  | c :: r, 0, _, _, h2 => by
    have := h2 c (by simp)
    simp [this]
  | c :: r, m + 1, hm, h1, h2 => by
    have hc : p c = true := h1 0 c (by omega) (by simp)
    have := takeWhile_len p r m (by simpa using hm) (fun j d hj h => h1 (j + 1) d (by omega) (by simpa using h)) (fun d h => h2 d (by simpa using h))
    simp [hc, this]

/-- The bytes of a text from a place on. -/
def from_ (s : ByteArray) (at_ : Nat) : List UInt8 := s.data.toList.drop at_

theorem from_cons (s : ByteArray) (k : Nat) (h : k < s.size) : from_ s k = s[k] :: from_ s (k + 1) := by
  unfold from_
  rw [List.drop_eq_getElem_cons (by simpa using h)]
  rfl
theorem from_end (s : ByteArray) (k : Nat) (h : s.size ≤ k) : from_ s k = [] := by
  unfold from_
  exact List.drop_eq_nil_of_le (by simpa using h)
theorem from_length (s : ByteArray) (k : Nat) : (from_ s k).length = s.size - k := by
  unfold from_; simp
theorem from_get (s : ByteArray) (k j : Nat) : (from_ s k)[j]? = s.data.toList[k + j]? := by
  unfold from_; rw [List.getElem?_drop]
theorem byte_at (s : ByteArray) (k : Nat) (h : k < s.size) : s.data.toList[k]? = some s[k] := by
  rw [List.getElem?_eq_getElem (by simpa using h)]; rfl
theorem byte_of (s : ByteArray) (k : Nat) (c : UInt8) (h : s.data.toList[k]? = some c) : ∃ h : k < s.size, s[k] = c := by
  rcases Nat.lt_or_ge k s.size with hk | hk
  · refine ⟨hk, ?_⟩
    rw [byte_at s k hk] at h
    exact Option.some.inj h
  · rw [List.getElem?_eq_none (by simpa using hk)] at h
    cases h

theorem wordLen_is (s : ByteArray) (i e : Nat) (hi : i < s.size) (h1 : sortF (s[i].toNat : Int) = 1) (he : i + 1 ≤ e) (hs : e ≤ s.size)
    (hall : ∀ j (h : j < s.size), i + 1 ≤ j → j < e → restB s[j] = true) (hend : ∀ h : e < s.size, restB s[e] = false) : wordLen (from_ s i) = e - i := by
  rw [from_cons s i hi, wordLen_cons, if_pos h1, takeWhile_len restB (from_ s (i + 1)) (e - (i + 1)) (by rw [from_length]; omega)]
  · omega
  · intro j c hj h
    rw [from_get] at h
    obtain ⟨h', rfl⟩ := byte_of _ _ _ h
    exact hall _ _ (by omega) (by omega)
  · intro c h
    rw [from_get] at h
    obtain ⟨h', rfl⟩ := byte_of _ _ _ h
    have e2 : i + 1 + (e - (i + 1)) = e := by omega
    simp only [e2]
    exact hend _

theorem wordLen_no (s : ByteArray) (i : Nat) (hi : i < s.size) (h1 : (sortF (s[i].toNat : Int) != 1) = true) : wordLen (from_ s i) = 0 := by
  rw [from_cons s i hi, wordLen_cons, if_neg (by simpa using h1)]

def Drawn (w w' : World) : Prop := ∃ n, w' = w.drewN n

theorem word_end (s : ByteArray) (ew : Value) (w : World) (hg : w.cell? ⟨0, 0, none⟩ = some ew) :
    Calls Tryd.prog 67 #[.string s, .int .i64 s.size] w fun e w' => e = .returned (.tuple #[.string ⟨#[]⟩, ew]) ∧ Drawn w w' := by
  go_enter Tryd.func67, Tryd.ntmps67
  go_wp2
  go_quiet (fail)
  go_wp2
  go_ret2
  exact ⟨rfl, _, rfl⟩

theorem word_no (s : ByteArray) (i : Nat) (hi : i < s.size) (ew : Value) (w : World) (hg : w.cell? ⟨0, 0, none⟩ = some ew) (h1 : (sortF (s[i].toNat : Int) != 1) = true) :
    Calls Tryd.prog 67 #[.string s, .int .i64 i] w fun e w' => e = .returned (.tuple #[.string ⟨#[]⟩, ew]) ∧ Drawn w w' := by
  have hne : ((i : Int) == (s.size : Int)) = false := by simp; omega
  go_enter Tryd.func67, Tryd.ntmps67
  go_wp2_with (go_at_call 75; refine (sortOf_any _ _).mono ?_; rintro e w' ⟨rfl, rfl⟩)
  go_quiet (fail)
  go_wp2
  go_ret2
  exact ⟨rfl, _, rfl⟩

theorem b01 {a b : Bool} (h : (a || b) = true) : a = true ∨ a = false ∧ b = true := by cases a <;> simp_all

/-- What word answers where a word begins: it, or errWord. -/
def wordGives (s : ByteArray) (i : Nat) (ew : Value) : Value := if wordLen (from_ s i) ≤ 100 then .tuple #[.string (s.extract i (i + wordLen (from_ s i))), .nilIface] else .tuple #[.string ⟨#[]⟩, ew]
theorem wordGives_long {s : ByteArray} {i k : Nat} {ew : Value} (h : wordLen (from_ s i) = k - i) (hc : (100 : Int) < (k : Int) - (i : Int)) : .tuple #[.string ⟨#[]⟩, ew] = wordGives s i ew := by
  unfold wordGives; rw [h, if_neg (by omega)]
theorem wordGives_is {s : ByteArray} {i k : Nat} {ew : Value} (h : wordLen (from_ s i) = k - i) (hk : i + 1 ≤ k) (hc : ¬ (100 : Int) < (k : Int) - (i : Int)) : .tuple #[.string (s.extract i k), .nilIface] = wordGives s i ew := by
  have e : i + (k - i) = k := by omega
  unfold wordGives; rw [h, if_pos (by omega), e]
theorem ret_eq {a b : Value} (h : a = b) : Ending.returned a = .returned b := by rw [h]

set_option maxHeartbeats 800000 in
/-- A word of whatever length that begins at a place: if it is of at most 100 bytes it is told, if not, errWord. -/
theorem word_yes (s : ByteArray) (i : Nat) (hi : i < s.size) (ew : Value) (w : World) (hg : w.cell? ⟨0, 0, none⟩ = some ew) (hs : s.size ≤ maxLen) (h1 : sortF (s[i].toNat : Int) = 1) :
    Calls Tryd.prog 67 #[.string s, .int .i64 i] w fun e w' => e = .returned (wordGives s i ew) ∧ Drawn w w' := by
  unfold maxLen at hs
  have hne : ((i : Int) == (s.size : Int)) = false := by simp; omega
  have h1b : (sortF (s[i].toNat : Int) != 1) = false := by simp [h1]
  have H1 := Lib.hid h1
  clear h1
  go_enter Tryd.func67, Tryd.ntmps67
  go_wp2_with (go_at_call 75; refine (sortOf_any _ _).mono ?_; rintro e w' ⟨rfl, rfl⟩)
  go_loop [6] (fun v => ∃ k : Nat, i + 1 ≤ k ∧ k ≤ s.size ∧ v = .int .i64 k ∧ ∀ j (h : j < s.size), i + 1 ≤ j → j < k → restB s[j] = true) (fun v => s.size - (intOf v).toNat)
  case atStart => exact ⟨i + 1, by omega, by omega, by go_num, fun j h h2 h3 => by omega⟩
  case round =>
    obtain ⟨k, hk, hks, rfl, hall⟩ := hrel
    have HA := Lib.hid hall
    clear hall
    by_cases hlt : k < s.size
    · cases hr : restB s[k]
      · have HR := Lib.hid hr
        have hl : letterB (s[k].toNat : Int) = false := by unfold restB at hr; simpa using (Bool.or_eq_false_iff.1 hr).1
        have hd : digitB (s[k].toNat : Int) = false := by unfold restB at hr; simpa using (Bool.or_eq_false_iff.1 hr).2
        clear hr
        have hwl := wordLen_is s i k hi H1.out hk hks HA.out (fun _ => HR.out)
        have HW := Lib.hid hwl
        clear hwl
        have b1 : (i : Int) ≤ (k : Int) := by omega
        have b2 : (k : Int) ≤ (s.size : Int) := by omega
        by_cases hc : (100 : Int) < (k : Int) - (i : Int)
        · go_wp2_with (first | (go_at_call 76; refine (isLetter_any _ _).mono ?_; rintro e w' ⟨rfl, rfl⟩) | (go_at_call 77; refine (isDigit_any _ _).mono ?_; rintro e w' ⟨rfl, rfl⟩))
          go_quiet (fail)
          go_wp2
          go_ret2
          exact ⟨ret_eq (wordGives_long HW.out (by omega)), _, rfl⟩
        · go_wp2_with (first | (go_at_call 76; refine (isLetter_any _ _).mono ?_; rintro e w' ⟨rfl, rfl⟩) | (go_at_call 77; refine (isDigit_any _ _).mono ?_; rintro e w' ⟨rfl, rfl⟩))
          go_ret2
          exact ⟨ret_eq (wordGives_is HW.out hk (by omega)), 0, rfl⟩
      · have HR := Lib.hid hr
        have hor : letterB (s[k].toNat : Int) = true ∨ letterB (s[k].toNat : Int) = false ∧ digitB (s[k].toNat : Int) = true := b01 hr
        clear hr
        rcases hor with hl | ⟨hl, hd⟩
        all_goals
          go_wp2_with (first | (go_at_call 76; refine (isLetter_any _ _).mono ?_; rintro e w' ⟨rfl, rfl⟩) | (go_at_call 77; refine (isDigit_any _ _).mono ?_; rintro e w' ⟨rfl, rfl⟩))
          go_round
          case rel => exact ⟨k + 1, by omega, by omega, by go_num, fun j h h2 h3 => by
            rcases Nat.lt_or_ge j k with hj | hj
            · exact HA.out j h h2 hj
            · have : j = k := by omega
              subst this; exact HR.out⟩
          case measure => simp [intOf]; omega
    · have hwl := wordLen_is s i k hi H1.out hk hks HA.out (fun h => by omega)
      have HW := Lib.hid hwl
      clear hwl
      have b1 : (i : Int) ≤ (k : Int) := by omega
      have b2 : (k : Int) ≤ (s.size : Int) := by omega
      by_cases hc : (100 : Int) < (k : Int) - (i : Int)
      · go_wp2_with (first | (go_at_call 76; refine (isLetter_any _ _).mono ?_; rintro e w' ⟨rfl, rfl⟩) | (go_at_call 77; refine (isDigit_any _ _).mono ?_; rintro e w' ⟨rfl, rfl⟩))
        go_quiet (fail)
        go_wp2
        go_ret2
        exact ⟨ret_eq (wordGives_long HW.out (by omega)), _, rfl⟩
      · go_wp2_with (first | (go_at_call 76; refine (isLetter_any _ _).mono ?_; rintro e w' ⟨rfl, rfl⟩) | (go_at_call 77; refine (isDigit_any _ _).mono ?_; rintro e w' ⟨rfl, rfl⟩))
        go_ret2
        exact ⟨ret_eq (wordGives_is HW.out hk (by omega)), 0, rfl⟩

theorem wordLen_le (s : ByteArray) (i : Nat) : wordLen (from_ s i) ≤ s.size - i := by
  have h := from_length s i
  rw [← h]
  generalize from_ s i = l
  cases l with
  | nil => simp [wordLen]
  | cons c r =>
    rw [wordLen_cons]
    have := (List.takeWhile_prefix (l := r) restB).length_le
    split <;> simp <;> omega

end Go.Proofs.YtkbmkmpoapafaaaDoor
