/- Which texts are words, and names. -/
import Derived.Test.YtkbmkmpoapafaaaDoorLexa
namespace Go.Proofs.YtkbmkmpoapafaaaDoor
open Go.ChangeShapes Go.WideShapes Go.ChangeAt Go.RowKit

/-- The whole of a text is a word that isn't too long. -/
def isWordB (s : ByteArray) : Bool := decide (0 < s.size) && decide (wordLen (from_ s 0) = s.size) && decide (s.size ≤ 100)

theorem extract_all (s : ByteArray) : s.extract 0 s.size = s := by
  have h : (s.extract 0 s.size).data.toList = s.data.toList := by
    rw [Lib.extract_data, List.drop_zero, Nat.sub_zero, Lib.size_eq]
    exact List.take_length
  rw [← Lib.mk_data (s.extract 0 s.size), h, Lib.mk_data]

theorem extract_ne (s : ByteArray) (n : Nat) (h : n ≤ s.size) (hn : n ≠ s.size) : ((s.extract 0 n).toList == s.toList) = false := by
  rw [beq_eq_false_iff_ne]
  intro he
  have := congrArg List.length he
  rw [Lib.extract_toList, Lib.toList_data, List.drop_zero, List.length_take, Lib.size_eq s] at *
  omega

theorem isWord_any (s : ByteArray) (T : TypeId) (v : Value) (w : World) (hg : w.cell? ⟨0, 0, none⟩ = some (.iface T v)) (hs : s.size ≤ maxLen) :
    Calls Tryd.prog 57 #[.string s] w fun e w' => e = .returned (.bool (isWordB s)) ∧ Drawn w w' := by
  by_cases h0 : s.size = 0
  · have c : Calls Tryd.prog 67 #[.string s, .int .i64 0] w fun e w' => e = .returned (.tuple #[.string ⟨#[]⟩, .iface T v]) ∧ Drawn w w' := by
      have := word_end s _ w hg
      rw [h0] at this; exact this
    have hb : isWordB s = false := by unfold isWordB; simp [h0]
    have HB := Lib.hid hb
    clear hb h0
    go_enter Tryd.func57, Tryd.ntmps57
    go_wp2_with (go_at_call 67; refine c.mono ?_; rintro e w' ⟨rfl, n, rfl⟩)
    go_ret
    exact ⟨by rw [HB.out]; rfl, n, rfl⟩
  · have hi : 0 < s.size := by omega
    by_cases h1 : sortF (s[0].toNat : Int) = 1
    · have c : Calls Tryd.prog 67 #[.string s, .int .i64 0] w fun e w' => e = .returned (wordGives s 0 (.iface T v)) ∧ Drawn w w' := word_yes s 0 hi _ w hg hs h1
      by_cases h2 : wordLen (from_ s 0) ≤ 100
      · unfold wordGives at c
        rw [if_pos h2, Nat.zero_add] at c
        by_cases h3 : wordLen (from_ s 0) = s.size
        · rw [h3, extract_all s] at c
          have hb : isWordB s = true := by unfold isWordB; simp; omega
          have HB := Lib.hid hb
          have C := Lib.hid c
          clear hb h0 h1 h2 h3 c
          go_enter Tryd.func57, Tryd.ntmps57
          go_wp2_with (go_at_call 67; refine C.out.mono ?_; rintro e w' ⟨rfl, n, rfl⟩)
          go_ret
          exact ⟨by rw [HB.out]; rfl, n, rfl⟩
        · have hb : isWordB s = false := by unfold isWordB; simp; omega
          have HB := Lib.hid hb
          have C := Lib.hid c
          have hx := extract_ne s _ (by have := wordLen_le s 0; omega) h3
          clear hb h0 h1 h2 h3 c
          go_enter Tryd.func57, Tryd.ntmps57
          go_wp2_with (go_at_call 67; refine C.out.mono ?_; rintro e w' ⟨rfl, n, rfl⟩)
          go_ret
          exact ⟨by rw [HB.out]; rfl, n, rfl⟩
      · unfold wordGives at c
        rw [if_neg h2] at c
        have hb : isWordB s = false := by unfold isWordB; simp; omega
        have HB := Lib.hid hb
        have C := Lib.hid c
        clear hb h0 h1 h2 c
        go_enter Tryd.func57, Tryd.ntmps57
        go_wp2_with (go_at_call 67; refine C.out.mono ?_; rintro e w' ⟨rfl, n, rfl⟩)
        go_ret
        exact ⟨by rw [HB.out]; rfl, n, rfl⟩
    · have c : Calls Tryd.prog 67 #[.string s, .int .i64 0] w fun e w' => e = .returned (.tuple #[.string ⟨#[]⟩, .iface T v]) ∧ Drawn w w' := word_no s 0 hi _ w hg (by simpa using h1)
      have hb : isWordB s = false := by
        have := wordLen_no s 0 hi (by simpa using h1)
        unfold isWordB; simp; omega
      have HB := Lib.hid hb
      have C := Lib.hid c
      clear hb h0 h1 c
      go_enter Tryd.func57, Tryd.ntmps57
      go_wp2_with (go_at_call 67; refine C.out.mono ?_; rintro e w' ⟨rfl, n, rfl⟩)
      go_ret
      exact ⟨by rw [HB.out]; rfl, n, rfl⟩

/-- A name. -/
def nameB (s : ByteArray) : Bool := isWordB s && !keyB s

theorem isName_any (s : ByteArray) (T : TypeId) (v : Value) (w : World) (hg : w.cell? ⟨0, 0, none⟩ = some (.iface T v)) (hs : s.size ≤ maxLen) :
    Calls Tryd.prog 52 #[.string s] w fun e w' => e = .returned (.bool (nameB s)) ∧ Drawn w w' := by
  go_enter Tryd.func52, Tryd.ntmps52
  go_wp2_with (first | (go_at_call 57; refine (isWord_any s T v _ hg hs).mono ?_; rintro e w' ⟨rfl, n, rfl⟩) | (go_at_call 58; refine (isKey_any _ _).mono ?_; rintro e w' ⟨rfl, rfl⟩))
  all_goals
    go_ret
    go_light
    exact ⟨by unfold nameB; simp [*], n, rfl⟩

end Go.Proofs.YtkbmkmpoapafaaaDoor
