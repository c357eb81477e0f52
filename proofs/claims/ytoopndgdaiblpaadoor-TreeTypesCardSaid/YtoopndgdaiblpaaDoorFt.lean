/- tree.fitsText at every sort, tree.allNames at any names. -/
import Derived.Test.YtoopndgdaiblpaaDoorFit
import Derived.WalkLawsBesides
import Derived.Lib.SlicesS
namespace Go.Proofs.YtoopndgdaiblpaaDoor
open Go.ChangeShapes Go.WideShapes Go.ChangeAt Go.RowKit

def emptyB (s : ByteArray) : Bool := s.toList == (⟨#[]⟩ : ByteArray).toList
def isB (s : ByteArray) (c : UInt8) : Bool := s.toList == (⟨#[c]⟩ : ByteArray).toList
def opB (s : ByteArray) : Bool := isB s 43 || isB s 45 || isB s 42 || isB s 47 || isB s 61 || isB s 60
def textB (k : Int) (s : ByteArray) : Bool := if k = 1 then nameB s else if k = 2 then emptyB s || nameB s else if k = 3 then opB s else if k = 4 then decide (s.size ≤ 65536) else emptyB s

section
variable (s : ByteArray) (T : TypeId) (v : Value) (w : World)
set_option maxRecDepth 100000 in
theorem ft_0 : Calls Tryd.prog 44 #[.int .i64 0, .string s] w fun e w' => e = .returned (.bool (emptyB s)) ∧ Drawn w w' := by
  by_cases h : s = ⟨#[]⟩
  · have hb : emptyB s = true := by rw [h]; exact beq_self_eq_true _
    subst h
    have HB := Lib.hid hb
    clear hb
    go_enter Tryd.func44, Tryd.ntmps44
    go_wp2_with fail
    go_ret
    exact ⟨by rw [HB.out]; rfl, 0, rfl⟩
  · have z : (s.toList == (⟨#[]⟩ : ByteArray).toList) = false := (Lib.bytes_beq_false_iff s ⟨#[]⟩).2 h
    have hb : emptyB s = false := z
    have HB := Lib.hid hb
    have e0 : (⟨#[]⟩ : ByteArray).toList = [] := by rw [Lib.toList_data]
    have z2 : (s.toList == []) = false := by rw [e0] at z; exact z
    have z3 : ¬ s.toList = [] := by simpa using z2
    have z4 : s.toList.isEmpty = false := by cases hs : s.toList with | nil => exact absurd hs z3 | cons => rfl
    clear hb h z e0
    go_enter Tryd.func44, Tryd.ntmps44
    go_wp2_with fail
    go_ret
    exact ⟨by rw [HB.out]; rfl, 0, rfl⟩
set_option maxRecDepth 100000 in
theorem ft_2 (hg : w.cell? ⟨0, 0, none⟩ = some (.iface T v)) (hs : s.size ≤ maxLen) : Calls Tryd.prog 44 #[.int .i64 2, .string s] w fun e w' => e = .returned (.bool (emptyB s || nameB s)) ∧ Drawn w w' := by
  by_cases h : s = ⟨#[]⟩
  · have hb : emptyB s = true := by rw [h]; exact beq_self_eq_true _
    subst h
    have HB := Lib.hid hb
    clear hb
    go_enter Tryd.func44, Tryd.ntmps44
    go_wp2_with fail
    go_ret
    exact ⟨by rw [HB.out]; rfl, 0, rfl⟩
  · have z : (s.toList == (⟨#[]⟩ : ByteArray).toList) = false := (Lib.bytes_beq_false_iff s ⟨#[]⟩).2 h
    have hb : emptyB s = false := z
    have HB := Lib.hid hb
    have C := Lib.hid (isName_any s T v w hg hs)
    have e0 : (⟨#[]⟩ : ByteArray).toList = [] := by rw [Lib.toList_data]
    have z2 : (s.toList == []) = false := by rw [e0] at z; exact z
    have z3 : ¬ s.toList = [] := by simpa using z2
    have z4 : s.toList.isEmpty = false := by cases hs : s.toList with | nil => exact absurd hs z3 | cons => rfl
    obtain ⟨r, hr⟩ : ∃ r, nameB s = r := ⟨_, rfl⟩
    rw [hr] at C ⊢
    clear hb h z e0 hr hg
    go_enter Tryd.func44, Tryd.ntmps44
    go_wp2_with (go_at_call 46; refine C.out.mono ?_; rintro e w' ⟨rfl, n, rfl⟩)
    go_ret
    exact ⟨by rw [HB.out]; rfl, n, rfl⟩
set_option maxRecDepth 100000 in
theorem ft_4 : Calls Tryd.prog 44 #[.int .i64 4, .string s] w fun e w' => e = .returned (.bool (decide (s.size ≤ 65536))) ∧ Drawn w w' := by
  by_cases h : s.size ≤ 65536
  · have z : decide ((s.size : Int) ≤ 65536) = true := decide_eq_true (by omega)
    have HB := Lib.hid (decide_eq_true h)
    clear h
    go_enter Tryd.func44, Tryd.ntmps44
    go_wp2_with fail
    go_ret
    exact ⟨by rw [HB.out]; rfl, 0, rfl⟩
  · have z : decide ((s.size : Int) ≤ 65536) = false := decide_eq_false (by omega)
    have HB := Lib.hid (decide_eq_false h)
    clear h
    go_enter Tryd.func44, Tryd.ntmps44
    go_wp2_with fail
    go_ret
    exact ⟨by rw [HB.out]; rfl, 0, rfl⟩
set_option maxRecDepth 100000 in
theorem ft_3 : Calls Tryd.prog 44 #[.int .i64 3, .string s] w fun e w' => e = .returned (.bool (opB s)) ∧ Drawn w w' := by
  by_cases h : s = ⟨#[43]⟩ ∨ s = ⟨#[45]⟩ ∨ s = ⟨#[42]⟩ ∨ s = ⟨#[47]⟩ ∨ s = ⟨#[61]⟩ ∨ s = ⟨#[60]⟩
  · have hb : opB s = true := by
      unfold opB isB
      rcases h with rfl | rfl | rfl | rfl | rfl | rfl <;> simp [Lib.toList_data]
    have HB := Lib.hid hb
    clear hb
    rcases h with rfl | rfl | rfl | rfl | rfl | rfl
    all_goals
      go_enter Tryd.func44, Tryd.ntmps44
      go_wp2_with fail
      go_ret
      exact ⟨by rw [HB.out]; rfl, 0, rfl⟩
  · have y1 : (s.toList == (⟨#[43]⟩ : ByteArray).toList) = false := (Lib.bytes_beq_false_iff s _).2 (fun e => h (.inl e))
    have y2 : (s.toList == (⟨#[45]⟩ : ByteArray).toList) = false := (Lib.bytes_beq_false_iff s _).2 (fun e => h (.inr (.inl e)))
    have y3 : (s.toList == (⟨#[42]⟩ : ByteArray).toList) = false := (Lib.bytes_beq_false_iff s _).2 (fun e => h (.inr (.inr (.inl e))))
    have y4 : (s.toList == (⟨#[47]⟩ : ByteArray).toList) = false := (Lib.bytes_beq_false_iff s _).2 (fun e => h (.inr (.inr (.inr (.inl e)))))
    have y5 : (s.toList == (⟨#[61]⟩ : ByteArray).toList) = false := (Lib.bytes_beq_false_iff s _).2 (fun e => h (.inr (.inr (.inr (.inr (.inl e))))))
    have y6 : (s.toList == (⟨#[60]⟩ : ByteArray).toList) = false := (Lib.bytes_beq_false_iff s _).2 (fun e => h (.inr (.inr (.inr (.inr (.inr e))))))
    have hb : opB s = false := by unfold opB isB; rw [y1, y2, y3, y4, y5, y6]; rfl
    have HB := Lib.hid hb
    clear hb h
    have e1 : (⟨#[43]⟩ : ByteArray).toList = [43] := by rw [Lib.toList_data]
    have e2 : (⟨#[45]⟩ : ByteArray).toList = [45] := by rw [Lib.toList_data]
    have e3 : (⟨#[42]⟩ : ByteArray).toList = [42] := by rw [Lib.toList_data]
    have e4 : (⟨#[47]⟩ : ByteArray).toList = [47] := by rw [Lib.toList_data]
    have e5 : (⟨#[61]⟩ : ByteArray).toList = [61] := by rw [Lib.toList_data]
    have e6 : (⟨#[60]⟩ : ByteArray).toList = [60] := by rw [Lib.toList_data]
    rw [e1] at y1; rw [e2] at y2; rw [e3] at y3; rw [e4] at y4; rw [e5] at y5; rw [e6] at y6
    clear e1 e2 e3 e4 e5 e6
    go_enter Tryd.func44, Tryd.ntmps44
    go_wp2_with fail
    go_ret
    exact ⟨by rw [HB.out]; rfl, 0, rfl⟩
end

set_option maxRecDepth 100000 in
/-- All names. -/
theorem allNames_any (T : TypeId) (ev : Value) (S : Nat → Prop) (l : List ByteArray) (v : Value) (g o : Nat) (w : World) (hE : w.cell? ⟨0, 0, none⟩ = some (.iface T ev)) (hv : Sl S v l.length g o) (hl : ∀ i (h : i < l.length), w.cell? ⟨g, o + i, none⟩ = some (.string l[i])) (hs : ∀ x ∈ l, x.size ≤ maxLen) :
    Calls Tryd.prog 45 #[v] w fun e w' => e = .returned (.bool (l.all nameB)) ∧ ∃ q, w' = w.drewN q := by
  obtain ⟨x, c, rfl, hx⟩ := hv.shape
  obtain ⟨n, hn0⟩ : ∃ n, l.length = n := ⟨_, rfl⟩
  have HL := Lib.hid (And.intro hn0 (And.intro hl (And.intro hs (And.intro hE hx))))
  rw [hn0]
  clear hn0 hl hs hE hx hv
  go_enter Tryd.func45, Tryd.ntmps45
  go_wp2_with fail
  go_loopg [7] n (fun gk i wr => ∃ j q, gk = n - j ∧ j ≤ n ∧ i = .int .i64 j ∧ wr = w.drewN q ∧ (l.take j).all nameB = true)
  case atStart => exact ⟨0, 0, rfl, Nat.zero_le _, rfl, rfl, rfl⟩
  case round =>
    obtain ⟨j, q, rfl, hj, rfl, rfl, htk⟩ := hrel
    have HT := Lib.hid htk
    clear htk
    by_cases hlt : j < n
    · have hi' : (j : Int) < (n : Int) := by omega
      have hjl : j < l.length := by have := HL.out.1; omega
      obtain ⟨rfl, hc1, hc2, _⟩ := HL.out.2.2.2.2 (by have := HL.out.1; omega)
      rw [HL.out.1] at hc1
      unfold maxLen at hc2
      obtain ⟨x, hx⟩ : ∃ x, l[j] = x := ⟨_, rfl⟩
      have c := HL.out.2.1 j hjl
      rw [hx] at c
      have C : Hid (∀ q, Calls Tryd.prog 46 #[.string x] (w.drewN q) fun e w' => e = .returned (.bool (nameB x)) ∧ Drawn (w.drewN q) w') := Lib.hid fun q =>
        isName_any x T ev (w.drewN q) HL.out.2.2.2.1 (by have := HL.out.2.2.1 l[j] (List.getElem_mem hjl); rwa [hx] at this)
      have HX := Lib.hid hx
      clear hx
      cases hb : nameB x with
      | true =>
        rw [hb] at C
        have HB := Lib.hid hb
        clear hb
        go_wp2_with (go_at_call 46; refine (C.out _).mono ?_; rintro e9 w9 ⟨rfl, q9, rfl⟩)
        go_roundg (n - (j + 1))
        case measure => omega
        case rel => exact ⟨j + 1, _, rfl, hlt, by first | rfl | simp, by first | rfl | exact World.drewN_drewN .., by rw [List.take_succ_eq_append_getElem hjl, List.all_append, HT.out, HX.out]; simp [HB.out]⟩
      | false =>
        rw [hb] at C
        have HB : Hid (l.all nameB = false) := Lib.hid (List.all_eq_false.2 ⟨l[j], List.getElem_mem hjl, by rw [HX.out, hb]; decide⟩)
        clear hb
        go_wp2_with (go_at_call 46; refine (C.out _).mono ?_; rintro e9 w9 ⟨rfl, q9, rfl⟩)
        go_ret
        exact ⟨by rw [HB.out]; rfl, _, by first | rfl | exact World.drewN_drewN ..⟩
    · have hi' : ¬ (j : Int) < (n : Int) := by omega
      have HB : Hid (l.all nameB = true) := Lib.hid (by have := HT.out; rwa [List.take_of_length_le (by have := HL.out.1; omega)] at this)
      go_wp2_with fail
      go_ret
      exact ⟨by rw [HB.out]; rfl, _, rfl⟩
end Go.Proofs.YtoopndgdaiblpaaDoor
