/- graph.isFree, inside, arity, rising. -/
import Derived.Test.YtkbmkmpoapafaaaDoorEqG
import Derived.WalkLawsBesides
namespace Go.Proofs.YtkbmkmpoapafaaaDoor
open Go.ChangeShapes Go.WideShapes Go.ChangeAt Go.RowKit

def GN.freeB (x : GN) : Bool := x.k == 1 || x.op
set_option maxRecDepth 100000 in
theorem isFree_c (b o : Nat) (k : Int) (p : Bool) (w : World) (c0 : w.cell? ⟨b, o, none⟩ = some (.int .i64 k)) (c4 : w.cell? ⟨b, o + 4, none⟩ = some (.bool p)) :
    Calls Tryd.prog 30 #[.pointer (some ⟨b, o, none⟩)] w fun e w' => e = .returned (.bool (k == 1 || p)) ∧ w = w' := by
  by_cases h1 : k = 1
  · subst h1
    go_enter Tryd.func30, Tryd.ntmps30
    go_wp2_with fail
    go_ret
    exact ⟨rfl, rfl⟩
  · have z : (k == 1) = false := by simpa using h1
    have HZ := Lib.hid (show (k == 1 || p) = p by rw [z]; rfl)
    clear h1
    go_enter Tryd.func30, Tryd.ntmps30
    go_wp2_with fail
    go_ret
    exact ⟨by rw [HZ.out]; rfl, rfl⟩
theorem isFree_any (S : Nat → Prop) (b o : Nat) (va vl : Value) (x : GN) (w : World) (h : GnAt w S b o va vl x) :
    Calls Tryd.prog 30 #[.pointer (some ⟨b, o, none⟩)] w fun e w' => e = .returned (.bool x.freeB) ∧ w = w' :=
  isFree_c b o x.k x.op w h.c0 h.c4

def insideB (a : Int) (n : Int) : Bool := decide (0 ≤ a) && decide (a < n)
set_option maxRecDepth 100000 in
theorem inside_any (a n : Int) (w : World) : Calls Tryd.prog 21 #[.int .i64 a, .int .i64 n] w fun e w' => e = .returned (.bool (insideB a n)) ∧ w = w' := by
  by_cases h0 : 0 ≤ a
  · by_cases h1 : a < n
    · have HB := Lib.hid (show insideB a n = true by unfold insideB; simp; omega)
      go_enter Tryd.func21, Tryd.ntmps21
      go_wp2_with fail
      go_ret
      exact ⟨by rw [HB.out]; rfl, rfl⟩
    · have HB := Lib.hid (show insideB a n = false by unfold insideB; simp; omega)
      go_enter Tryd.func21, Tryd.ntmps21
      go_wp2_with fail
      go_ret
      exact ⟨by rw [HB.out]; rfl, rfl⟩
  · have HB := Lib.hid (show insideB a n = false by unfold insideB; simp; omega)
    go_enter Tryd.func21, Tryd.ntmps21
    go_wp2_with fail
    go_ret
    exact ⟨by rw [HB.out]; rfl, rfl⟩

def sInt : ByteArray := ⟨#[105, 110, 116]⟩
def sBool : ByteArray := ⟨#[98, 111, 111, 108]⟩
def sString : ByteArray := ⟨#[115, 116, 114, 105, 110, 103]⟩
def sUnit : ByteArray := ⟨#[117, 110, 105, 116]⟩
def sArrow : ByteArray := ⟨#[45, 62]⟩
def sStar : ByteArray := ⟨#[42]⟩
noncomputable def arityI (s : ByteArray) : Int := open Classical in if s = sInt ∨ s = sBool ∨ s = sString ∨ s = sUnit then 0 else if s = sArrow ∨ s = sStar then 2 else -1
set_option maxRecDepth 100000 in
theorem arity_any (s : ByteArray) (w : World) : Calls Tryd.prog 38 #[.string s] w fun e w' => e = .returned (.int .i64 (arityI s)) ∧ w = w' := by
  have eq : ∀ t : ByteArray, s ≠ t → (s.toList == t.data.toList) = false := fun t h => by rw [← Lib.toList_data]; exact (Lib.bytes_beq_false_iff s t).2 h
  have eqt : ∀ t : ByteArray, s = t → (s.toList == t.data.toList) = true := fun t h => by rw [← Lib.toList_data]; exact (Lib.bytes_beq_iff s t).2 h
  by_cases h1 : s = sInt
  · have HB := Lib.hid (show arityI s = 0 by unfold arityI; rw [if_pos (.inl h1)])
    have z1 : (s.toList == [105, 110, 116]) = true := eqt _ h1
    clear h1 eq eqt
    go_enter Tryd.func38, Tryd.ntmps38
    go_wp2_with fail
    go_ret
    exact ⟨by rw [HB.out]; rfl, rfl⟩
  have z1 : (s.toList == [105, 110, 116]) = false := eq _ h1
  by_cases h2 : s = sBool
  · have HB := Lib.hid (show arityI s = 0 by unfold arityI; rw [if_pos (.inr (.inl h2))])
    have z2 : (s.toList == [98, 111, 111, 108]) = true := eqt _ h2
    clear h1 h2 eq eqt
    go_enter Tryd.func38, Tryd.ntmps38
    go_wp2_with fail
    go_ret
    exact ⟨by rw [HB.out]; rfl, rfl⟩
  have z2 : (s.toList == [98, 111, 111, 108]) = false := eq _ h2
  by_cases h3 : s = sString
  · have HB := Lib.hid (show arityI s = 0 by unfold arityI; rw [if_pos (.inr (.inr (.inl h3)))])
    have z3 : (s.toList == [115, 116, 114, 105, 110, 103]) = true := eqt _ h3
    clear h1 h2 h3 eq eqt
    go_enter Tryd.func38, Tryd.ntmps38
    go_wp2_with fail
    go_ret
    exact ⟨by rw [HB.out]; rfl, rfl⟩
  have z3 : (s.toList == [115, 116, 114, 105, 110, 103]) = false := eq _ h3
  by_cases h4 : s = sUnit
  · have HB := Lib.hid (show arityI s = 0 by unfold arityI; rw [if_pos (.inr (.inr (.inr h4)))])
    have z4 : (s.toList == [117, 110, 105, 116]) = true := eqt _ h4
    clear h1 h2 h3 h4 eq eqt
    go_enter Tryd.func38, Tryd.ntmps38
    go_wp2_with fail
    go_ret
    exact ⟨by rw [HB.out]; rfl, rfl⟩
  have z4 : (s.toList == [117, 110, 105, 116]) = false := eq _ h4
  have hno : ¬ (s = sInt ∨ s = sBool ∨ s = sString ∨ s = sUnit) := by
    rintro (h | h | h | h)
    · exact h1 h
    · exact h2 h
    · exact h3 h
    · exact h4 h
  by_cases h5 : s = sArrow
  · have HB := Lib.hid (show arityI s = 2 by unfold arityI; rw [if_neg hno, if_pos (.inl h5)])
    have z5 : (s.toList == [45, 62]) = true := eqt _ h5
    clear h1 h2 h3 h4 h5 eq eqt hno
    go_enter Tryd.func38, Tryd.ntmps38
    go_wp2_with fail
    go_ret
    exact ⟨by rw [HB.out]; rfl, rfl⟩
  have z5 : (s.toList == [45, 62]) = false := eq _ h5
  by_cases h6 : s = sStar
  · have HB := Lib.hid (show arityI s = 2 by unfold arityI; rw [if_neg hno, if_pos (.inr h6)])
    have z6 : (s.toList == [42]) = true := eqt _ h6
    clear h1 h2 h3 h4 h5 h6 eq eqt hno
    go_enter Tryd.func38, Tryd.ntmps38
    go_wp2_with fail
    go_ret
    exact ⟨by rw [HB.out]; rfl, rfl⟩
  have z6 : (s.toList == [42]) = false := eq _ h6
  have HB := Lib.hid (show arityI s = -1 by
    unfold arityI
    rw [if_neg hno, if_neg]
    rintro (h | h)
    · exact h5 h
    · exact h6 h)
  clear h1 h2 h3 h4 h5 h6 eq eqt hno
  go_enter Tryd.func38, Tryd.ntmps38
  go_wp2_with fail
  go_ret
  exact ⟨by rw [HB.out]; rfl, rfl⟩

/-- Names, each greater than the one ahead of it. -/
def Rise (l : List ByteArray) (n : Nat) : Prop := ∀ i (h : i < l.length), i < n → nameB l[i] = true ∧ (0 < i → Op.bytesLess (l[i - 1]'(by omega)).toList l[i].toList = true)
def riseGives (l : List ByteArray) (w : World) (e : Ending) (w' : World) : Prop := ∃ r : Bool, e = .returned (.bool r) ∧ (r = true ↔ Rise l l.length) ∧ Drawn w w'
set_option maxRecDepth 100000 in
theorem rising_any (S : Nat → Prop) (v : Value) (l : List ByteArray) (w : World) (T : TypeId) (ev : Value) (hg : w.cell? ⟨0, 0, none⟩ = some (.iface T ev)) (h : Strs w S v l) (hs : ∀ s ∈ l, s.size ≤ maxLen) :
    Calls Tryd.prog 37 #[v] w (riseGives l w) := by
  obtain ⟨x, c, g, o, rfl, hx, hc⟩ := h.open_
  obtain ⟨n, hn⟩ : ∃ n, l.length = n := ⟨_, rfl⟩
  have H := Lib.hid (And.intro hn (And.intro hx (And.intro hc hs)))
  have HG := Lib.hid hg
  rw [hn]
  clear hn hx hc hs h hg
  go_enter Tryd.func37, Tryd.ntmps37
  go_wp2_with fail
  go_loopg [7] n (fun gk i wr => ∃ j q, gk = n - j ∧ j ≤ n ∧ i = .int .i64 j ∧ wr = w.drewN q ∧ Rise l j)
  case atStart => exact ⟨0, 0, rfl, Nat.zero_le _, rfl, rfl, fun i _ h => absurd h (Nat.not_lt_zero _)⟩
  case round =>
    obtain ⟨j, q, rfl, hj, rfl, rfl, hR⟩ := hrel
    have HR := Lib.hid hR
    clear hR
    by_cases hlt : j < n
    · have hi' : (j : Int) < (n : Int) := by omega
      have hjl : j < l.length := by have := H.out.1; omega
      obtain ⟨rfl, hc1, hc2, _⟩ := H.out.2.1 (by omega)
      rw [H.out.1] at hc1
      unfold maxLen at hc2
      have c1 := H.out.2.2.1 j hjl
      obtain ⟨a, ha⟩ : ∃ a, l[j] = a := ⟨_, rfl⟩
      rw [ha] at c1
      have CN : Hid (∀ q, Calls Tryd.prog 52 #[.string a] (w.drewN q) fun e w' => e = .returned (.bool (nameB a)) ∧ Drawn (w.drewN q) w') := Lib.hid fun q => isName_any a T ev _ HG.out (by rw [← ha]; exact H.out.2.2.2 _ (List.getElem_mem hjl))
      have HA := Lib.hid ha
      clear ha
      obtain ⟨r, hr⟩ : ∃ r, nameB a = r := ⟨_, rfl⟩
      rw [hr] at CN
      have HN := Lib.hid hr
      clear hr
      have no : Hid (r = false → ¬ Rise l l.length) := Lib.hid fun h hRise => by
        have := (hRise j hjl hjl).1
        rw [HA.out, HN.out, h] at this
        cases this
      rcases Nat.eq_zero_or_pos j with rfl | hj0
      · rw [Nat.add_zero] at c1
        cases r with
        | true =>
          go_wp2_with (go_at_call 52; (with_reducible refine (CN.out _).mono ?_); (rintro e9 w9 ⟨rfl, q9, rfl⟩))
          go_roundg (n - (0 + 1))
          case measure => omega
          case rel => exact ⟨1, _, rfl, hlt, by first | rfl | simp, by first | rfl | exact World.drewN_drewN .., fun i hi h => by
            obtain rfl : i = 0 := by omega
            exact ⟨by rw [HA.out, HN.out], fun h => absurd h (Nat.lt_irrefl _)⟩⟩
        | false =>
          go_wp2_with (go_at_call 52; (with_reducible refine (CN.out _).mono ?_); (rintro e9 w9 ⟨rfl, q9, rfl⟩))
          go_ret
          exact ⟨false, rfl, ⟨fun h => (by cases h), fun h => absurd h (no.out (by first | rfl | trivial))⟩, _, by first | rfl | exact World.drewN_drewN ..⟩
      · have hjl1 : j - 1 < l.length := by omega
        have c2 := H.out.2.2.1 (j - 1) hjl1
        obtain ⟨b, hb⟩ : ∃ b, l[j - 1] = b := ⟨_, rfl⟩
        rw [hb] at c2
        have HB := Lib.hid hb
        clear hb
        have hi0 : (0 : Int) < (j : Int) := by omega
        have hw : IntKind.i64.wrap ((j : Int) - 1) = ((j - 1 : Nat) : Int) := by rw [IntKind.wrap_i64]; omega
        obtain ⟨i1, hi1⟩ : ∃ i1, j - 1 = i1 := ⟨_, rfl⟩
        rw [hi1] at c2 hw
        have hi2 : i1 < n := by omega
        have hi3 : (i1 : Int) < (n : Int) := by omega
        have hi4 : 1 ≤ (j : Int) := by omega
        have hi5 : (j : Int) - 1 = (i1 : Int) := by omega
        have HI := Lib.hid hi1
        clear hi1
        obtain ⟨z, hz⟩ : ∃ z, Op.bytesLess b.toList a.toList = z := ⟨_, rfl⟩
        have HZ := Lib.hid hz
        have no2 : Hid (z = false → ¬ Rise l l.length) := Lib.hid fun h hRise => by
          have := (hRise j hjl hjl).2 hj0
          rw [HA.out, HB.out, HZ.out, h] at this
          cases this
        cases z with
        | false =>
          go_wp2_with (go_at_call 52; (with_reducible refine (CN.out _).mono ?_); (rintro e9 w9 ⟨rfl, q9, rfl⟩))
          go_ret
          exact ⟨false, rfl, ⟨fun h => (by cases h), fun h => absurd h (no2.out (by first | rfl | trivial))⟩, _, by first | rfl | exact World.drewN_drewN ..⟩
        | true =>
          cases r with
          | true =>
            go_wp2_with (go_at_call 52; (with_reducible refine (CN.out _).mono ?_); (rintro e9 w9 ⟨rfl, q9, rfl⟩))
            go_roundg (n - (j + 1))
            case measure => omega
            case rel => exact ⟨j + 1, _, rfl, hlt, by first | rfl | simp, by first | rfl | exact World.drewN_drewN .., fun i hi h => by
              rcases Nat.lt_or_ge i j with h1 | h1
              · exact HR.out i hi h1
              · obtain rfl : i = j := by omega
                exact ⟨by rw [HA.out, HN.out], fun _ => by rw [HA.out, HB.out, HZ.out]⟩⟩
          | false =>
            go_wp2_with (go_at_call 52; (with_reducible refine (CN.out _).mono ?_); (rintro e9 w9 ⟨rfl, q9, rfl⟩))
            go_ret
            exact ⟨false, rfl, ⟨fun h => (by cases h), fun h => absurd h (no.out (by first | rfl | trivial))⟩, _, by first | rfl | exact World.drewN_drewN ..⟩
    · have hi' : ¬ (j : Int) < (n : Int) := by omega
      have hjn : Rise l l.length := by have h := HR.out; rwa [show j = l.length by have := H.out.1; omega] at h
      have HJ := Lib.hid hjn
      clear hjn
      go_wp2_with fail
      go_ret
      exact ⟨true, rfl, ⟨fun _ => HJ.out, fun _ => rfl⟩, q, rfl⟩
end Go.Proofs.YtkbmkmpoapafaaaDoor
