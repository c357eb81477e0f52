/- tree.fitsType at the types that there are here. -/
import Derived.Test.YtoopndgdaiblpaaDoorTyEq
import Derived.Test.YtoopndgdaiblpaaDoorAlive
import Derived.WalkLawsBesides
namespace Go.Proofs.YtoopndgdaiblpaaDoor
open Go.ChangeShapes Go.WideShapes Go.ChangeAt Go.RowKit

theorem name_a : nameB ⟨#[97]⟩ = true := by
  have e : (⟨#[97]⟩ : ByteArray).toList = [97] := by rw [Lib.toList_data]
  unfold nameB isWordB keyB
  rw [e]
  decide
theorem name_m : nameB ⟨#[109]⟩ = true := by
  have e : (⟨#[109]⟩ : ByteArray).toList = [109] := by rw [Lib.toList_data]
  unfold nameB isWordB keyB
  rw [e]
  decide
theorem name_n : nameB ⟨#[110]⟩ = true := by
  have e : (⟨#[110]⟩ : ByteArray).toList = [110] := by rw [Lib.toList_data]
  unfold nameB isWordB keyB
  rw [e]
  decide

section
variable (T : TypeId) (ev : Value)
/-- The cell of the lexer's error. -/
def ErrAt (w : World) : Prop := w.cell? ⟨0, 0, none⟩ = some (.iface T ev) ∧ 0 < w.heap.size

/-- All names: at names. -/
theorem allNames_ok (l : List ByteArray) (g o cap : Nat) (w : World) (hE : ErrAt T ev w) (hl : ∀ i (h : i < l.length), w.cell? ⟨g, o + i, none⟩ = some (.string l[i])) (hn : ∀ x ∈ l, nameB x = true ∧ x.size ≤ 100) (hc : l.length ≤ cap) (hm : cap ≤ maxLen) :
    Calls Tryd.prog 45 #[.slice (some ⟨g, o, none⟩) l.length cap] w fun e w' => e = .returned (.bool true) ∧ Drawn w w' := by
  obtain ⟨n, hn0⟩ : ∃ n, l.length = n := ⟨_, rfl⟩
  have HL := Lib.hid (And.intro hn0 (And.intro hl (And.intro hn hE)))
  rw [hn0] at hc ⊢
  unfold maxLen at hm
  clear hn0 hl hn hE
  go_enter Tryd.func45, Tryd.ntmps45
  go_wp2_with fail
  go_loopg [7] n (fun gk i wr => ∃ j q, gk = n - j ∧ j ≤ n ∧ i = .int .i64 j ∧ wr = w.drewN q)
  case atStart => exact ⟨0, 0, rfl, Nat.zero_le _, rfl, rfl⟩
  case round =>
    obtain ⟨j, q, rfl, hj, rfl, rfl⟩ := hrel
    by_cases hlt : j < n
    · have hi' : (j : Int) < (n : Int) := by omega
      have hjl : j < l.length := by have := HL.out.1; omega
      obtain ⟨x, hx⟩ : ∃ x, l[j] = x := ⟨_, rfl⟩
      have c := HL.out.2.1 j hjl
      rw [hx] at c
      have C : Hid (∀ q, Calls Tryd.prog 46 #[.string x] (w.drewN q) fun e w' => e = .returned (.bool true) ∧ Drawn (w.drewN q) w') := Lib.hid fun q => by
        have h := HL.out.2.2.1 l[j] (List.getElem_mem hjl)
        rw [hx] at h
        refine (isName_any x T ev (w.drewN q) HL.out.2.2.2.1 (by unfold maxLen; omega)).mono ?_
        rintro e w' ⟨rfl, hd⟩
        exact ⟨by rw [h.1], hd⟩
      clear hx
      go_wp2_with (go_at_call 46; refine (C.out _).mono ?_; rintro e9 w9 ⟨rfl, q9, rfl⟩)
      go_roundg (n - (j + 1))
      case measure => omega
      case rel => exact ⟨j + 1, _, rfl, hlt, by first | rfl | simp, by first | rfl | exact World.drewN_drewN ..⟩
    · have hi' : ¬ (j : Int) < (n : Int) := by omega
      go_wp2_with fail
      go_ret
      exact ⟨rfl, _, rfl⟩

/-- A label, or two in order. -/
theorem rising_two (a b : ByteArray) (n : Nat) (g o cap : Nat) (w : World) (hE : ErrAt T ev w) (hn : n = 1 ∨ n = 2) (h0 : w.cell? ⟨g, o, none⟩ = some (.string a)) (h1 : n = 2 → w.cell? ⟨g, o + 1, none⟩ = some (.string b)) (ha : nameB a = true ∧ a.size ≤ 100) (hb : nameB b = true ∧ b.size ≤ 100) (hab : a = ⟨#[109]⟩ ∧ b = ⟨#[110]⟩) (hc : n ≤ cap) (hm : cap ≤ maxLen) :
    Calls Tryd.prog 37 #[.slice (some ⟨g, o, none⟩) n cap] w fun e w' => e = .returned (.bool true) ∧ Drawn w w' := by
  have CA : Hid (∀ q, Calls Tryd.prog 45 #[.slice (some ⟨g, o, none⟩) n cap] (w.drewN q) fun e w' => e = .returned (.bool true) ∧ Drawn (w.drewN q) w') := Lib.hid fun q => by
    rcases hn with rfl | rfl
    · exact allNames_ok T ev [a] g o cap _ hE (fun i hi => by match i, hi with | 0, _ => exact h0) (fun x hx => by rw [List.mem_singleton.1 hx]; exact ha) hc hm
    · exact allNames_ok T ev [a, b] g o cap _ hE (fun i hi => by match i, hi with | 0, _ => exact h0 | 1, _ => exact h1 rfl) (fun x hx => by simp only [List.mem_cons, List.not_mem_nil, or_false] at hx; rcases hx with rfl | rfl; exact ha; exact hb) hc hm
  obtain ⟨rfl, rfl⟩ := hab
  clear ha hb
  have hnb : 1 ≤ n ∧ n ≤ 2 := by omega
  obtain ⟨hn1, hn2⟩ := hnb
  have H1 := Lib.hid h1
  unfold maxLen at hm
  clear hn h1 hE
  go_enter Tryd.func37, Tryd.ntmps37
  go_wp2_with fail
  go_loopg [6] n (fun gk i wr => ∃ j q, gk = n - j ∧ j ≤ n ∧ i = .int .i64 j ∧ wr = w.drewN q)
  case atStart => exact ⟨0, 0, rfl, Nat.zero_le _, rfl, rfl⟩
  case round =>
    obtain ⟨j, q, rfl, hj, rfl, rfl⟩ := hrel
    by_cases hlt : j < n
    · have hi' : (j : Int) < (n : Int) := by omega
      have hj2 : j = 0 ∨ j = 1 := by omega
      rcases hj2 with rfl | rfl
      · go_wp2_with fail
        go_quiet (fail)
        go_wp2_with fail
        go_roundg (n - 1)
        case measure => omega
        case rel => exact ⟨1, _, rfl, hlt, by first | rfl | simp, by first | rfl | exact World.drewN_drewN ..⟩
      · have h1 := H1.out (by omega)
        have zlt : Op.bytesLess (⟨#[109]⟩ : ByteArray).toList (⟨#[110]⟩ : ByteArray).toList = true := by rw [Lib.toList_data, Lib.toList_data]; decide
        have hn0 : 0 < n := by omega
        have hn01 : (1 : Int) < (n : Int) := by omega
        have hn02 : 1 < n := by omega
        have hw : IntKind.i64.wrap 0 = 0 := by rw [IntKind.wrap_i64]; rfl
        go_wp2_with fail
        go_quiet (fail)
        clear hw
        go_wp2_with fail
        go_roundg (n - 2)
        case measure => omega
        case rel => exact ⟨2, _, rfl, hlt, by first | rfl | simp, by first | rfl | exact World.drewN_drewN ..⟩
    · have hi' : ¬ (j : Int) < (n : Int) := by omega
      go_wp2_with (go_at_call 45; refine (CA.out _).mono ?_; rintro e9 w9 ⟨rfl, q9, rfl⟩)
      go_ret
      exact ⟨rfl, _, by first | rfl | exact World.drewN_drewN ..⟩

/-- Two labels, not in order. -/
theorem rising_no (g o cap : Nat) (w : World) (h0 : w.cell? ⟨g, o, none⟩ = some (.string ⟨#[110]⟩)) (h1 : w.cell? ⟨g, o + 1, none⟩ = some (.string ⟨#[109]⟩)) :
    Calls Tryd.prog 37 #[.slice (some ⟨g, o, none⟩) 2 cap] w fun e w' => e = .returned (.bool false) ∧ Drawn w w' := by
  go_enter Tryd.func37, Tryd.ntmps37
  go_wp2_with fail
  go_loopg [6] 2 (fun gk i wr => ∃ j q, gk = 2 - j ∧ j ≤ 1 ∧ i = .int .i64 j ∧ wr = w.drewN q)
  case atStart => exact ⟨0, 0, rfl, Nat.zero_le _, rfl, rfl⟩
  case round =>
    obtain ⟨j, q, rfl, hj, rfl, rfl⟩ := hrel
    have hj2 : j = 0 ∨ j = 1 := by omega
    rcases hj2 with rfl | rfl
    · go_wp2_with fail
      go_quiet (fail)
      go_wp2_with fail
      go_roundg 1
      case measure => omega
      case rel => exact ⟨1, _, rfl, by omega, by first | rfl | simp, by first | rfl | exact World.drewN_drewN ..⟩
    · have zlt : Op.bytesLess (⟨#[110]⟩ : ByteArray).toList (⟨#[109]⟩ : ByteArray).toList = false := by rw [Lib.toList_data, Lib.toList_data]; decide
      have hw : IntKind.i64.wrap 0 = 0 := by rw [IntKind.wrap_i64]; rfl
      go_wp2_with fail
      go_quiet (fail)
      clear hw
      go_wp2_with fail
      go_ret
      exact ⟨rfl, _, by first | rfl | exact World.drewN_drewN ..⟩
/-- No label. -/
theorem rising_nil (x : Option Addr) (c : Nat) (w : World) :
    Calls Tryd.prog 37 #[.slice x 0 c] w fun e w' => e = .returned (.bool true) ∧ Drawn w w' := by
  have CA : Hid (∀ q, Calls Tryd.prog 45 #[.slice x 0 c] (w.drewN q) fun e w' => e = .returned (.bool true) ∧ Drawn (w.drewN q) w') := Lib.hid fun q => by
    go_enter Tryd.func45, Tryd.ntmps45
    go_wp2_with fail
    go_loopw [7] (fun i wr => i = .int .i64 0 ∧ wr = w.drewN q) (fun _ _ => 0)
    case atStart => exact ⟨rfl, rfl⟩
    case round =>
      obtain ⟨rfl, rfl⟩ := hrel
      go_wp2_with fail
      go_ret
      exact ⟨rfl, 0, rfl⟩
  go_enter Tryd.func37, Tryd.ntmps37
  go_wp2_with fail
  go_loopw [6] (fun i wr => i = .int .i64 0 ∧ wr = w.drewN 0) (fun _ _ => 0)
  case atStart => exact ⟨rfl, rfl⟩
  case round =>
    obtain ⟨rfl, rfl⟩ := hrel
    go_wp2_with (go_at_call 45; refine (CA.out _).mono ?_; rintro e9 w9 ⟨rfl, q9, rfl⟩)
    go_ret
    exact ⟨rfl, _, by first | rfl | exact World.drewN_drewN ..⟩

/-- A word: at "a". -/
theorem isWordT_a (w : World) (hE : ErrAt T ev w) : Calls Tryd.prog 36 #[.string ⟨#[97]⟩] w fun e w' => e = .returned (.bool true) ∧ Drawn w w' := by
  have C : Hid (Calls Tryd.prog 46 #[.string ⟨#[97]⟩] w fun e w' => e = .returned (.bool true) ∧ Drawn w w') := Lib.hid (by
    have := isName_any ⟨#[97]⟩ T ev w hE.1 (by decide)
    rwa [name_a] at this)
  clear hE
  go_enter Tryd.func36, Tryd.ntmps36
  go_wp2_with (go_at_call 46; refine C.out.mono ?_; rintro e9 w9 ⟨rfl, q9, rfl⟩)
  go_ret
  exact ⟨rfl, _, rfl⟩

/-- The shapes of types that there are here, and whether each fits. -/
def shapes : List (Int × ByteArray × Nat × List ByteArray × Bool × Bool) :=
  [(2, ⟨#[105, 110, 116]⟩, 0, [], false, true), (1, ⟨#[97]⟩, 0, [], false, true), (2, ⟨#[45, 62]⟩, 2, [], false, true), (3, ⟨#[]⟩, 2, [⟨#[109]⟩, ⟨#[110]⟩], false, true),
   (4, ⟨#[97]⟩, 1, [], false, true), (3, ⟨#[]⟩, 1, [⟨#[109]⟩], true, true), (3, ⟨#[]⟩, 1, [⟨#[109]⟩], false, true), (3, ⟨#[]⟩, 0, [], true, true), (3, ⟨#[]⟩, 2, [⟨#[110]⟩, ⟨#[109]⟩], false, false), (2, ⟨#[42]⟩, 1, [], false, false)]
/-- A type whose own shape is one of these. -/
def Shaped1 (t : Ty) (b : Bool) : Prop := ∃ k s args labels op, t = .mk k s args labels op ∧ (k, s, args.length, labels, op, b) ∈ shapes

section
variable (b o : Nat) (w : World) (xa xl : Option Addr) (ca cl : Nat)
set_option maxHeartbeats 400000 in
set_option maxRecDepth 100000 in
theorem fit_int (h0 : w.cell? ⟨b, o, none⟩ = some (.int .i64 2)) (h1 : w.cell? ⟨b, o + 1, none⟩ = some (.string ⟨#[105, 110, 116]⟩)) (h2 : w.cell? ⟨b, o + 2, none⟩ = some (.slice xa 0 ca)) (h3 : w.cell? ⟨b, o + 3, none⟩ = some (.slice xl 0 cl)) (h4 : w.cell? ⟨b, o + 4, none⟩ = some (.bool false)) :
    Calls Tryd.prog 28 #[.pointer (some ⟨b, o, none⟩)] w fun e w' => e = .returned (.bool true) ∧ Drawn w w' := by
  go_enter Tryd.func28, Tryd.ntmps28
  go_wp2_with fail
  go_ret
  exact ⟨rfl, 0, rfl⟩
set_option maxHeartbeats 400000 in
set_option maxRecDepth 100000 in
theorem fit_a (h0 : w.cell? ⟨b, o, none⟩ = some (.int .i64 1)) (h1 : w.cell? ⟨b, o + 1, none⟩ = some (.string ⟨#[97]⟩)) (h2 : w.cell? ⟨b, o + 2, none⟩ = some (.slice xa 0 ca)) (h3 : w.cell? ⟨b, o + 3, none⟩ = some (.slice xl 0 cl)) (h4 : w.cell? ⟨b, o + 4, none⟩ = some (.bool false)) (CW : Hid (∀ q, Calls Tryd.prog 36 #[.string ⟨#[97]⟩] (w.drewN q) fun e w' => e = .returned (.bool true) ∧ Drawn (w.drewN q) w')) :
    Calls Tryd.prog 28 #[.pointer (some ⟨b, o, none⟩)] w fun e w' => e = .returned (.bool true) ∧ Drawn w w' := by
  go_enter Tryd.func28, Tryd.ntmps28
  go_wp2_with (go_at_call 36; refine (CW.out 0).mono ?_; rintro e9 w9 ⟨rfl, q9, rfl⟩)
  go_ret
  exact ⟨rfl, _, by first | rfl | exact World.drewN_drewN ..⟩
set_option maxHeartbeats 400000 in
set_option maxRecDepth 100000 in
theorem fit_arrow (h0 : w.cell? ⟨b, o, none⟩ = some (.int .i64 2)) (h1 : w.cell? ⟨b, o + 1, none⟩ = some (.string ⟨#[45, 62]⟩)) (h2 : w.cell? ⟨b, o + 2, none⟩ = some (.slice xa 2 ca)) (h3 : w.cell? ⟨b, o + 3, none⟩ = some (.slice xl 0 cl)) (h4 : w.cell? ⟨b, o + 4, none⟩ = some (.bool false)) :
    Calls Tryd.prog 28 #[.pointer (some ⟨b, o, none⟩)] w fun e w' => e = .returned (.bool true) ∧ Drawn w w' := by
  go_enter Tryd.func28, Tryd.ntmps28
  go_wp2_with fail
  go_ret
  exact ⟨rfl, 0, rfl⟩
set_option maxHeartbeats 400000 in
set_option maxRecDepth 100000 in
theorem fit_mn (h0 : w.cell? ⟨b, o, none⟩ = some (.int .i64 3)) (h1 : w.cell? ⟨b, o + 1, none⟩ = some (.string ⟨#[]⟩)) (h2 : w.cell? ⟨b, o + 2, none⟩ = some (.slice xa 2 ca)) (h3 : w.cell? ⟨b, o + 3, none⟩ = some (.slice xl 2 cl)) (CR : Hid (∀ q, Calls Tryd.prog 37 #[.slice xl 2 cl] (w.drewN q) fun e w' => e = .returned (.bool true) ∧ Drawn (w.drewN q) w')) :
    Calls Tryd.prog 28 #[.pointer (some ⟨b, o, none⟩)] w fun e w' => e = .returned (.bool true) ∧ Drawn w w' := by
  go_enter Tryd.func28, Tryd.ntmps28
  go_wp2_with fail
  go_quiet (first | (go_at_call 37; refine (CR.out _).mono ?_; rintro _ _ ⟨rfl, q9, rfl⟩; exact ⟨rfl, _, (by rw [World.drewN_drewN])⟩))
  go_wp2_with fail
  go_ret
  exact ⟨rfl, _, by first | rfl | exact World.drewN_drewN ..⟩
set_option maxHeartbeats 400000 in
set_option maxRecDepth 100000 in
theorem fit_as (h0 : w.cell? ⟨b, o, none⟩ = some (.int .i64 4)) (h1 : w.cell? ⟨b, o + 1, none⟩ = some (.string ⟨#[97]⟩)) (h2 : w.cell? ⟨b, o + 2, none⟩ = some (.slice xa 1 ca)) (h3 : w.cell? ⟨b, o + 3, none⟩ = some (.slice xl 0 cl)) (h4 : w.cell? ⟨b, o + 4, none⟩ = some (.bool false)) (CW : Hid (∀ q, Calls Tryd.prog 36 #[.string ⟨#[97]⟩] (w.drewN q) fun e w' => e = .returned (.bool true) ∧ Drawn (w.drewN q) w')) :
    Calls Tryd.prog 28 #[.pointer (some ⟨b, o, none⟩)] w fun e w' => e = .returned (.bool true) ∧ Drawn w w' := by
  go_enter Tryd.func28, Tryd.ntmps28
  go_wp2_with (go_at_call 36; refine (CW.out 0).mono ?_; rintro e9 w9 ⟨rfl, q9, rfl⟩)
  go_ret
  exact ⟨rfl, _, by first | rfl | exact World.drewN_drewN ..⟩
set_option maxHeartbeats 400000 in
set_option maxRecDepth 100000 in
theorem fit_mo (h0 : w.cell? ⟨b, o, none⟩ = some (.int .i64 3)) (h1 : w.cell? ⟨b, o + 1, none⟩ = some (.string ⟨#[]⟩)) (h2 : w.cell? ⟨b, o + 2, none⟩ = some (.slice xa 1 ca)) (h3 : w.cell? ⟨b, o + 3, none⟩ = some (.slice xl 1 cl)) (CR : Hid (∀ q, Calls Tryd.prog 37 #[.slice xl 1 cl] (w.drewN q) fun e w' => e = .returned (.bool true) ∧ Drawn (w.drewN q) w')) :
    Calls Tryd.prog 28 #[.pointer (some ⟨b, o, none⟩)] w fun e w' => e = .returned (.bool true) ∧ Drawn w w' := by
  go_enter Tryd.func28, Tryd.ntmps28
  go_wp2_with fail
  go_quiet (first | (go_at_call 37; refine (CR.out _).mono ?_; rintro _ _ ⟨rfl, q9, rfl⟩; exact ⟨rfl, _, (by rw [World.drewN_drewN])⟩))
  go_wp2_with fail
  go_ret
  exact ⟨rfl, _, by first | rfl | exact World.drewN_drewN ..⟩
set_option maxHeartbeats 400000 in
set_option maxRecDepth 100000 in
theorem fit_m (h0 : w.cell? ⟨b, o, none⟩ = some (.int .i64 3)) (h1 : w.cell? ⟨b, o + 1, none⟩ = some (.string ⟨#[]⟩)) (h2 : w.cell? ⟨b, o + 2, none⟩ = some (.slice xa 1 ca)) (h3 : w.cell? ⟨b, o + 3, none⟩ = some (.slice xl 1 cl)) (CR : Hid (∀ q, Calls Tryd.prog 37 #[.slice xl 1 cl] (w.drewN q) fun e w' => e = .returned (.bool true) ∧ Drawn (w.drewN q) w')) :
    Calls Tryd.prog 28 #[.pointer (some ⟨b, o, none⟩)] w fun e w' => e = .returned (.bool true) ∧ Drawn w w' := by
  go_enter Tryd.func28, Tryd.ntmps28
  go_wp2_with fail
  go_quiet (first | (go_at_call 37; refine (CR.out _).mono ?_; rintro _ _ ⟨rfl, q9, rfl⟩; exact ⟨rfl, _, (by rw [World.drewN_drewN])⟩))
  go_wp2_with fail
  go_ret
  exact ⟨rfl, _, by first | rfl | exact World.drewN_drewN ..⟩
set_option maxHeartbeats 400000 in
set_option maxRecDepth 100000 in
theorem fit_e (h0 : w.cell? ⟨b, o, none⟩ = some (.int .i64 3)) (h1 : w.cell? ⟨b, o + 1, none⟩ = some (.string ⟨#[]⟩)) (h2 : w.cell? ⟨b, o + 2, none⟩ = some (.slice xa 0 ca)) (h3 : w.cell? ⟨b, o + 3, none⟩ = some (.slice xl 0 cl)) (CR : Hid (∀ q, Calls Tryd.prog 37 #[.slice xl 0 cl] (w.drewN q) fun e w' => e = .returned (.bool true) ∧ Drawn (w.drewN q) w')) :
    Calls Tryd.prog 28 #[.pointer (some ⟨b, o, none⟩)] w fun e w' => e = .returned (.bool true) ∧ Drawn w w' := by
  go_enter Tryd.func28, Tryd.ntmps28
  go_wp2_with fail
  go_quiet (first | (go_at_call 37; refine (CR.out _).mono ?_; rintro _ _ ⟨rfl, q9, rfl⟩; exact ⟨rfl, _, (by rw [World.drewN_drewN])⟩))
  go_wp2_with fail
  go_ret
  exact ⟨rfl, _, by first | rfl | exact World.drewN_drewN ..⟩
set_option maxHeartbeats 400000 in
set_option maxRecDepth 100000 in
theorem fit_nm (h0 : w.cell? ⟨b, o, none⟩ = some (.int .i64 3)) (h1 : w.cell? ⟨b, o + 1, none⟩ = some (.string ⟨#[]⟩)) (h2 : w.cell? ⟨b, o + 2, none⟩ = some (.slice xa 2 ca)) (h3 : w.cell? ⟨b, o + 3, none⟩ = some (.slice xl 2 cl)) (CR : Hid (∀ q, Calls Tryd.prog 37 #[.slice xl 2 cl] (w.drewN q) fun e w' => e = .returned (.bool false) ∧ Drawn (w.drewN q) w')) :
    Calls Tryd.prog 28 #[.pointer (some ⟨b, o, none⟩)] w fun e w' => e = .returned (.bool false) ∧ Drawn w w' := by
  go_enter Tryd.func28, Tryd.ntmps28
  go_wp2_with fail
  go_quiet (first | (go_at_call 37; refine (CR.out _).mono ?_; rintro _ _ ⟨rfl, q9, rfl⟩; exact ⟨rfl, _, (by rw [World.drewN_drewN])⟩))
  go_wp2_with fail
  go_ret
  exact ⟨rfl, _, by first | rfl | exact World.drewN_drewN ..⟩
set_option maxHeartbeats 400000 in
set_option maxRecDepth 100000 in
theorem fit_star (h0 : w.cell? ⟨b, o, none⟩ = some (.int .i64 2)) (h1 : w.cell? ⟨b, o + 1, none⟩ = some (.string ⟨#[42]⟩)) (h2 : w.cell? ⟨b, o + 2, none⟩ = some (.slice xa 1 ca)) (h3 : w.cell? ⟨b, o + 3, none⟩ = some (.slice xl 0 cl)) (h4 : w.cell? ⟨b, o + 4, none⟩ = some (.bool false)) :
    Calls Tryd.prog 28 #[.pointer (some ⟨b, o, none⟩)] w fun e w' => e = .returned (.bool false) ∧ Drawn w w' := by
  go_enter Tryd.func28, Tryd.ntmps28
  go_wp2_with fail
  go_ret
  exact ⟨rfl, 0, rfl⟩
end

theorem fitsType_any (S : Nat → Prop) (b o : Nat) (w : World) (t : Ty) (r : Bool) (hE : ErrAt T ev w) (ht : TyAt w S b o t) (hs : Shaped1 t r) :
    Calls Tryd.prog 28 #[.pointer (some ⟨b, o, none⟩)] w fun e w' => e = .returned (.bool r) ∧ Drawn w w' := by
  obtain ⟨k, s, args, labels, op, rfl, hm⟩ := hs
  obtain ⟨hb, h0, h1, h2, h3, h4, ha, hl, hss, hls⟩ := ht
  rename_i va vl ga oa gl ol
  obtain ⟨xa, ca, rfl, hsa⟩ := ha.shape
  obtain ⟨xl, cl, rfl, hsl⟩ := hl.shape
  obtain ⟨n, hn⟩ : ∃ n, args.length = n := ⟨_, rfl⟩
  rw [hn] at hm h2
  have CW : Hid (∀ q, Calls Tryd.prog 36 #[.string ⟨#[97]⟩] (w.drewN q) fun e w' => e = .returned (.bool true) ∧ Drawn (w.drewN q) w') := Lib.hid fun q => isWordT_a T ev _ hE
  simp only [shapes, List.mem_cons, Prod.mk.injEq, List.not_mem_nil, or_false] at hm
  rcases hm with ⟨rfl, rfl, rfl, rfl, rfl, rfl⟩ | ⟨rfl, rfl, rfl, rfl, rfl, rfl⟩ | ⟨rfl, rfl, rfl, rfl, rfl, rfl⟩ | ⟨rfl, rfl, rfl, rfl, rfl, rfl⟩ | ⟨rfl, rfl, rfl, rfl, rfl, rfl⟩ | ⟨rfl, rfl, rfl, rfl, rfl, rfl⟩ | ⟨rfl, rfl, rfl, rfl, rfl, rfl⟩ | ⟨rfl, rfl, rfl, rfl, rfl, rfl⟩ | ⟨rfl, rfl, rfl, rfl, rfl, rfl⟩ | ⟨rfl, rfl, rfl, rfl, rfl, rfl⟩
  · exact fit_int b o w xa xl ca cl h0 h1 h2 h3 h4
  · exact fit_a b o w xa xl ca cl h0 h1 h2 h3 h4 CW
  · exact fit_arrow b o w xa xl ca cl h0 h1 h2 h3 h4
  · obtain ⟨rfl, hc1, hc2, _⟩ := hsl (by decide)
    exact fit_mn b o w xa _ ca cl h0 h1 h2 h3 (Lib.hid fun q => rising_two T ev ⟨#[109]⟩ ⟨#[110]⟩ 2 gl ol cl _ hE (by omega) (hls 0 (by decide)) (fun _ => hls 1 (by decide)) ⟨name_m, by decide⟩ ⟨name_n, by decide⟩ ⟨rfl, rfl⟩ hc1 hc2)
  · exact fit_as b o w xa xl ca cl h0 h1 h2 h3 h4 CW
  · obtain ⟨rfl, hc1, hc2, _⟩ := hsl (by decide)
    exact fit_mo b o w xa _ ca cl h0 h1 h2 h3 (Lib.hid fun q => rising_two T ev ⟨#[109]⟩ ⟨#[110]⟩ 1 gl ol cl _ hE (by omega) (hls 0 (by decide)) (fun h => by omega) ⟨name_m, by decide⟩ ⟨name_n, by decide⟩ ⟨rfl, rfl⟩ hc1 hc2)
  · obtain ⟨rfl, hc1, hc2, _⟩ := hsl (by decide)
    exact fit_m b o w xa _ ca cl h0 h1 h2 h3 (Lib.hid fun q => rising_two T ev ⟨#[109]⟩ ⟨#[110]⟩ 1 gl ol cl _ hE (by omega) (hls 0 (by decide)) (fun h => by omega) ⟨name_m, by decide⟩ ⟨name_n, by decide⟩ ⟨rfl, rfl⟩ hc1 hc2)
  · exact fit_e b o w xa xl ca cl h0 h1 h2 h3 (Lib.hid fun q => rising_nil xl cl _)
  · obtain ⟨rfl, _, _, _⟩ := hsl (by decide)
    exact fit_nm b o w xa _ ca cl h0 h1 h2 h3 (Lib.hid fun q => rising_no gl ol cl _ (hls 0 (by decide)) (hls 1 (by decide)))
  · exact fit_star b o w xa xl ca cl h0 h1 h2 h3 h4
end
end Go.Proofs.YtoopndgdaiblpaaDoor
