/- What a text between two quotes tells: content, and token at a quote. -/
import Derived.Test.YtabngleincejfaaGreatDoorChain
import Derived.Lib.Builder
namespace Go.Proofs.YtabngleincejfaaGreatDoor
open Go.ChangeShapes Go.WideShapes Go.ChangeAt Go.RowKit

/-- What a byte behind a backslash tells. -/
def toldB (c d : UInt8) : Prop := (c = 110 ∧ d = 10) ∨ ((c = 34 ∨ c = 92) ∧ d = c)
theorem u8_eq (c d : UInt8) : ((c.toNat : Int) == (d.toNat : Int)) = decide (c = d) := by
  by_cases h : c = d
  · subst h; simp
  · rw [decide_eq_false h, beq_eq_false_iff_ne]
    intro e; exact h (UInt8.toNat_inj.1 (by omega))

theorem escaped_yes (c d : UInt8) (w : World) (h : toldB c d) : Calls Tryz.prog 62 #[.int .u8 (c.toNat : Int)] w fun e w' => e = .returned (.tuple #[.int .u8 (d.toNat : Int), .bool true]) ∧ w = w' := by
  rcases h with ⟨rfl, rfl⟩ | ⟨rfl | rfl, rfl⟩
  all_goals
    go_enter Tryz.func62, Tryz.ntmps62
    go_wp2
    go_ret2
    exact ⟨rfl, rfl⟩

/-- From a place on the bytes tell these, up to a quote; behind it the text goes on at e. -/
inductive Dec (s : ByteArray) (e : Nat) : Nat → List UInt8 → Prop
  | close {p : Nat} (hp : p < s.size) (h : s[p] = 34) (he : e = p + 1) : Dec s e p []
  | esc {p : Nat} {d : UInt8} {l : List UInt8} (hp : p + 1 < s.size) (h : s[p] = 92) (ht : toldB s[p + 1] d) (r : Dec s e (p + 2) l) : Dec s e p (d :: l)
  | plain {p : Nat} {l : List UInt8} (hp : p < s.size) (h1 : s[p] ≠ 34) (h2 : s[p] ≠ 92) (r : Dec s e (p + 1) l) : Dec s e p (s[p] :: l)

abbrev HeldC (B : Nat) (l : List UInt8) (w : World) : Prop := Lib.IsBuilder 52 5 B B (Lib.byteCells l) w
theorem cellsC_snoc (l : List UInt8) (c : UInt8) : Lib.byteCells l ++ [.int .u8 (c.toNat : Int)] = Lib.byteCells (l ++ [c]) := by rw [Lib.byteCells_append]; rfl

set_option maxHeartbeats 2000000 in
set_option maxRecDepth 100000 in
theorem content_ok (s : ByteArray) (i e : Nat) (out : List UInt8) (w : World) (hs : s.size ≤ 65536) (hd : Dec s e i out) :
    Calls Tryz.prog 45 #[.string s, .int .i64 i] w fun e' w' => e' = .returned (.tuple #[.string ⟨out.toArray⟩, .int .i64 (e : Int), .nilIface]) ∧ Below w.heap.size w w' := by
  have HD := Lib.hid hd
  have hip : i ≤ s.size := by cases hd <;> omega
  clear hd
  go_enter Tryz.func45, Tryz.ntmps45
  go_wp2
  go_loopw [1] (fun x wr => ∃ (p : Nat) (d r : List UInt8), p ≤ s.size ∧ d.length ≤ p ∧ x = .int .i64 p ∧ HeldC w.heap.size d wr ∧ Dec s e p r ∧ out = d ++ r ∧ Below w.heap.size w wr) (fun x _ => s.size - (intOf x).toNat)
  case atStart => exact ⟨i, [], out, hip, by simp, rfl, Lib.fresh_isBuilder _ _ _, HD.out, rfl, (Below.refl _ _).alloc (Nat.le_refl _) _⟩
  case round =>
    obtain ⟨p, d, r, hp, hdl, rfl, hb, hr, ho, hB⟩ := hrel
    have HO := Lib.hid ho
    have HB := Lib.hid hb
    clear ho hb
    cases hr with
    | close hp2 h he =>
      have t1 : ((s[p].toNat : Int) == 34) = true := by rw [h]; rfl
      have HEE := Lib.hid he
      have h34 := Lib.hid h
      clear h he
      go_wp2_with fail
      refine (Tryz.Builder_String_any w.heap.size w.heap.size d _ HB.out hB.size).mono ?_
      rintro e' w1 ⟨rfl, hB1⟩
      have hB2 := hB.trans hB1
      go_wp2_with fail
      go_ret3
      exact ⟨by rw [HO.out, HEE.out, List.append_nil]; simp, hB2⟩
    | esc hp2 h ht r2 => 
      rename_i d2 l2
      have t1 : ((s[p].toNat : Int) == 34) = false := by rw [h]; rfl
      have t2 : ((s[p].toNat : Int) == 92) = true := by rw [h]; rfl
      have t3 : ((p : Int) + 1 == (s.size : Int)) = false := by simp; omega
      have b1 : (p : Int) + 1 < (s.size : Int) := by omega
      have HT := Lib.hid ht
      have RR := Lib.hid r2
      clear h ht r2
      go_wp2_with fail
      refine (escaped_yes _ _ _ HT.out).mono ?_
      rintro e' w' ⟨rfl, rfl⟩
      go_wp2_with fail
      refine (Tryz.Builder_WriteByte w.heap.size w.heap.size _ _ _ HB.out (by rw [Lib.byteCells_length]; omega) hB.size).mono ?_
      rintro e' w1 ⟨rfl, hb1, hB1⟩
      have hB2 := hB.trans hB1
      rw [cellsC_snoc] at hb1
      have HB1 : HeldC w.heap.size (d ++ [d2]) w1 := .inr hb1
      clear hb1
      go_wp2_with fail
      go_roundw
      case rel => exact ⟨p + 2, d ++ [d2], _, by omega, by simp; omega, by go_num, HB1, RR.out, by rw [HO.out]; simp, hB2⟩
      case measure => simp [intOf]; omega
    | plain hp2 h1 h2 r2 =>
      have t1 : ((s[p].toNat : Int) == 34) = false := by
        have := u8_eq s[p] 34; rw [decide_eq_false h1] at this; exact this
      have t2 : ((s[p].toNat : Int) == 92) = false := by
        have := u8_eq s[p] 92; rw [decide_eq_false h2] at this; exact this
      have RR := Lib.hid r2
      clear h1 h2 r2
      go_wp2_with fail
      refine (Tryz.Builder_WriteByte w.heap.size w.heap.size _ _ _ HB.out (by rw [Lib.byteCells_length]; omega) hB.size).mono ?_
      rintro e' w1 ⟨rfl, hb1, hB1⟩
      have hB2 := hB.trans hB1
      rw [cellsC_snoc] at hb1
      have HB1 : HeldC w.heap.size (d ++ [s[p]]) w1 := .inr hb1
      clear hb1
      go_wp2_with fail
      go_roundw
      case rel => exact ⟨p + 1, d ++ [s[p]], _, by omega, by simp; omega, by go_num, HB1, RR.out, by rw [HO.out]; simp, hB2⟩
      case measure => simp [intOf]; omega

theorem token_text (s : ByteArray) (i e : Nat) (out : List UInt8) (hi : i < s.size) (w : World) (hs : s.size ≤ 65536) (h1 : sortF (s[i].toNat : Int) = 3) (hd : Dec s e (i + 1) out) :
    Calls Tryz.prog 25 #[.string s, .int .i64 i] w fun e' w' => e' = .returned (tokenV 4 0 ⟨out.toArray⟩ (e : Int) .nilIface) ∧ Below w.heap.size w w' := by
  have hS := sortOf_any (s[i].toNat : Int)
  rw [h1] at hS
  have SC := Lib.hid hS
  have c : ∀ W : World, Calls Tryz.prog 45 #[.string s, .int .i64 ((i : Int) + 1)] W fun e' w' => e' = .returned (.tuple #[.string ⟨out.toArray⟩, .int .i64 (e : Int), .nilIface]) ∧ Below W.heap.size W w' := fun W => by
    have := content_ok s (i + 1) e out W hs hd
    rwa [Int.natCast_add] at this
  have C := Lib.hid c
  have b1 : (i : Int) < (s.size : Int) := by omega
  generalize (⟨out.toArray⟩ : ByteArray) = t at *
  clear c hS h1 hd
  go_enter Tryz.func25, Tryz.ntmps25
  go_wp2_with (first | (go_at_call 30; refine (SC.out _).mono ?_; rintro e' w' ⟨rfl, rfl⟩))
  refine (C.out _).mono ?_
  rintro e' w1 ⟨rfl, hB⟩
  have hB' : Below (w.alloc tokObj).heap.size (w.alloc tokObj) w1 := hB
  obtain ⟨k0, k1, k2, k3, kf⟩ := tok_cells hB'
  have hBw : Below w.heap.size w w1 := ((Below.refl _ _).alloc (Nat.le_refl _) _).trans (hB'.mono (by simp))
  clear hB hB'
  go_wp2_with fail
  refine bodyPost_ret (v := tokenV 4 0 t (e : Int) .nilIface) (by simp [results, Tryz.results25, go_sem, tokenV, k0, k1, k2, k3]) rfl ⟨rfl, ?_⟩
  exact set4 hBw _ (Nat.le_refl _) _ _ _ _

/-- errors.As of no error. -/
theorem as_nil (t : Value) (w : World) : Calls Tryz.prog 16 #[.nilIface, t] w fun e w' => e = .returned (.bool false) ∧ w' = w := by
  go_enter Tryz.func16, Tryz.ntmps16
  go_wp2
  go_ret
  exact ⟨rfl, rfl⟩

/-- What Lex has behind it where all goes well. -/
def Lexed (w : World) (l : List Tk) (e : Ending) (w' : World) : Prop := ∃ v, e = .returned (.tuple #[v, .int .i64 0, .int .i64 0]) ∧ w'.ownsRow w.heap.size 25 4 v l.length (cellsOf l) ∧ Below w.heap.size w w'

theorem lex_chain (wv : Value) (s : ByteArray) (l : List Tk) (w : World) (hE : Env wv w) (hs : s.size ≤ 65536) (hc : Chain wv s 0 l) :
    Calls Tryz.prog 6 #[.string s] w (Lexed w (l ++ [endTk s])) := by
  have T := Lib.hid (tokens_chain wv s l w hE hs hc)
  have hs1 : (s.size : Int) ≤ 65536 := by omega
  clear hc hE
  go_enter Tryz.func6, Tryz.ntmps6
  go_wp2_with fail
  refine T.out.mono ?_
  rintro e w1 ⟨v, rfl, hown, hB⟩
  have HO := Lib.hid hown
  clear hown
  go_wp2_with (go_at_call 16; refine (as_nil _ _).mono ?_; rintro e w' ⟨rfl, rfl⟩)
  go_ret3
  exact ⟨v, rfl, HO.out.alloc _, hB.alloc hB.size _⟩
end Go.Proofs.YtabngleincejfaaGreatDoor
