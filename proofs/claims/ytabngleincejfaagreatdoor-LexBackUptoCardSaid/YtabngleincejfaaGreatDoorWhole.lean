/- Lex at any text of which it is known what skip and token come to at each place. -/
import Derived.Test.YtabngleincejfaaGreatDoorOpen
import Derived.Test.YtabngleincejfaaGreatDoorBad
namespace Go.Proofs.YtabngleincejfaaGreatDoor
open Go.ChangeShapes Go.WideShapes Go.ChangeAt Go.RowKit

def TellsL (E : Errs) (s : ByteArray) (i : Nat) (k n : Int) (t : ByteArray) (e : Nat) : Prop := ∀ W, EnvL E W → Calls Tryz.prog 25 #[.string s, .int .i64 i] W fun e' w' => e' = .returned (tokenV k n t (e : Int) .nilIface) ∧ Below W.heap.size W w'
def FailsL (E : Errs) (s : ByteArray) (i : Nat) : Prop := ∀ W, EnvL E W → Calls Tryz.prog 25 #[.string s, .int .i64 i] W fun e' w' => (∃ k n t e T v, e' = .returned (tokenV k n t e (.iface T v))) ∧ Below W.heap.size W w'

/-- From a place on a text is these tokens. -/
inductive ChainL (E : Errs) (s : ByteArray) : Nat → List Tk → Prop
  | done {i : Nat} (h : SkipR s i (some s.size)) : ChainL E s i []
  | tok {i j e : Nat} {k n : Int} {t : ByteArray} {l : List Tk} (h : SkipR s i (some j)) (hj : j < s.size) (ht : TellsL E s j k n t e) (he : j < e) (hs : e ≤ s.size) (r : ChainL E s e l) : ChainL E s i (⟨k, j, n, t⟩ :: l)

/-- From a place on a text is tokens up to what isn't any. -/
inductive BadL (E : Errs) (s : ByteArray) : Nat → Prop
  | note {i : Nat} (h : SkipR s i none) : BadL E s i
  | here {i j : Nat} (h : SkipR s i (some j)) (hj : j < s.size) (ht : FailsL E s j) : BadL E s i
  | tok {i j e : Nat} {k n : Int} {t : ByteArray} (h : SkipR s i (some j)) (hj : j < s.size) (ht : TellsL E s j k n t e) (he : j < e) (hs : e ≤ s.size) (r : BadL E s e) : BadL E s i

set_option maxHeartbeats 2000000 in
set_option maxRecDepth 100000 in
theorem tokens_chainL (E : Errs) (s : ByteArray) (l : List Tk) (w : World) (hE : EnvL E w) (hs : s.size ≤ 65536) (hc : ChainL E s 0 l) :
    Calls Tryz.prog 15 #[.string s] w (Toks w (l ++ [endTk s])) := by
  obtain ⟨i0, hi, hz0, hz1, hz2⟩ := info_parts tokInfo
  have hw := hE.at_
  have HE := Lib.hid hE
  have HC := Lib.hid hc
  clear hc hE
  go_enter Tryz.func15, Tryz.ntmps15
  go_wp2
  go_loopw [4, 5] (fun v x wr => ∃ (i : Nat) (d r : List Tk), i ≤ s.size ∧ d.length ≤ i ∧ x = .int .i64 i ∧ wr.ownsRow w.heap.size 25 4 v d.length (cellsOf d) ∧ ChainL E s i r ∧ l = d ++ r ∧ Below w.heap.size w wr) (fun _ x _ => s.size - (intOf x).toNat)
  case atStart => exact ⟨0, [], l, by omega, by simp, rfl, World.ownsRow_nil _ _ _ _, HC.out, rfl, Below.refl _ _⟩
  case round =>
    obtain ⟨i, d, r, hin, hdl, rfl, hown, hch, hl, hB⟩ := hrel
    have HL := Lib.hid hl
    have E1 := HE.out.below hB hw
    clear hl
    cases hch with
    | done h =>
      have H := Lib.hid (skip_any E s i _ _ E1 hs h)
      clear h
      go_wp2_with fail
      refine H.out.mono ?_
      rintro e w1 ⟨hsk, hB1⟩
      obtain rfl := hsk
      have hB2 := hB.trans (hB1.mono hB.size)
      have hown1 := (own_below hown hB1).alloc (.cells #[.int .i64 0, .int .i64 s.size, .int .i64 0, .string ⟨#[]⟩] 25)
      have HO := Lib.hid hown1
      clear hown hown1
      go_wp2_with (at_builtin; refine wpList_append_own _ rfl (.tmp 27) (.tmp 30) _ rfl w.heap.size 25 i0 _ 4 40 Tryz.underlying22 hi hz0 hz1 hz2 rfl (by omega) u4 d.length (cellsOf d) rfl HO.out ⟨w1.heap.size, 0, none⟩ 1 1 (endTk s).cells rfl rfl (new_cells w1 (endTk s)) (cells_one' _) (by unfold maxLen; omega) (by omega) (by have := hB2.size; simp; omega) ?_; intro v' w2 hown2 hg2 _)
      go_ret2
      have hld : l = d := by simpa using HL.out
      subst hld
      refine ⟨v', rfl, ?_, ((hB2.alloc hB2.size _).grown hg2 (by have := hB2.size; simp; omega) (fun k hk => (HO.out.lt k hk).1))⟩
      rw [cellsOf_snoc, List.length_append]
      exact hown2
    | tok h hj ht he hs2 rr =>
      rename_i j e k n t r2
      have hij : i ≤ j := h.to_le.1
      have H := Lib.hid (skip_any E s i _ _ E1 hs h)
      have HT := Lib.hid ht
      have RR := Lib.hid rr
      have hne : ((j : Int) == (s.size : Int)) = false := by simp; omega
      clear h ht rr
      go_wp2_with fail
      refine H.out.mono ?_
      rintro e' w1 ⟨hsk, hB1⟩
      obtain rfl := hsk
      have hB2 := hB.trans (hB1.mono hB.size)
      have E2 := E1.below hB1 E1.at_
      have hown1 := own_below hown hB1
      clear hown
      go_wp2_with fail
      refine (HT.out _ E2).mono ?_
      rintro e' w3 ⟨rfl, hB3⟩
      have hB4 := hB2.trans (hB3.mono hB2.size)
      have hown3 := own_below hown1 hB3
      unfold tokenV
      clear hown1
      have hownA := (hown3.alloc (.cells #[.int .i64 k, .int .i64 j, .int .i64 n, .string t] 25)).alloc (.cells #[.int .i64 k, .int .i64 j, .int .i64 n, .string t] 25)
      have HO := Lib.hid hownA
      have hsz3 := hB4.size
      have hnc : ∀ q u, (Tk.mk k j n t).cells[q]? = some u → ((w3.alloc (.cells #[.int .i64 k, .int .i64 j, .int .i64 n, .string t] 25)).alloc (.cells #[.int .i64 k, .int .i64 j, .int .i64 n, .string t] 25)).cell? ((⟨w3.heap.size + 1, 0, none⟩ : Addr).add q) = some u := by
        have := new_cells (w3.alloc (.cells #[.int .i64 k, .int .i64 j, .int .i64 n, .string t] 25)) (Tk.mk k j n t)
        rw [show (w3.alloc (.cells #[.int .i64 k, .int .i64 j, .int .i64 n, .string t] 25)).heap.size = w3.heap.size + 1 from by simp] at this
        exact this
      have HN := Lib.hid hnc
      clear hown3 hownA hnc
      go_wp2_with (at_builtin; refine wpList_append_own _ rfl (.tmp 48) (.tmp 50) _ rfl w.heap.size 25 i0 _ 4 40 Tryz.underlying22 hi hz0 hz1 hz2 rfl (by omega) u4 d.length (cellsOf d) rfl HO.out ⟨w3.heap.size + 1, 0, none⟩ 1 1 (Tk.mk k j n t).cells rfl rfl HN.out (cells_one' _) (by unfold maxLen; omega) (by omega) (by simp; omega) ?_; intro v' w5 hown5 hg5 _)
      have hBA : Below w.heap.size w ((w3.alloc (.cells #[.int .i64 k, .int .i64 j, .int .i64 n, .string t] 25)).alloc (.cells #[.int .i64 k, .int .i64 j, .int .i64 n, .string t] 25)) := (hB4.alloc hsz3 _).alloc (by simp; omega) _
      have hB5 := hBA.grown hg5 (by simp; omega) (fun q hq => (HO.out.lt q hq).1)
      go_roundw
      case rel => exact ⟨e, d ++ [⟨k, j, n, t⟩], r2, hs2, by simp; omega, rfl, by rw [cellsOf_snoc, List.length_append]; exact hown5, RR.out, by rw [HL.out]; simp, hB5⟩
      case measure => simp [intOf]; omega
set_option maxHeartbeats 2000000 in
set_option maxRecDepth 100000 in
theorem tokens_badL (E : Errs) (s : ByteArray) (w : World) (hE : EnvL E w) (hs : s.size ≤ 65536) (hc : BadL E s 0) :
    Calls Tryz.prog 15 #[.string s] w (Faulty w) := by
  obtain ⟨i0, hi, hz0, hz1, hz2⟩ := info_parts tokInfo
  have hw := hE.at_
  have HE := Lib.hid hE
  have HC := Lib.hid hc
  clear hc hE
  go_enter Tryz.func15, Tryz.ntmps15
  go_wp2
  go_loopw [4, 5] (fun v x wr => ∃ (i : Nat) (d : List Tk), i ≤ s.size ∧ d.length ≤ i ∧ x = .int .i64 i ∧ wr.ownsRow w.heap.size 25 4 v d.length (cellsOf d) ∧ BadL E s i ∧ Below w.heap.size w wr) (fun _ x _ => s.size - (intOf x).toNat)
  case atStart => exact ⟨0, [], by omega, by simp, rfl, World.ownsRow_nil _ _ _ _, HC.out, Below.refl _ _⟩
  case round =>
    obtain ⟨i, d, hin, hdl, rfl, hown, hch, hB⟩ := hrel
    have E1 := HE.out.below hB hw
    cases hch with
    | note h =>
      have H := Lib.hid (skip_any E s i _ _ E1 hs h)
      clear h hown
      go_wp2_with fail
      refine H.out.mono ?_
      rintro e' w1 ⟨hsk, hB1⟩
      obtain ⟨j, rfl⟩ := hsk
      have hB2 := hB.trans (hB1.mono hB.size)
      have hsz := hB2.size
      go_wp2_with fail
      go_ret2
      refine ⟨_, w1.heap.size, (j : Int), rfl, ?_, ?_⟩
      · simp
      · exact hB2.alloc hsz _
    | here h hj ht =>
      rename_i j
      have H := Lib.hid (skip_any E s i _ _ E1 hs h)
      have HT := Lib.hid ht
      have hne : ((j : Int) == (s.size : Int)) = false := by simp; omega
      clear h ht hown
      go_wp2_with fail
      refine H.out.mono ?_
      rintro e' w1 ⟨hsk, hB1⟩
      obtain rfl := hsk
      have hB2 := hB.trans (hB1.mono hB.size)
      have F2 := E1.below hB1 E1.at_
      go_wp2_with fail
      refine (HT.out _ F2).mono ?_
      rintro e' w3 ⟨⟨k, n, t, e, T, v, rfl⟩, hB3⟩
      have hB4 := hB2.trans (hB3.mono hB2.size)
      have hsz := hB4.size
      unfold tokenV
      go_wp2_with fail
      go_ret2
      refine ⟨_, w3.heap.size + 1, (j : Int), rfl, ?_, ?_⟩
      · simp
      · exact (hB4.alloc hsz _).alloc (by simp; omega) _
    | tok h hj ht he hs2 rr =>
      rename_i j e k n t
      have hij : i ≤ j := h.to_le.1
      have H := Lib.hid (skip_any E s i _ _ E1 hs h)
      have HT := Lib.hid ht
      have RR := Lib.hid rr
      have hne : ((j : Int) == (s.size : Int)) = false := by simp; omega
      clear h ht rr
      go_wp2_with fail
      refine H.out.mono ?_
      rintro e' w1 ⟨hsk, hB1⟩
      obtain rfl := hsk
      have hB2 := hB.trans (hB1.mono hB.size)
      have E2 := E1.below hB1 E1.at_
      have hown1 := own_below hown hB1
      clear hown
      go_wp2_with fail
      refine (HT.out _ E2).mono ?_
      rintro e' w3 ⟨rfl, hB3⟩
      have hB4 := hB2.trans (hB3.mono hB2.size)
      have hown3 := own_below hown1 hB3
      unfold tokenV
      clear hown1
      have hownA := (hown3.alloc (.cells #[.int .i64 k, .int .i64 j, .int .i64 n, .string t] 25)).alloc (.cells #[.int .i64 k, .int .i64 j, .int .i64 n, .string t] 25)
      have HO := Lib.hid hownA
      have hsz3 := hB4.size
      have hnc : ∀ q u, (Tk.mk k j n t).cells[q]? = some u → ((w3.alloc (.cells #[.int .i64 k, .int .i64 j, .int .i64 n, .string t] 25)).alloc (.cells #[.int .i64 k, .int .i64 j, .int .i64 n, .string t] 25)).cell? ((⟨w3.heap.size + 1, 0, none⟩ : Addr).add q) = some u := by
        have := new_cells (w3.alloc (.cells #[.int .i64 k, .int .i64 j, .int .i64 n, .string t] 25)) (Tk.mk k j n t)
        rw [show (w3.alloc (.cells #[.int .i64 k, .int .i64 j, .int .i64 n, .string t] 25)).heap.size = w3.heap.size + 1 from by simp] at this
        exact this
      have HN := Lib.hid hnc
      clear hown3 hownA hnc
      go_wp2_with (at_builtin; refine wpList_append_own _ rfl (.tmp 48) (.tmp 50) _ rfl w.heap.size 25 i0 _ 4 40 Tryz.underlying22 hi hz0 hz1 hz2 rfl (by omega) u4 d.length (cellsOf d) rfl HO.out ⟨w3.heap.size + 1, 0, none⟩ 1 1 (Tk.mk k j n t).cells rfl rfl HN.out (cells_one' _) (by unfold maxLen; omega) (by omega) (by simp; omega) ?_; intro v' w5 hown5 hg5 _)
      have hBA : Below w.heap.size w ((w3.alloc (.cells #[.int .i64 k, .int .i64 j, .int .i64 n, .string t] 25)).alloc (.cells #[.int .i64 k, .int .i64 j, .int .i64 n, .string t] 25)) := (hB4.alloc hsz3 _).alloc (by simp; omega) _
      have hB5 := hBA.grown hg5 (by simp; omega) (fun q hq => (HO.out.lt q hq).1)
      go_roundw
      case rel => exact ⟨e, d ++ [⟨k, j, n, t⟩], hs2, by simp; omega, rfl, by rw [cellsOf_snoc, List.length_append]; exact hown5, RR.out, hB5⟩
      case measure => simp [intOf]; omega

theorem lex_chainL (E : Errs) (s : ByteArray) (l : List Tk) (w : World) (hE : EnvL E w) (hs : s.size ≤ 65536) (hc : ChainL E s 0 l) :
    Calls Tryz.prog 6 #[.string s] w (Lexed w (l ++ [endTk s])) := by
  have T := Lib.hid (tokens_chainL E s l w hE hs hc)
  have hs1 : (s.size : Int) ≤ 65536 := by omega
  clear hc hE
  go_enter Tryz.func6, Tryz.ntmps6
  go_wp2_with fail
  refine T.out.mono ?_
  rintro e w1 ⟨v, rfl, hown, hB⟩
  have HO := Lib.hid hown
  clear hown
  go_wp2_with (go_at_call 16; refine (as_nil _ _).mono ?_; rintro e w' ⟨rfl, rfl⟩)
  go_ret3
  exact ⟨v, rfl, HO.out.alloc _, hB.alloc hB.size _⟩
theorem lex_badL (E : Errs) (s : ByteArray) (w : World) (hE : EnvL E w) (hs : s.size ≤ 65536) (hc : BadL E s 0) :
    Calls Tryz.prog 6 #[.string s] w fun e w' => (∃ v x, e = .returned (.tuple #[v, x, .int .i64 5])) ∧ Below w.heap.size w w' := by
  have T := Lib.hid (tokens_badL E s w hE hs hc)
  have hs1 : (s.size : Int) ≤ 65536 := by omega
  have hf := hE.at_
  have HF := Lib.hid hE.two
  clear hc hE
  go_enter Tryz.func6, Tryz.ntmps6
  go_wp2_with fail
  refine T.out.mono ?_
  rintro e w1 ⟨v, N, x, rfl, hx, hB⟩
  have HX := Lib.hid hx
  have F1 := Lib.hid (HF.out.below hB hf)
  have hsz := hB.size
  clear hx
  go_wp2_with fail
  refine (lex_as N w1 F1.out.et).mono ?_
  rintro e w2 ⟨rfl, hc, hB2⟩
  have hN := (hB2.cell (p := ⟨N, 0, none⟩) (cellB HX.out)).trans HX.out
  have hB3 := hB.trans (hB2.mono hsz)
  have HB := Lib.hid hB3
  clear hB hB2 hB3 HF F1
  go_wp2_with fail
  go_quiet (fail)
  go_wp2
  go_ret3
  exact ⟨⟨_, _, rfl⟩, drewN_below HB.out _⟩
end Go.Proofs.YtabngleincejfaaGreatDoor
