/- Lex at a text of which the first tokens are known, and the next is a number that is too great. -/
import Derived.Test.YtabngleincejfaaGreatDoorGreat
import Derived.Test.YtabngleincejfaaGreatDoorContent
import Derived.OwnWalk
import Derived.Deep.QuietTactic
import Derived.BigQuiet
import Derived.Laws.OwnMore
import Derived.Outline
namespace Go.Proofs.YtabngleincejfaaGreatDoor
open Go.ChangeShapes Go.WideShapes Go.ChangeAt Go.RowKit

def Fails (tp : TypeId) (pv : Value) (T2 : TypeId) (v2 : Value) (s : ByteArray) (i : Nat) : Prop := ∀ W, Env2 tp pv T2 v2 W → Calls Tryz.prog 25 #[.string s, .int .i64 i] W fun e' w' => (∃ k n t e, e' = .returned (tokenV k n t e (.iface T2 v2))) ∧ Below W.heap.size W w'

/-- From a place on a text is tokens up to one that isn't any. -/
inductive Bad (wv : Value) (tp : TypeId) (pv : Value) (T2 : TypeId) (v2 : Value) (s : ByteArray) : Nat → Prop
  | here {i j : Nat} (h : SkipsTo wv s i j) (hij : i ≤ j) (hj : j < s.size) (ht : Fails tp pv T2 v2 s j) : Bad wv tp pv T2 v2 s i
  | tok {i j e : Nat} {k n : Int} {t : ByteArray} (h : SkipsTo wv s i j) (hij : i ≤ j) (hj : j < s.size) (ht : Tells wv s j k n t e) (he : j < e) (hs : e ≤ s.size) (r : Bad wv tp pv T2 v2 s e) : Bad wv tp pv T2 v2 s i

/-- What tokens has behind it there. -/
def Faulty (w : World) (e : Ending) (w' : World) : Prop := ∃ v N x, e = .returned (.tuple #[v, .iface 41 (.pointer (some ⟨N, 0, none⟩))]) ∧ w'.cell? ⟨N, 0, none⟩ = some (.int .i64 x) ∧ Below w.heap.size w w'

set_option maxHeartbeats 2000000 in
set_option maxRecDepth 100000 in
theorem tokens_bad (wv : Value) (tp : TypeId) (pv : Value) (T2 : TypeId) (v2 : Value) (s : ByteArray) (w : World) (hE : Env wv w) (hF : Env2 tp pv T2 v2 w) (hs : s.size ≤ 65536) (hc : Bad wv tp pv T2 v2 s 0) :
    Calls Tryz.prog 15 #[.string s] w (Faulty w) := by
  obtain ⟨i0, hi, hz0, hz1, hz2⟩ := info_parts tokInfo
  have hw := hE.wordAt
  have hf := hF.at_
  have HE := Lib.hid hE
  have HF := Lib.hid hF
  have HC := Lib.hid hc
  clear hc hE hF
  go_enter Tryz.func15, Tryz.ntmps15
  go_wp2
  go_loopw [4, 5] (fun v x wr => ∃ (i : Nat) (d : List Tk), i ≤ s.size ∧ d.length ≤ i ∧ x = .int .i64 i ∧ wr.ownsRow w.heap.size 25 4 v d.length (cellsOf d) ∧ Bad wv tp pv T2 v2 s i ∧ Below w.heap.size w wr) (fun _ x _ => s.size - (intOf x).toNat)
  case atStart => exact ⟨0, [], by omega, by simp, rfl, World.ownsRow_nil _ _ _ _, HC.out, Below.refl _ _⟩
  case round =>
    obtain ⟨i, d, hin, hdl, rfl, hown, hch, hB⟩ := hrel
    have E1 := HE.out.below hB hw
    have F1 := Lib.hid (HF.out.below hB hf)
    cases hch with
    | here h hij hj ht =>
      rename_i j
      have H := Lib.hid (h _ E1)
      have HT := Lib.hid ht
      have hne : ((j : Int) == (s.size : Int)) = false := by simp; omega
      clear h ht hown
      go_wp2_with fail
      refine H.out.mono ?_
      rintro e' w1 ⟨rfl, hB1⟩
      have hB2 := hB.trans (hB1.mono hB.size)
      have F2 := F1.out.below hB1 F1.out.at_
      go_wp2_with fail
      refine (HT.out _ F2).mono ?_
      rintro e' w3 ⟨⟨k, n, t, e, rfl⟩, hB3⟩
      have hB4 := hB2.trans (hB3.mono hB2.size)
      have hsz := hB4.size
      unfold tokenV
      go_wp2_with fail
      go_ret2
      refine ⟨_, w3.heap.size + 1, (j : Int), rfl, ?_, ?_⟩
      · simp
      · exact (hB4.alloc hsz _).alloc (by simp; omega) _
    | tok h hij hj ht he hs2 rr =>
      rename_i j e k n t
      have H := Lib.hid (h _ E1)
      have HT := Lib.hid ht
      have RR := Lib.hid rr
      have hne : ((j : Int) == (s.size : Int)) = false := by simp; omega
      clear h ht rr
      go_wp2_with fail
      refine H.out.mono ?_
      rintro e' w1 ⟨rfl, hB1⟩
      have hB2 := hB.trans (hB1.mono hB.size)
      have E2 := E1.below hB1 E1.wordAt
      have hown1 := own_below hown hB1
      clear hown
      go_wp2_with fail
      refine (HT.out _ E2).mono ?_
      rintro e' w3 ⟨rfl, hB3⟩
      have hB4 := hB2.trans (hB3.mono hB2.size)
      have hown3 := own_below hown1 hB3
      unfold tokenV
      clear hown1
      have hownA := (hown3.alloc (.cells #[.int .i64 k, .int .i64 j, .int .i64 n, .string t] 25)).alloc (.cells #[.int .i64 k, .int .i64 j, .int .i64 n, .string t] 25)
      have HO := Lib.hid hownA
      have hsz3 := hB4.size
      have hnc : ∀ q u, (Tk.mk k j n t).cells[q]? = some u → ((w3.alloc (.cells #[.int .i64 k, .int .i64 j, .int .i64 n, .string t] 25)).alloc (.cells #[.int .i64 k, .int .i64 j, .int .i64 n, .string t] 25)).cell? ((⟨w3.heap.size + 1, 0, none⟩ : Addr).add q) = some u := by
        have := new_cells (w3.alloc (.cells #[.int .i64 k, .int .i64 j, .int .i64 n, .string t] 25)) (Tk.mk k j n t)
        rw [show (w3.alloc (.cells #[.int .i64 k, .int .i64 j, .int .i64 n, .string t] 25)).heap.size = w3.heap.size + 1 from by simp] at this
        exact this
      have HN := Lib.hid hnc
      clear hown3 hownA hnc
      go_wp2_with (at_builtin; refine wpList_append_own _ rfl (.tmp 48) (.tmp 50) _ rfl w.heap.size 25 i0 _ 4 40 Tryz.underlying22 hi hz0 hz1 hz2 rfl (by omega) u4 d.length (cellsOf d) rfl HO.out ⟨w3.heap.size + 1, 0, none⟩ 1 1 (Tk.mk k j n t).cells rfl rfl HN.out (cells_one' _) (by unfold maxLen; omega) (by omega) (by simp; omega) ?_; intro v' w5 hown5 hg5 _)
      have hBA : Below w.heap.size w ((w3.alloc (.cells #[.int .i64 k, .int .i64 j, .int .i64 n, .string t] 25)).alloc (.cells #[.int .i64 k, .int .i64 j, .int .i64 n, .string t] 25)) := (hB4.alloc hsz3 _).alloc (by simp; omega) _
      have hB5 := hBA.grown hg5 (by simp; omega) (fun q hq => (HO.out.lt q hq).1)
      go_roundw
      case rel => exact ⟨e, d ++ [⟨k, j, n, t⟩], hs2, by simp; omega, rfl, by rw [cellsOf_snoc, List.length_append]; exact hown5, RR.out, hB5⟩
      case measure => simp [intOf]; omega

theorem cellB {w : World} {b j : Nat} {v : Value} (h : w.cell? ⟨b, j, none⟩ = some v) : b < w.heap.size := by
  rcases Nat.lt_or_ge b w.heap.size with h' | h'
  · exact h'
  · simp [World.cell?, Array.getElem?_eq_none h'] at h

theorem lex_as (N : Nat) (w1 : World) (hg : w1.cell? ⟨0, 0, none⟩ = some (.iface 90 (.agg #[.pointer (some ⟨12, 38, none⟩)]))) :
    Calls Tryz.prog 16 #[.iface 41 (.pointer (some ⟨N, 0, none⟩)), .iface 43 (.pointer (some ⟨w1.heap.size, 0, none⟩))] (w1.alloc (.cells #[.pointer none] 41)) fun ev w' =>
      ev = .returned (.bool true) ∧ w'.cell? ⟨w1.heap.size, 0, none⟩ = some (.pointer (some ⟨N, 0, none⟩)) ∧ Below w1.heap.size w1 w' := by
  have hlt := cellB hg
  have h0 : (w1.alloc (.cells #[.pointer none] 41)).cell? ⟨w1.heap.size, 0, none⟩ = some (.pointer none) := by rw [World.cell?_alloc_at _ _ _ _ rfl]; rfl
  have hb0 : Below w1.heap.size w1 (w1.alloc (.cells #[.pointer none] 41)) := (Below.refl _ _).alloc (Nat.le_refl _) _
  refine (as_hit ⟨N, 0, none⟩ ⟨w1.heap.size, 0, none⟩ (.pointer none) _ (by rw [World.cell?_alloc_lt _ _ _ hlt]; exact hg) h0 (by simp)).mono fun e w' ⟨he, hw⟩ => ⟨he, ?_, ?_⟩
  · subst hw
    refine World.cell?_setCell_same _ _ _ (u := .pointer none) ?_
    rw [World.cell?_alloc_lt _ _ _ (by simp; omega), World.cell?_alloc_lt _ _ _ (by simp; omega), World.cell?_alloc_lt _ _ _ (by simp; omega), World.cell?_alloc_lt _ _ _ (by simp)]
    exact h0
  · subst hw
    refine Below.setCell ?_ (p := ⟨w1.heap.size, 0, none⟩) (Nat.le_refl _) _
    exact ((((hb0.alloc (by simp) _).alloc (by simp; omega) _).alloc (by simp; omega) _).alloc (by simp; omega) _)

theorem lex_bad (wv : Value) (tp : TypeId) (pv : Value) (T2 : TypeId) (v2 : Value) (s : ByteArray) (w : World) (hE : Env wv w) (hF : Env2 tp pv T2 v2 w) (hs : s.size ≤ 65536) (hc : Bad wv tp pv T2 v2 s 0) :
    Calls Tryz.prog 6 #[.string s] w fun e w' => (∃ v x, e = .returned (.tuple #[v, x, .int .i64 5])) ∧ Below w.heap.size w w' := by
  have T := Lib.hid (tokens_bad wv tp pv T2 v2 s w hE hF hs hc)
  have hs1 : (s.size : Int) ≤ 65536 := by omega
  have hf := hF.at_
  have HF := Lib.hid hF
  clear hc hE hF
  go_enter Tryz.func6, Tryz.ntmps6
  go_wp2_with fail
  refine T.out.mono ?_
  rintro e w1 ⟨v, N, x, rfl, hx, hB⟩
  have HX := Lib.hid hx
  have F1 := Lib.hid (HF.out.below hB hf)
  have hsz := hB.size
  clear hx
  go_wp2_with fail
  refine (lex_as N w1 F1.out.et).mono ?_
  rintro e w2 ⟨rfl, hc, hB2⟩
  have hN := (hB2.cell (p := ⟨N, 0, none⟩) (cellB HX.out)).trans HX.out
  have hB3 := hB.trans (hB2.mono hsz)
  have HB := Lib.hid hB3
  clear hB hB2 hB3 HF F1
  go_wp2_with fail
  go_quiet (fail)
  go_wp2
  go_ret3
  exact ⟨⟨_, _, rfl⟩, drewN_below HB.out _⟩
end Go.Proofs.YtabngleincejfaaGreatDoor
