/- The tokens of a text of which it is known where each begins and what it is. -/
import Derived.Test.YtabngleincejfaaGreatDoorSyms
import Derived.OwnWalk
import Derived.Laws.OwnMore
import Derived.Outline
namespace Go.Proofs.YtabngleincejfaaGreatDoor
open Go.ChangeShapes Go.WideShapes Go.ChangeAt Go.RowKit

/-- What the lexer's errors lie as. -/
structure Env (wv : Value) (W : World) : Prop where
  word : W.cell? ⟨1, 0, none⟩ = some wv
  wordAt : 1 < W.heap.size
theorem Env.below {wv : Value} {W W' : World} {B : Nat} (h : Env wv W) (hB : Below B W W') (hb : 1 < B) : Env wv W' :=
  ⟨(hB.cell (p := ⟨1, 0, none⟩) hb).trans h.word, Nat.lt_of_lt_of_le h.wordAt hB.size⟩

/-- A token. -/
structure Tk where
  kind : Int
  at_ : Int
  n : Int
  t : ByteArray
def Tk.cells (x : Tk) : List Value := [.int .i64 x.kind, .int .i64 x.at_, .int .i64 x.n, .string x.t]
def cellsOf (l : List Tk) : List Value := l.flatMap Tk.cells
theorem cellsOf_snoc (l : List Tk) (x : Tk) : cellsOf (l ++ [x]) = cellsOf l ++ x.cells := by simp [cellsOf]
theorem cells_one' (x : Tk) : ∀ u ∈ x.cells, u.oneCell' = true := by
  intro u hu
  simp only [Tk.cells, List.mem_cons, List.not_mem_nil, or_false] at hu
  rcases hu with rfl | rfl | rfl | rfl <;> rfl

def SkipsTo (wv : Value) (s : ByteArray) (i j : Nat) : Prop := ∀ W, Env wv W → Calls Tryz.prog 24 #[.string s, .int .i64 i] W fun e w' => e = .returned (.tuple #[.int .i64 j, .nilIface]) ∧ Below W.heap.size W w'
def Tells (wv : Value) (s : ByteArray) (i : Nat) (k n : Int) (t : ByteArray) (e : Nat) : Prop := ∀ W, Env wv W → Calls Tryz.prog 25 #[.string s, .int .i64 i] W fun e' w' => e' = .returned (tokenV k n t (e : Int) .nilIface) ∧ Below W.heap.size W w'

/-- From a place on a text is these tokens. -/
inductive Chain (wv : Value) (s : ByteArray) : Nat → List Tk → Prop
  | done {i : Nat} (h : SkipsTo wv s i s.size) : Chain wv s i []
  | tok {i j e : Nat} {k n : Int} {t : ByteArray} {l : List Tk} (h : SkipsTo wv s i j) (hij : i ≤ j) (hj : j < s.size) (ht : Tells wv s j k n t e) (he : j < e) (hs : e ≤ s.size) (r : Chain wv s e l) : Chain wv s i (⟨k, j, n, t⟩ :: l)

def endTk (s : ByteArray) : Tk := ⟨0, s.size, 0, ⟨#[]⟩⟩

/-- What tokens has behind it. -/
def Toks (w : World) (l : List Tk) (e : Ending) (w' : World) : Prop := ∃ v, e = .returned (.tuple #[v, .nilIface]) ∧ w'.ownsRow w.heap.size 25 4 v l.length (cellsOf l) ∧ Below w.heap.size w w'

theorem own_below {B : Nat} {e : TypeId} {size n : Nat} {v : Value} {xs : List Value} {w w1 : World} (h : w.ownsRow B e size v n xs) (hB : Below w.heap.size w w1) : w1.ownsRow B e size v n xs := by
  refine h.kept (row := none) ⟨hB.os, hB.tape, hB.output, hB.size, fun k hk _ => hB.block k hk⟩ ?_
  cases h' : v.ownBlock
  · exact Or.inl rfl
  · exact Or.inr (by simp)
theorem new_cells (w : World) (x : Tk) : ∀ j u, x.cells[j]? = some u → (w.alloc (.cells #[.int .i64 x.kind, .int .i64 x.at_, .int .i64 x.n, .string x.t] 25)).cell? ((⟨w.heap.size, 0, none⟩ : Addr).add j) = some u := by
  intro j u hu
  have e : (⟨w.heap.size, 0, none⟩ : Addr).add j = ⟨w.heap.size, j, none⟩ := by unfold Addr.add; split <;> simp_all
  rw [e, Lib.cell_of_heap (heap_alloc_new w _) j]
  simpa [Tk.cells] using hu

theorem tokInfo : (Tryz.prog.info? 25).map (fun i => (i.zero, i.size, i.bytes)) = some (some (.agg #[.int .i64 0, .int .i64 0, .int .i64 0, .string ⟨#[]⟩]), 4, 40) := by kernel_rfl

set_option maxHeartbeats 2000000 in
set_option maxRecDepth 100000 in
theorem tokens_chain (wv : Value) (s : ByteArray) (l : List Tk) (w : World) (hE : Env wv w) (hs : s.size ≤ 65536) (hc : Chain wv s 0 l) :
    Calls Tryz.prog 15 #[.string s] w (Toks w (l ++ [endTk s])) := by
  obtain ⟨i0, hi, hz0, hz1, hz2⟩ := info_parts tokInfo
  have hw := hE.wordAt
  have HE := Lib.hid hE
  have HC := Lib.hid hc
  clear hc hE
  go_enter Tryz.func15, Tryz.ntmps15
  go_wp2
  go_loopw [4, 5] (fun v x wr => ∃ (i : Nat) (d r : List Tk), i ≤ s.size ∧ d.length ≤ i ∧ x = .int .i64 i ∧ wr.ownsRow w.heap.size 25 4 v d.length (cellsOf d) ∧ Chain wv s i r ∧ l = d ++ r ∧ Below w.heap.size w wr) (fun _ x _ => s.size - (intOf x).toNat)
  case atStart => exact ⟨0, [], l, by omega, by simp, rfl, World.ownsRow_nil _ _ _ _, HC.out, rfl, Below.refl _ _⟩
  case round =>
    obtain ⟨i, d, r, hin, hdl, rfl, hown, hch, hl, hB⟩ := hrel
    have HL := Lib.hid hl
    have E1 := HE.out.below hB hw
    clear hl
    cases hch with
    | done h =>
      have H := Lib.hid (h _ E1)
      clear h
      go_wp2_with fail
      refine H.out.mono ?_
      rintro e w1 ⟨rfl, hB1⟩
      have hB2 := hB.trans (hB1.mono hB.size)
      have hown1 := (own_below hown hB1).alloc (.cells #[.int .i64 0, .int .i64 s.size, .int .i64 0, .string ⟨#[]⟩] 25)
      have HO := Lib.hid hown1
      clear hown hown1
      go_wp2_with (at_builtin; refine wpList_append_own _ rfl (.tmp 27) (.tmp 30) _ rfl w.heap.size 25 i0 _ 4 40 Tryz.underlying22 hi hz0 hz1 hz2 rfl (by omega) u4 d.length (cellsOf d) rfl HO.out ⟨w1.heap.size, 0, none⟩ 1 1 (endTk s).cells rfl rfl (new_cells w1 (endTk s)) (cells_one' _) (by unfold maxLen; omega) (by omega) (by have := hB2.size; simp; omega) ?_; intro v' w2 hown2 hg2 _)
      go_ret2
      have hld : l = d := by simpa using HL.out
      subst hld
      refine ⟨v', rfl, ?_, ((hB2.alloc hB2.size _).grown hg2 (by have := hB2.size; simp; omega) (fun k hk => (HO.out.lt k hk).1))⟩
      rw [cellsOf_snoc, List.length_append]
      exact hown2
    | tok h hij hj ht he hs2 rr =>
      rename_i j e k n t r2
      have H := Lib.hid (h _ E1)
      have HT := Lib.hid ht
      have RR := Lib.hid rr
      have hne : ((j : Int) == (s.size : Int)) = false := by simp; omega
      clear h ht rr
      go_wp2_with fail
      refine H.out.mono ?_
      rintro e' w1 ⟨rfl, hB1⟩
      have hB2 := hB.trans (hB1.mono hB.size)
      have E2 := E1.below hB1 E1.wordAt
      have hown1 := own_below hown hB1
      clear hown
      go_wp2_with fail
      refine (HT.out _ E2).mono ?_
      rintro e' w3 ⟨rfl, hB3⟩
      have hB4 := hB2.trans (hB3.mono hB2.size)
      have hown3 := own_below hown1 hB3
      unfold tokenV
      clear hown1
      have hownA := (hown3.alloc (.cells #[.int .i64 k, .int .i64 j, .int .i64 n, .string t] 25)).alloc (.cells #[.int .i64 k, .int .i64 j, .int .i64 n, .string t] 25)
      have HO := Lib.hid hownA
      have hsz3 := hB4.size
      have hnc : ∀ q u, (Tk.mk k j n t).cells[q]? = some u → ((w3.alloc (.cells #[.int .i64 k, .int .i64 j, .int .i64 n, .string t] 25)).alloc (.cells #[.int .i64 k, .int .i64 j, .int .i64 n, .string t] 25)).cell? ((⟨w3.heap.size + 1, 0, none⟩ : Addr).add q) = some u := by
        have := new_cells (w3.alloc (.cells #[.int .i64 k, .int .i64 j, .int .i64 n, .string t] 25)) (Tk.mk k j n t)
        rw [show (w3.alloc (.cells #[.int .i64 k, .int .i64 j, .int .i64 n, .string t] 25)).heap.size = w3.heap.size + 1 from by simp] at this
        exact this
      have HN := Lib.hid hnc
      clear hown3 hownA hnc
      go_wp2_with (at_builtin; refine wpList_append_own _ rfl (.tmp 48) (.tmp 50) _ rfl w.heap.size 25 i0 _ 4 40 Tryz.underlying22 hi hz0 hz1 hz2 rfl (by omega) u4 d.length (cellsOf d) rfl HO.out ⟨w3.heap.size + 1, 0, none⟩ 1 1 (Tk.mk k j n t).cells rfl rfl HN.out (cells_one' _) (by unfold maxLen; omega) (by omega) (by simp; omega) ?_; intro v' w5 hown5 hg5 _)
      have hBA : Below w.heap.size w ((w3.alloc (.cells #[.int .i64 k, .int .i64 j, .int .i64 n, .string t] 25)).alloc (.cells #[.int .i64 k, .int .i64 j, .int .i64 n, .string t] 25)) := (hB4.alloc hsz3 _).alloc (by simp; omega) _
      have hB5 := hBA.grown hg5 (by simp; omega) (fun q hq => (HO.out.lt q hq).1)
      go_roundw
      case rel => exact ⟨e, d ++ [⟨k, j, n, t⟩], r2, hs2, by simp; omega, rfl, by rw [cellsOf_snoc, List.length_append]; exact hown5, RR.out, by rw [HL.out]; simp, hB5⟩
      case measure => simp [intOf]; omega
end Go.Proofs.YtabngleincejfaaGreatDoor
