/- Rows of tokens in memory; plain facts on where tokens stand. -/
import Derived.Test.YtabngleincejfaaGreatDoorSame
namespace Go.Proofs.YtabngleincejfaaGreatDoor
open Go.ChangeShapes Go.WideShapes Go.ChangeAt Go.RowKit

/-- A token some bytes further on. -/
def Tk.moved (d : Nat) (t : Tk) : Tk := ⟨t.kind, t.at_ + d, t.n, t.t⟩

theorem lex_shift (d : Nat) : ∀ (f p : Nat) (l : List UInt8), lexL f (p + d) l = (lexL f p l).map (·.map (Tk.moved d))
  | 0, _, _ => rfl
  | f + 1, p, l => by
    rw [lexL, lexL]
    cases skipL (l.length + 1) l with
    | none => rfl
    | some k =>
      simp only
      split
      · rfl
      · cases tokL (l.drop k) with
        | none => rfl
        | some x =>
          simp only
          rw [show p + d + k + x.len = p + k + x.len + d from by omega, lex_shift d f]
          rw [Option.map_map, Option.map_map]
          congr 1
          funext r
          simp only [Function.comp, List.map_cons, Tk.moved, List.cons.injEq, Tk.mk.injEq, true_and, and_true]
          omega

theorem lex_count : ∀ (f p : Nat) (l : List UInt8) (x : List Tk), lexL f p l = some x → x.length ≤ l.length
  | 0, _, _, _, h => by cases h
  | f + 1, p, l, x, h => by
    rw [lexL] at h
    split at h
    · cases h
    · split at h
      · cases h; simp
      · split at h
        · cases h
        · rename_i z hz
          rw [Option.map_eq_some_iff] at h
          obtain ⟨x', hx', rfl⟩ := h
          have := lex_count f _ _ x' hx'
          have hl := tok_len hz
          rw [List.length_drop] at this hl
          rw [List.length_cons]; omega

theorem toks_count {s : ByteArray} {x : List Tk} (h : toksOf s = some x) : x.length ≤ s.size := by
  have := lex_count _ _ _ _ h
  rwa [← Lib.size_eq] at this

theorem join_data (a b : ByteArray) : (a ++ ⟨#[32]⟩ ++ b).data.toList = a.data.toList ++ 32 :: b.data.toList := by simp [ByteArray.data_append]
theorem join_size (a b : ByteArray) : (a ++ ⟨#[32]⟩ ++ b).size = a.size + 1 + b.size := by
  rw [Lib.size_eq, join_data, List.length_append, List.length_cons, Lib.size_eq a, Lib.size_eq b]; omega

theorem join_toks {a b : ByteArray} {x y : List Tk} (ha : toksOf a = some x) (hb : toksOf b = some y) : toksOf (a ++ ⟨#[32]⟩ ++ b) = some (x ++ y.map (Tk.moved (a.size + 1))) := by
  unfold toksOf at *
  rw [join_data]
  have hla : a.data.toList.length = a.size := (Lib.size_eq a).symm
  have hlb : b.data.toList.length = b.size := (Lib.size_eq b).symm
  refine lex_join b.data.toList _ (b.size + 1) (by omega) (a.size + 1) 0 a.data.toList x _ ha ?_ (by rw [join_size, List.length_append, List.length_cons]; omega)
  rw [hla, Nat.zero_add]
  have := lex_shift (a.size + 1) (b.size + 1) 0 b.data.toList
  rw [Nat.zero_add] at this
  rw [this, hb]; rfl

theorem end_moved (a b : ByteArray) : endTk (a ++ ⟨#[32]⟩ ++ b) = (endTk b).moved (a.size + 1) := by
  unfold endTk Tk.moved
  rw [join_size]
  simp; omega

theorem cut_toks {a : ByteArray} {x : List Tk} (ha : toksOf a = some x) (i : Nat) (hi : i < (x ++ [endTk a]).length) :
    ∃ q : Nat, (x ++ [endTk a])[i].at_ = (q : Int) ∧ q ≤ a.size ∧ toksOf (a.extract 0 q) = some ((x ++ [endTk a]).take i) := by
  have hla : a.data.toList.length = a.size := (Lib.size_eq a).symm
  rcases Nat.lt_or_ge i x.length with h | h
  · unfold toksOf at ha
    obtain ⟨q, t, hq, ht, hat, hr⟩ := lex_cut (a.size + 1) 0 a.data.toList x i (a.size + 1) ha h (by omega)
    refine ⟨q, ?_, by omega, ?_⟩
    · rw [List.getElem_append_left h]
      rw [List.getElem?_eq_getElem h] at ht
      rw [Option.some.inj ht, hat, Nat.zero_add]
    · have hd : (a.extract 0 q).data.toList = a.data.toList.take q := by rw [Lib.extract_data]; simp
      have hz : (a.extract 0 q).size = q := by rw [Lib.size_eq, hd, List.length_take]; omega
      unfold toksOf
      rw [hd, hz, lexL_fuel (q + 1) (a.size + 1) 0 _ (by rw [List.length_take]; omega) (by rw [List.length_take]; omega), hr]
      rw [List.take_append_of_le_length (by omega)]
  · have e : i = x.length := by simp at hi; omega
    subst e
    refine ⟨a.size, by simp [endTk], Nat.le_refl _, ?_⟩
    rw [extract_all, ha]; simp

theorem row_at {w : World} {B : Nat} {v : Value} {l : List Tk} (h : w.ownsRow B 25 4 v l.length (cellsOf l)) (hl : 0 < l.length) :
    ∃ g cap, v = .slice (some ⟨g, 0, none⟩) l.length cap ∧ RowAt w g 0 l ∧ l.length ≤ cap ∧ g < w.heap.size ∧ cap ≤ maxLen := by
  have hc := fun g (hg : v.ownBlock = some g) => h.cells (g := g) hg
  rcases h.2 with ⟨_, h0⟩ | ⟨g, cap, cur, hv, hb, hg, hcap, hmx, _⟩
  · omega
  · subst hv
    have hcells := hc g rfl
    have ha : ∀ j, (⟨g, 0, none⟩ : Addr).add j = ⟨g, j, none⟩ := fun j => by unfold Addr.add; split <;> simp_all
    refine ⟨g, cap, rfl, fun i hi => ?_, hcap, ?_, hmx⟩
    · have e : ∀ j, 0 + i * 4 + j = 4 * i + j := fun j => by omega
      refine ⟨?_, ?_, ?_, ?_⟩
      · rw [show 0 + i * 4 = 4 * i + 0 from by omega, ← ha]; exact hcells _ _ (by rw [cellsOf_at l i 0 hi (by omega)]; rfl)
      · rw [e, ← ha]; exact hcells _ _ (by rw [cellsOf_at l i 1 hi (by omega)]; rfl)
      · rw [e, ← ha]; exact hcells _ _ (by rw [cellsOf_at l i 2 hi (by omega)]; rfl)
      · rw [e, ← ha]; exact hcells _ _ (by rw [cellsOf_at l i 3 hi (by omega)]; rfl)
    · rcases Nat.lt_or_ge g w.heap.size with hlt | hge
      · exact hlt
      · rw [Array.getElem?_eq_none hge] at hg; cases hg

theorem RowAt.below {w w' : World} {B g o : Nat} {l : List Tk} (h : RowAt w g o l) (hB : Below B w w') (hg : g < B) : RowAt w' g o l := fun i hi => by
  obtain ⟨a, b, c, d⟩ := h i hi
  exact ⟨(hB.cell (p := ⟨g, _, none⟩) hg).trans a, (hB.cell (p := ⟨g, _, none⟩) hg).trans b, (hB.cell (p := ⟨g, _, none⟩) hg).trans c, (hB.cell (p := ⟨g, _, none⟩) hg).trans d⟩
theorem RowAt.drop {w : World} {g : Nat} {l : List Tk} (h : RowAt w g 0 l) (n : Nat) : RowAt w g (n * 4) (l.drop n) := fun i hi => by
  have hi' : n + i < l.length := by rw [List.length_drop] at hi; omega
  have := h (n + i) hi'
  rw [show 0 + (n + i) * 4 = n * 4 + i * 4 from by omega] at this
  rwa [List.getElem_drop]
theorem RowAt.get {w : World} {g o : Nat} {l : List Tk} (h : RowAt w g o l) {k : Nat} {t : Tk} (ht : l[k]? = some t) : w.cell? ⟨g, o + k * 4, none⟩ = some (.int .i64 t.kind) ∧ w.cell? ⟨g, o + k * 4 + 1, none⟩ = some (.int .i64 t.at_) ∧ w.cell? ⟨g, o + k * 4 + 2, none⟩ = some (.int .i64 t.n) ∧ w.cell? ⟨g, o + k * 4 + 3, none⟩ = some (.string t.t) := by
  obtain ⟨hk, rfl⟩ := List.getElem?_eq_some_iff.1 ht
  exact h k hk
theorem get_tk {l : List Tk} {k : Nat} (h : k < l.length) : ∃ t, l[k]? = some t := ⟨_, List.getElem?_eq_getElem h⟩
theorem cut_get {a : ByteArray} {x : List Tk} (ha : toksOf a = some x) {i : Nat} {t : Tk} (ht : (x ++ [endTk a])[i]? = some t) : ∃ q : Nat, t.at_ = (q : Int) ∧ q ≤ a.size ∧ toksOf (a.extract 0 q) = some ((x ++ [endTk a]).take i) := by
  obtain ⟨hk, rfl⟩ := List.getElem?_eq_some_iff.1 ht
  exact cut_toks ha i hk
theorem RowAt.take {w : World} {g o : Nat} {l : List Tk} (h : RowAt w g o l) (n : Nat) : RowAt w g o (l.take n) := fun i hi => by
  have hi' : i < l.length := by rw [List.length_take] at hi; omega
  have := h i hi'
  rwa [List.getElem_take]
end Go.Proofs.YtabngleincejfaaGreatDoor
