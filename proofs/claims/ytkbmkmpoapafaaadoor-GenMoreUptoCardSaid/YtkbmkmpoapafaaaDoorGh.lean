/- What lies in memory: slices, blocks that stay; for graphs. -/
import Derived.Test.YtkbmkmpoapafaaaDoorNamed
import Derived.OwnWalk
import Derived.Laws.OwnMore
import Derived.Outline
import Derived.Below
import Derived.Handy
import Derived.IntWalk
import Derived.Lib.Builder
import Derived.Deep.LoopGhost
import Derived.Deep.QuietTactic
import Derived.BigQuiet
import Derived.Deep.AppendLies
import Derived.Deep.RegionLaw
import Derived.Deep.RegionHeld3
import Derived.Maps.AppendAt
import Derived.Lib.SlicesS
namespace Go.Proofs.YtkbmkmpoapafaaaDoor
open Go.ChangeShapes Go.WideShapes Go.ChangeAt Go.RowKit

/-- A slice of n elements that lies there. -/
def Sl (B : Nat → Prop) (v : Value) (n g o : Nat) : Prop := ((v = .slice none 0 0 ∨ ∃ a c, v = .slice (some a) 0 c) ∧ n = 0) ∨ ∃ cap, v = .slice (some ⟨g, o, none⟩) n cap ∧ n ≤ cap ∧ cap ≤ maxLen ∧ B g
theorem Sl.mono {B B' : Nat → Prop} {v : Value} {n g o : Nat} (h : Sl B v n g o) (hB : ∀ b, B b → B' b) : Sl B' v n g o := by
  rcases h with h | ⟨cap, h1, h2, h3, h4⟩
  · exact .inl h
  · exact .inr ⟨cap, h1, h2, h3, hB _ h4⟩
theorem Sl.lt {B : Nat → Prop} {v : Value} {n g o : Nat} (h : Sl B v n g o) (hn : 0 < n) : B g := by
  rcases h with ⟨_, h⟩ | ⟨_, _, _, _, h⟩
  · omega
  · exact h
theorem Sl.shape {B : Nat → Prop} {v : Value} {n g o : Nat} (h : Sl B v n g o) : ∃ x cap, v = .slice x n cap ∧ (0 < n → x = some ⟨g, o, none⟩ ∧ n ≤ cap ∧ cap ≤ maxLen ∧ B g) := by
  rcases h with ⟨rfl | ⟨x, c, rfl⟩, rfl⟩ | ⟨cap, rfl, h1, h2, h3⟩
  · exact ⟨none, 0, rfl, fun h => by omega⟩
  · exact ⟨some x, c, rfl, fun h => by omega⟩
  · exact ⟨_, cap, rfl, fun _ => ⟨rfl, h1, h2, h3⟩⟩
theorem Sl.len {B : Nat → Prop} {v : Value} {n g o : Nat} (h : Sl B v n g o) : n ≤ maxLen := by
  rcases h with ⟨_, rfl⟩ | ⟨cap, rfl, h1, h2, h3⟩
  · exact Nat.zero_le _
  · omega

/-- The blocks of B are as they were. -/
def Keeps (B : Nat → Prop) (W W' : World) : Prop := ∀ b, B b → W'.heap[b]? = W.heap[b]?
theorem Keeps.cell {B : Nat → Prop} {W W' : World} (h : Keeps B W W') {b o : Nat} {v : Value} (hb : B b) (hv : W.cell? ⟨b, o, none⟩ = some v) : W'.cell? ⟨b, o, none⟩ = some v := by
  unfold World.cell? at hv ⊢
  simp only at hv ⊢
  rw [h b hb]; exact hv
theorem keeps_of {C : Nat} {W W' : World} (h : Below C W W') {B : Nat → Prop} (hB : ∀ b, B b → b < C) : Keeps B W W' := fun b hb => h.block b (hB b hb)

theorem dN_below {B : Nat} {a w : World} (h : Below B a w) (n : Nat) : Below B a (w.drewN n) := ⟨h.os, h.tape, h.output, h.size, h.block⟩
theorem new_cells (w : World) (l : List Value) (T : TypeId) : ∀ j u, l[j]? = some u → (w.alloc (.cells l.toArray T)).cell? ((⟨w.heap.size, 0, none⟩ : Addr).add j) = some u := by
  intro j u hu
  have e : (⟨w.heap.size, 0, none⟩ : Addr).add j = ⟨w.heap.size, j, none⟩ := by unfold Addr.add; split <;> simp_all
  rw [e, Lib.cell_of_heap (heap_alloc_new w _) j]
  simpa using hu
theorem heap_old {w : World} {o : Obj} {i : Nat} (h : i < w.heap.size) : (w.alloc o).heap[i]? = w.heap[i]? := by
  show (w.heap.push o)[i]? = _
  rw [Array.getElem?_push, if_neg (by omega)]
theorem heap_last {w : World} {o : Obj} {i : Nat} (h : i = w.heap.size) : (w.alloc o).heap[i]? = some o := by
  subst h; exact heap_alloc_new w o
theorem cell_block {w : World} {b j : Nat} {cs : Array Value} {T : TypeId} {u : Value} (h : w.heap[b]? = some (.cells cs T)) (hu : cs[j]? = some u) : w.cell? ⟨b, j, none⟩ = some u := by
  rw [Lib.cell_of_heap h]; exact hu
theorem own_below {W W' : World} {base : Nat} {e : TypeId} {size : Nat} {v : Value} {n : Nat} {xs : List Value} (h : W.ownsRow base e size v n xs) (hB : Below W.heap.size W W') : W'.ownsRow base e size v n xs := by
  refine ⟨h.1, ?_⟩
  rcases h.2 with hn | ⟨g, cap, cur, hv, hb, hg, rest⟩
  · exact .inl hn
  · refine .inr ⟨g, cap, cur, hv, hb, ?_, rest⟩
    rw [hB.block g]
    · exact hg
    · rcases Nat.lt_or_ge g W.heap.size with h | h
      · exact h
      · rw [Array.getElem?_eq_none h] at hg; cases hg

/-- Strings that lie there. -/
def Strs (W : World) (S : Nat → Prop) (v : Value) (l : List ByteArray) : Prop := ∃ g o, Sl S v l.length g o ∧ ∀ i (h : i < l.length), W.cell? ⟨g, o + i, none⟩ = some (.string l[i])
/-- Numbers that lie there. -/
def Nums (W : World) (S : Nat → Prop) (v : Value) (l : List Int) : Prop := ∃ g o, Sl S v l.length g o ∧ ∀ i (h : i < l.length), W.cell? ⟨g, o + i, none⟩ = some (.int .i64 l[i])
theorem Strs.carry {W W' : World} {S S' : Nat → Prop} {v : Value} {l : List ByteArray} (h : Strs W S v l) (hk : Keeps S W W') (hS : ∀ b, S b → S' b) : Strs W' S' v l := by
  obtain ⟨g, o, h1, h2⟩ := h
  exact ⟨g, o, h1.mono hS, fun i hi => hk.cell (h1.lt (by omega)) (h2 i hi)⟩
theorem Nums.carry {W W' : World} {S S' : Nat → Prop} {v : Value} {l : List Int} (h : Nums W S v l) (hk : Keeps S W W') (hS : ∀ b, S b → S' b) : Nums W' S' v l := by
  obtain ⟨g, o, h1, h2⟩ := h
  exact ⟨g, o, h1.mono hS, fun i hi => hk.cell (h1.lt (by omega)) (h2 i hi)⟩
/-- Opened: the value's form, and where each lies. -/
theorem Strs.open_ {W : World} {S : Nat → Prop} {v : Value} {l : List ByteArray} (h : Strs W S v l) : ∃ x c g o, v = .slice x l.length c ∧ (0 < l.length → x = some ⟨g, o, none⟩ ∧ l.length ≤ c ∧ c ≤ maxLen ∧ S g) ∧ ∀ i (h : i < l.length), W.cell? ⟨g, o + i, none⟩ = some (.string l[i]) := by
  obtain ⟨g, o, h1, h2⟩ := h
  obtain ⟨x, c, rfl, hx⟩ := h1.shape
  exact ⟨x, c, g, o, rfl, hx, h2⟩
theorem Nums.open_ {W : World} {S : Nat → Prop} {v : Value} {l : List Int} (h : Nums W S v l) : ∃ x c g o, v = .slice x l.length c ∧ (0 < l.length → x = some ⟨g, o, none⟩ ∧ l.length ≤ c ∧ c ≤ maxLen ∧ S g) ∧ ∀ i (h : i < l.length), W.cell? ⟨g, o + i, none⟩ = some (.int .i64 l[i]) := by
  obtain ⟨g, o, h1, h2⟩ := h
  obtain ⟨x, c, rfl, hx⟩ := h1.shape
  exact ⟨x, c, g, o, rfl, hx, h2⟩
theorem Strs.len {W : World} {S : Nat → Prop} {v : Value} {l : List ByteArray} (h : Strs W S v l) : l.length ≤ maxLen := by
  obtain ⟨g, o, h1, _⟩ := h; exact h1.len
theorem Nums.len {W : World} {S : Nat → Prop} {v : Value} {l : List Int} (h : Nums W S v l) : l.length ≤ maxLen := by
  obtain ⟨g, o, h1, _⟩ := h; exact h1.len

/-- A node of a graph of types. -/
structure GN where
  k : Int
  nm : ByteArray
  args : List Int
  labels : List ByteArray
  op : Bool
/-- A node that lies there. -/
structure GnAt (W : World) (S : Nat → Prop) (b o : Nat) (va vl : Value) (x : GN) : Prop where
  hb : S b
  c0 : W.cell? ⟨b, o, none⟩ = some (.int .i64 x.k)
  c1 : W.cell? ⟨b, o + 1, none⟩ = some (.string x.nm)
  c2 : W.cell? ⟨b, o + 2, none⟩ = some va
  c3 : W.cell? ⟨b, o + 3, none⟩ = some vl
  c4 : W.cell? ⟨b, o + 4, none⟩ = some (.bool x.op)
  ha : Nums W S va x.args
  hl : Strs W S vl x.labels
theorem GnAt.carry {W W' : World} {S S' : Nat → Prop} {b o : Nat} {va vl : Value} {x : GN} (h : GnAt W S b o va vl x) (hk : Keeps S W W') (hS : ∀ b, S b → S' b) : GnAt W' S' b o va vl x :=
  ⟨hS _ h.hb, hk.cell h.hb h.c0, hk.cell h.hb h.c1, hk.cell h.hb h.c2, hk.cell h.hb h.c3, hk.cell h.hb h.c4, h.ha.carry hk hS, h.hl.carry hk hS⟩
/-- Nodes that lie in a row. -/
def GrAt (W : World) (S : Nat → Prop) (v : Value) (l : List GN) : Prop := ∃ g o, Sl S v l.length g o ∧ ∀ i (h : i < l.length), ∃ va vl, GnAt W S g (o + i * 5) va vl l[i]
theorem GrAt.carry {W W' : World} {S S' : Nat → Prop} {v : Value} {l : List GN} (h : GrAt W S v l) (hk : Keeps S W W') (hS : ∀ b, S b → S' b) : GrAt W' S' v l := by
  obtain ⟨g, o, h1, h2⟩ := h
  exact ⟨g, o, h1.mono hS, fun i hi => by obtain ⟨va, vl, h3⟩ := h2 i hi; exact ⟨va, vl, h3.carry hk hS⟩⟩
theorem GrAt.open_ {W : World} {S : Nat → Prop} {v : Value} {l : List GN} (h : GrAt W S v l) : ∃ x c g o, v = .slice x l.length c ∧ (0 < l.length → x = some ⟨g, o, none⟩ ∧ l.length ≤ c ∧ c ≤ maxLen ∧ S g) ∧ ∀ i (h : i < l.length), ∃ va vl, GnAt W S g (o + i * 5) va vl l[i] := by
  obtain ⟨g, o, h1, h2⟩ := h
  obtain ⟨x, c, rfl, hx⟩ := h1.shape
  exact ⟨x, c, g, o, rfl, hx, h2⟩
theorem GrAt.len {W : World} {S : Nat → Prop} {v : Value} {l : List GN} (h : GrAt W S v l) : l.length ≤ maxLen := by
  obtain ⟨g, o, h1, _⟩ := h; exact h1.len
end Go.Proofs.YtkbmkmpoapafaaaDoor
