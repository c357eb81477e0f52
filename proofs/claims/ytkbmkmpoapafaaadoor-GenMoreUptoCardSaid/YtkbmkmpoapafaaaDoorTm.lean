/- walk.Trim: a graph of the nodes that are reached alone. -/
import Derived.Test.YtkbmkmpoapafaaaDoorRd
import Derived.Test.YtkbmkmpoapafaaaDoorGy
import Derived.Test.YtkbmkmpoapafaaaDoorGm
import Derived.Test.YtkbmkmpoapafaaaDoorGs
import Derived.Test.YtkbmkmpoapafaaaDoorShelf
import Derived.BigRegion
import Derived.Deep.Light
import Derived.Deep.OwnRows
import Derived.Laws.MakeOwn
namespace Go.Proofs.YtkbmkmpoapafaaaDoor
open Go.ChangeShapes Go.WideShapes Go.ChangeAt Go.RowKit

theorem nodeInfoT : (Tryd.prog.info? 37).map (fun i => (i.zero, i.size, i.bytes)) = some (some (.agg #[.int .i64 0, .string ⟨#[]⟩, .slice none 0 0, .slice none 0 0, .bool false]), 5, 80) := by kernel_rfl
def zeroN : Array Value := #[.int .i64 0, .string ⟨#[]⟩, .slice none 0 0, .slice none 0 0, .bool false]
theorem run_make_nodes (n : Nat) (hn : n ≤ 2000) (w : World) : (Instr.makeSlice 22 (.int .i64 (n : Int)) (.int .i64 (n : Int))).run Tryd.prog w = .ok (.slice (some ⟨w.heap.size, 0, none⟩) n n) (w.alloc (.cells (madeCells zeroN (n * 5)) 37)) := by
  obtain ⟨i0, hi0, hz0, hz1, hz2⟩ := info_parts nodeInfoT
  have h := run_make (P := Tryd.prog) w 22 37 i0 _ Tryd.underlying22 hi0 hz0 .i64 .i64 (n : Int) (n : Int) (by omega) (Int.le_refl _) (by rw [hz2]; omega) (by omega)
  rw [hz1] at h
  simpa [zeroN, Value.cells] using h
theorem arr_made (W : World) (n : Nat) (T : TypeId) : Arr (W.alloc (.cells (madeCells #[.int .i64 0] n) T)) W.heap.size n fun _ => 0 :=
  ⟨_, T, heap_last rfl, fun i hi => by simp [madeCells, hi, Nat.mod_one]⟩
/-- The row's block is one of plain cells. -/
def PlainAt (W : World) (v : Value) : Prop := ∀ a n c, v = .slice (some a) n c → 0 < n → ∃ cs T, W.heap[a.block]? = some (.cells cs T)
theorem PlainAt.carry {W W' : World} {S : Nat → Prop} {v : Value} {l : List Int} (h : PlainAt W v) (hN : Nums W S v l) (hk : Keeps S W W') : PlainAt W' v := by
  intro a n c hv hn
  obtain ⟨cs, T, hc⟩ := h a n c hv hn
  obtain ⟨x, c', g, o, hv', hx, _⟩ := hN.open_
  rw [hv] at hv'
  injection hv' with h1 h2 h3
  subst h2
  obtain ⟨ha, _, _, hS⟩ := hx hn
  rw [ha] at h1
  have := Option.some.inj h1
  subst this
  exact ⟨cs, T, (hk g hS).trans hc⟩
/-- Nodes in a block of their own, what belongs to them in others, all from B on. -/
def GrApart (W : World) (B : Nat) (v : Value) (l : List GN) : Prop := ∃ tn, v = .slice (some ⟨tn, 0, none⟩) l.length l.length ∧ B ≤ tn ∧ tn < W.heap.size ∧ l.length ≤ maxLen ∧ ∀ i (h : i < l.length), ∃ va vl,
  W.cell? ⟨tn, i * 5, none⟩ = some (.int .i64 l[i].k) ∧ W.cell? ⟨tn, i * 5 + 1, none⟩ = some (.string l[i].nm) ∧ W.cell? ⟨tn, i * 5 + 2, none⟩ = some va ∧ W.cell? ⟨tn, i * 5 + 3, none⟩ = some vl ∧ W.cell? ⟨tn, i * 5 + 4, none⟩ = some (.bool l[i].op) ∧
  Nums W (fun b => B ≤ b ∧ b < W.heap.size ∧ b ≠ tn) va l[i].args ∧ Strs W (fun b => B ≤ b ∧ b < W.heap.size ∧ b ≠ tn) vl l[i].labels ∧ PlainAt W va
theorem GrApart.gr {W : World} {B : Nat} {v : Value} {l : List GN} (h : GrApart W B v l) : GrAt W (fun b => B ≤ b ∧ b < W.heap.size) v l := by
  obtain ⟨tn, rfl, h1, h2, h3, h4⟩ := h
  refine ⟨tn, 0, .inr ⟨_, rfl, Nat.le_refl _, h3, h1, h2⟩, fun i hi => ?_⟩
  obtain ⟨va, vl, a0, a1, a2, a3, a4, a5, a6, _⟩ := h4 i hi
  rw [Nat.zero_add]
  exact ⟨va, vl, ⟨h1, h2⟩, a0, a1, a2, a3, a4, a5.carry (fun _ _ => rfl) (fun _ hb => ⟨hb.1, hb.2.1⟩), a6.carry (fun _ _ => rfl) (fun _ hb => ⟨hb.1, hb.2.1⟩)⟩
theorem GrApart.carry {W W' : World} {B B' : Nat} {v : Value} {l : List GN} (h : GrApart W B v l) (hk : ∀ b, B ≤ b → b < W.heap.size → W'.heap[b]? = W.heap[b]?) (hs : W.heap.size ≤ W'.heap.size) (hB : B' ≤ B) : GrApart W' B' v l := by
  obtain ⟨tn, rfl, h1, h2, h3, h4⟩ := h
  refine ⟨tn, rfl, by omega, by omega, h3, fun i hi => ?_⟩
  obtain ⟨va, vl, a0, a1, a2, a3, a4, a5, a6, a7⟩ := h4 i hi
  have hc : ∀ c, W'.cell? ⟨tn, c, none⟩ = W.cell? ⟨tn, c, none⟩ := fun c => World.cell?_of_block (a := ⟨tn, c, none⟩) (hk tn h1 h2)
  exact ⟨va, vl, (hc _).trans a0, (hc _).trans a1, (hc _).trans a2, (hc _).trans a3, (hc _).trans a4, a5.carry (fun b hb => hk b hb.1 hb.2.1) (fun b hb => ⟨by omega, by omega, hb.2.2⟩), a6.carry (fun b hb => hk b hb.1 hb.2.1) (fun b hb => ⟨by omega, by omega, hb.2.2⟩), a7.carry a5 (fun b hb => hk b hb.1 hb.2.1)⟩
/-- A node of what is trimmed. -/
def trimN (L : List Nat) (x : GN) : GN := { x with args := x.args.map fun a => (L.idxOf a.toNat : Int) }
def trimL (G : List GN) (L : List Nat) : List GN := L.filterMap fun q => (G[q]?).map (trimN L)
theorem trimL_eq (G : List GN) (M L : List Nat) (h : ∀ x ∈ L, x < G.length) : (L.filterMap fun q => (G[q]?).map (trimN M)).length = L.length ∧ ∀ i (hi : i < L.length), (L.filterMap fun q => (G[q]?).map (trimN M))[i]? = some (trimN M (G[L[i]]'(h _ (List.getElem_mem hi)))) := by
  induction L with
  | nil => exact ⟨rfl, fun i hi => absurd hi (by simp)⟩
  | cons a r ih =>
    obtain ⟨h1, h2⟩ := ih fun x hx => h x (by simp [hx])
    have ha := h a (by simp)
    have e : (G[a]?).map (trimN M) = some (trimN M G[a]) := by rw [List.getElem?_eq_getElem ha]; rfl
    rw [List.filterMap_cons, e]
    refine ⟨by simp [h1], fun i hi => ?_⟩
    match i, hi with
    | 0, _ => rfl
    | i + 1, hi => simpa using h2 i (by simpa using hi)
theorem trimL_len {G : List GN} {L : List Nat} (h : ∀ x ∈ L, x < G.length) : (trimL G L).length = L.length := (trimL_eq G L L h).1
theorem trimL_get {G : List GN} {L : List Nat} (h : ∀ x ∈ L, x < G.length) {i : Nat} (hi : i < L.length) : (trimL G L)[i]? = some (trimN L (G[L[i]]'(h _ (List.getElem_mem hi)))) := (trimL_eq G L L h).2 i hi

def set5 (cs : Array Value) (o : Nat) (v0 v1 v2 v3 v4 : Value) : Array Value := ((((cs.setIfInBounds o v0).setIfInBounds (o + 1) v1).setIfInBounds (o + 2) v2).setIfInBounds (o + 3) v3).setIfInBounds (o + 4) v4
theorem set5_size (cs : Array Value) (o : Nat) (v0 v1 v2 v3 v4 : Value) : (set5 cs o v0 v1 v2 v3 v4).size = cs.size := by simp [set5]
theorem set5_old {cs : Array Value} {o b : Nat} {v0 v1 v2 v3 v4 : Value} (h : b < o ∨ o + 5 ≤ b) : (set5 cs o v0 v1 v2 v3 v4)[b]? = cs[b]? := by
  unfold set5
  rw [Array.getElem?_setIfInBounds_ne (by omega), Array.getElem?_setIfInBounds_ne (by omega), Array.getElem?_setIfInBounds_ne (by omega), Array.getElem?_setIfInBounds_ne (by omega), Array.getElem?_setIfInBounds_ne (by omega)]
theorem set5_at {cs : Array Value} {o : Nat} {v0 v1 v2 v3 v4 : Value} (h : o + 5 ≤ cs.size) : (set5 cs o v0 v1 v2 v3 v4)[o]? = some v0 ∧ (set5 cs o v0 v1 v2 v3 v4)[o + 1]? = some v1 ∧ (set5 cs o v0 v1 v2 v3 v4)[o + 2]? = some v2 ∧ (set5 cs o v0 v1 v2 v3 v4)[o + 3]? = some v3 ∧ (set5 cs o v0 v1 v2 v3 v4)[o + 4]? = some v4 := by
  unfold set5
  refine ⟨?_, ?_, ?_, ?_, ?_⟩
  · rw [Array.getElem?_setIfInBounds_ne (by omega), Array.getElem?_setIfInBounds_ne (by omega), Array.getElem?_setIfInBounds_ne (by omega), Array.getElem?_setIfInBounds_ne (by omega), Array.getElem?_setIfInBounds_self_of_lt (by omega)]
  · rw [Array.getElem?_setIfInBounds_ne (by omega), Array.getElem?_setIfInBounds_ne (by omega), Array.getElem?_setIfInBounds_ne (by omega), Array.getElem?_setIfInBounds_self_of_lt (by simp; omega)]
  · rw [Array.getElem?_setIfInBounds_ne (by omega), Array.getElem?_setIfInBounds_ne (by omega), Array.getElem?_setIfInBounds_self_of_lt (by simp; omega)]
  · rw [Array.getElem?_setIfInBounds_ne (by omega), Array.getElem?_setIfInBounds_self_of_lt (by simp; omega)]
  · rw [Array.getElem?_setIfInBounds_self_of_lt (by simp; omega)]
theorem drew_heap (w : World) : w.drew.heap = w.heap := rfl
theorem heap_set5 {W : World} {b o : Nat} {cs : Array Value} {T : TypeId} {v0 v1 v2 v3 v4 : Value} (h : W.heap[b]? = some (.cells cs T)) : (((((W.setCell ⟨b, o, none⟩ v0).setCell ⟨b, o + 1, none⟩ v1).setCell ⟨b, o + 2, none⟩ v2).setCell ⟨b, o + 3, none⟩ v3).setCell ⟨b, o + 4, none⟩ v4).drew.heap[b]? = some (.cells (set5 cs o v0 v1 v2 v3 v4) T) := by
  have h1 := heap_setCell_same _ _ o _ _ v0 h
  have h2 := heap_setCell_same _ _ (o + 1) _ _ v1 h1
  have h3 := heap_setCell_same _ _ (o + 2) _ _ v2 h2
  have h4 := heap_setCell_same _ _ (o + 3) _ _ v3 h3
  rw [drew_heap]
  exact heap_setCell_same _ _ (o + 4) _ _ v4 h4
theorem free_set5 (W : World) (b o : Nat) (v0 v1 v2 v3 v4 : Value) : Free (fun k => k = b) W (((((W.setCell ⟨b, o, none⟩ v0).setCell ⟨b, o + 1, none⟩ v1).setCell ⟨b, o + 2, none⟩ v2).setCell ⟨b, o + 3, none⟩ v3).setCell ⟨b, o + 4, none⟩ v4).drew := by
  have h1 := free_setCell (M := fun k => k = b) (Free.refl _ W) (p := ⟨b, o, none⟩) rfl v0
  have h2 := free_setCell h1 (p := ⟨b, o + 1, none⟩) rfl v1
  have h3 := free_setCell h2 (p := ⟨b, o + 2, none⟩) rfl v2
  have h4 := free_setCell h3 (p := ⟨b, o + 3, none⟩) rfl v3
  have h5 := free_setCell h4 (p := ⟨b, o + 4, none⟩) rfl v4
  exact free_drew h5
theorem cell_set_ne {W : World} {b i c o : Nat} {v : Value} (h : c ≠ b) : (W.setCell ⟨b, i, none⟩ v).cell? ⟨c, o, none⟩ = W.cell? ⟨c, o, none⟩ := World.cell?_of_block (a := ⟨c, o, none⟩) (heap_setCell_other W ⟨b, i, none⟩ c v h)
theorem wpList_store2 {w : World} {ops : Array Oper} {rest : List Oper} {o : Oper} {a : Act} {Q : Exit → Act → World → Prop} (hg : o.guard = none) (p x : Operand) (ho : o.op = .store 24 p x) (b : Nat) (sx : Option Addr) (sn sc : Nat) (iv : Int)
    (hp : a.eval p = .pointer (some ⟨b, 0, none⟩)) (hx : a.eval x = .agg #[.slice sx sn sc, .int .i64 iv]) (u0 u1 : Value) (c0 : w.cell? ⟨b, 0, none⟩ = some u0) (c1 : w.cell? ⟨b, 1, none⟩ = some u1) (f0 : w.frozen? ⟨b, 0, none⟩ = false) (f1 : w.frozen? ⟨b, 1, none⟩ = false)
    (hK : wpList Tryd.prog ops Q rest (a.put o.dst undef) ((w.setCell ⟨b, 0, none⟩ (.slice sx sn sc)).setCell ⟨b, 1, none⟩ (.int .i64 iv))) : wpList Tryd.prog ops Q (o :: rest) a w := by
  refine wpList_plain hg fun K hK' => ?_
  have hk := hK' _ _ hK
  clear hK hK'
  unfold Oper.wp
  simp only [execOp, ho, hp, hx]
  go_simp
  exact hk
theorem wpList_load2 {w : World} {ops : Array Oper} {rest : List Oper} {o : Oper} {a : Act} {Q : Exit → Act → World → Prop} (hg : o.guard = none) (p : Operand) (ho : o.op = .load 24 p) (b : Nat) (v0 v1 : Value)
    (hp : a.eval p = .pointer (some ⟨b, 0, none⟩)) (c0 : w.cell? ⟨b, 0, none⟩ = some v0) (c1 : w.cell? ⟨b, 1, none⟩ = some v1)
    (hK : wpList Tryd.prog ops Q rest (a.put o.dst (.agg #[v0, v1])) w) : wpList Tryd.prog ops Q (o :: rest) a w := by
  refine wpList_plain hg fun K hK' => ?_
  have hk := hK' _ _ hK
  clear hK hK'
  unfold Oper.wp
  simp only [execOp, ho, hp]
  go_simp
  exact hk
theorem results_graph {fn : Func} (hr : fn.results = #[.cell 2 24]) (tmps : Array Value) (w : World) (b : Nat) (v0 v1 : Value) (ht : tmps[2]? = some (.pointer (some ⟨b, 0, none⟩))) (c0 : w.cell? ⟨b, 0, none⟩ = some v0) (c1 : w.cell? ⟨b, 1, none⟩ = some v1) : (results fn tmps).run Tryd.prog w = .ok (.agg #[v0, v1]) w := by
  simp [results, hr, go_sem, ht, c0, c1]
theorem labels_le {x : GN} {n : Int} (h : fitG x n = true) : x.labels.length ≤ x.args.length := by
  have hx := fit_head h
  unfold headB at hx
  by_cases h3 : x.k = 3
  · rw [if_pos h3] at hx
    simp only [Bool.and_eq_true, beq_iff_eq] at hx
    omega
  · rw [if_neg h3] at hx
    split at hx
    · cases hx
    · rename_i hn
      simp only [not_or] at hn
      have := hn.2
      omega
/-- slices.Clone of texts. -/
theorem clone_any (S : Nat → Prop) (v : Value) (l : List ByteArray) (w : World) (h : Strs w S v l) (hl : l.length ≤ 2000) :
    Calls Tryd.prog 43 #[v] w fun e w' => ∃ v', e = .returned v' ∧ w'.ownsRow w.heap.size 9 1 v' l.length (l.map Value.string) ∧ Below w.heap.size w w' := by
  obtain ⟨g, o, hs, hc⟩ := h
  rcases hs with ⟨rfl | ⟨a, c, rfl⟩, h0⟩ | ⟨cap, rfl, hle, _, _⟩
  · obtain rfl := List.eq_nil_of_length_eq_zero h0
    refine (Tryd.slices_Clone_string_nil 0 0 w).mono ?_
    rintro e w' ⟨rfl, rfl⟩
    exact ⟨_, rfl, World.ownsRow_nil _ _ _ _, Below.refl _ _⟩
  · obtain rfl := List.eq_nil_of_length_eq_zero h0
    refine (Tryd.slices_Clone_string_zero a c w).mono ?_
    rintro e w' ⟨v', rfl, h1, _, h2⟩
    exact ⟨_, rfl, h1, h2⟩
  · refine (Tryd.slices_Clone_string g o l.length cap l w (Nat.le_refl _) (by omega) (fun j hj => ?_)).mono ?_
    · rw [hc j hj, List.getD_eq_getElem?_getD, List.getElem?_eq_getElem hj]; rfl
    · rintro e w' ⟨v', rfl, h1, _, h2⟩
      rw [List.take_length] at h1
      exact ⟨_, rfl, h1, h2⟩
theorem strs_own {W : World} {S : Nat → Prop} {base : Nat} {e : TypeId} {v : Value} {l : List ByteArray} (h : W.ownsRow base e 1 v l.length (l.map Value.string)) (hS : ∀ b, v.ownBlock = some b → S b) : Strs W S v l := by
  rcases h.2 with ⟨rfl, h0⟩ | ⟨g, cap, cur, rfl, hb, hg, hnc, hm, hs, ht⟩
  · exact ⟨0, 0, .inl ⟨.inl rfl, h0⟩, fun i hi => by omega⟩
  · refine ⟨g, 0, .inr ⟨cap, rfl, hnc, hm, hS g (by simp [Value.ownBlock])⟩, fun i hi => ?_⟩
    rw [Nat.zero_add, h.cellAt i (by omega)]
    simp [hi]

/-- What has been filled of the nodes that are reached. -/
def Tr (W4 : World) (tn N : Nat) (G : List GN) (L : List Nat) (j : Nat) (wr : World) : Prop :=
  Below tn W4 wr ∧ wr.heap[tn + 1]? = some (.cells #[.slice (some ⟨tn, 0, none⟩) N N, .int .i64 0] 24) ∧ ∃ cs : Array Value, wr.heap[tn]? = some (.cells cs 37) ∧ cs.size = N * 5 ∧
    ∀ i q, i < j → L[i]? = some q → ∃ x va vl, G[q]? = some x ∧ Nums wr (fun b => tn + 2 ≤ b ∧ b < wr.heap.size) va (trimN L x).args ∧ Strs wr (fun b => tn + 2 ≤ b ∧ b < wr.heap.size) vl x.labels ∧
      cs[i * 5]? = some (.int .i64 x.k) ∧ cs[i * 5 + 1]? = some (.string x.nm) ∧ cs[i * 5 + 2]? = some va ∧ cs[i * 5 + 3]? = some vl ∧ cs[i * 5 + 4]? = some (.bool x.op) ∧ PlainAt wr va

set_option linter.unusedSimpArgs false in
set_option maxHeartbeats 8000000 in
set_option maxRecDepth 100000 in
theorem trim_walk (S : Nat → Prop) (vg : Value) (r : Int) (G : List GN) (w : World) (hok : checkG G r = 0) (hG : GrAt w S vg G) (hS : ∀ b, S b → b < w.heap.size) (sG : Sized G) (lG : G.length ≤ 2000) (aG : ∀ x ∈ G, x.args.length ≤ 2000) :
    Calls Tryd.prog 55 #[.agg #[vg, .int .i64 r]] w fun e w' => ∃ v, e = .returned (.agg #[v, .int .i64 0]) ∧ GrApart w' w.heap.size v (trimL G (reachL G r.toNat)) ∧ Below w.heap.size w w' := by
  obtain ⟨xg, cg, gg, og, rfl, hxg, hng⟩ := hG.open_
  obtain ⟨n, en⟩ : ∃ n, G.length = n := ⟨_, rfl⟩
  obtain ⟨rn, rfl⟩ : ∃ rn : Nat, r = (rn : Int) := ⟨r.toNat, by have := inside_iff.1 (checkG_ok.1 hok).2.1; omega⟩
  rw [show ((rn : Int)).toNat = rn from rfl]
  obtain ⟨hLn, hLl, hLh, hLc⟩ := (reachL_way hok aG).done
  have hN2 : (reachL G rn).length ≤ 2000 := by have := Gu.nodup_le hLn hLl; omega
  have hN0 : 0 < (reachL G rn).length := by
    rcases Nat.eq_zero_or_pos (reachL G rn).length with h | h
    · rw [List.eq_nil_of_length_eq_zero h] at hLh; cases hLh
    · exact h
  rw [en] at hG hxg ⊢ lG
  have B0 : Below w.heap.size w (w.alloc (.cells #[.slice xg n cg, .int .i64 (rn : Int)] 24)) := (Below.refl _ _).alloc (Nat.le_refl _) _
  have B1 : Below w.heap.size w ((w.alloc (.cells #[.slice xg n cg, .int .i64 (rn : Int)] 24)).alloc (.cells #[.slice none 0 0, .int .i64 0] 24)) := B0.alloc (by simp) _
  obtain ⟨W1, hW1⟩ : ∃ W1, (w.alloc (.cells #[.slice xg n cg, .int .i64 (rn : Int)] 24)).alloc (.cells #[.slice none 0 0, .int .i64 0] 24) = W1 := ⟨_, rfl⟩
  rw [hW1] at B1
  have s1 : W1.heap.size = w.heap.size + 2 := by rw [← hW1]; simp
  have b0 : W1.heap[w.heap.size]? = some (.cells #[.slice xg n cg, .int .i64 (rn : Int)] 24) := by rw [← hW1, heap_old (by simp)]; exact heap_last rfl
  have b1 : W1.heap[w.heap.size + 1]? = some (.cells #[.slice none 0 0, .int .i64 0] 24) := by rw [← hW1]; exact heap_last (by simp)
  have C1 := Lib.hid (reach_walk S (.slice xg n cg) rn G W1 (hG.carry (keeps_of B1 hS) fun _ h => h) (fun b hb => by have := hS b hb; omega) hok (by omega) aG)
  have HW1 := Lib.hid hW1
  have H0 := Lib.hid (And.intro hxg (And.intro hng (And.intro en (And.intro hS (And.intro sG (And.intro aG hok))))))
  obtain ⟨L, hL⟩ : ∃ L, reachL G rn = L := ⟨_, rfl⟩
  obtain ⟨N, hN⟩ : ∃ N, L.length = N := ⟨_, rfl⟩
  unfold reachGives at C1
  rw [hL] at C1 hLn hLl hLh hLc hN2 hN0 ⊢
  rw [hN] at C1 hN2 hN0
  have HL := Lib.hid (And.intro hLn (And.intro hLl (And.intro hLh (And.intro hLc hN))))
  have HB1 := Lib.hid (And.intro B1 (And.intro b0 b1))
  clear hxg hng hS sG aG hok hL hLn hLl hLh hLc hN B0 B1 b0 b1 hG hW1
  refine (fun key => key _ (fun _ _ h => h) : (∀ Po : Ending → World → Prop, (∀ e w', (∃ v, e = .returned (.agg #[v, .int .i64 0]) ∧ GrApart w' w.heap.size v (trimL G L) ∧ Below w.heap.size w w') → Po e w') → Calls Tryd.prog 55 #[.agg #[.slice xg n cg, .int .i64 (rn : Int)]] w Po) → _) ?_
  intro Po hPo
  have HPO := Lib.hid hPo
  clear hPo
  go_enter Tryd.func55, Tryd.ntmps55
  go_wp2_with fail
  rw [HW1.out]
  refine C1.out.mono ?_
  rintro e2 W2 ⟨v2, rfl, ho2, hB2⟩
  have s2 := hB2.size
  clear C1 HW1
  obtain ⟨gl, cl, rfl, hgl, hgl1, hcl, hcx⟩ : ∃ gl cl, v2 = .slice (some ⟨gl, 0, none⟩) N cl ∧ gl < W2.heap.size ∧ w.heap.size + 2 ≤ gl ∧ N ≤ cl ∧ cl ≤ maxLen := by
    rcases ho2.2 with ⟨_, h0⟩ | ⟨g, cap, cur, hv, h1, h2, h3, h4, _⟩
    · omega
    · have := ho2.lt g (by rw [hv]; rfl)
      exact ⟨g, cap, hv, this.2, by omega, h3, h4⟩
  unfold maxLen at hcx
  have HO2 : Hid (∀ i q : Nat, L[i]? = some q → W2.cell? ⟨gl, i, none⟩ = some (.int .i64 (q : Int))) := Lib.hid fun i q hq => by
    have hi := (List.getElem?_eq_some_iff.1 hq).1
    rw [ho2.cellAt _ (by have := HL.out.2.2.2.2; omega)]
    unfold nums
    rw [List.getElem?_map, hq]; rfl
  have HB2 := Lib.hid (And.intro (HB1.out.1.trans (hB2.mono (by omega))) (And.intro ((hB2.block w.heap.size (by omega)).trans HB1.out.2.1) ((hB2.block (w.heap.size + 1) (by omega)).trans HB1.out.2.2)))
  clear ho2 hB2 HB1
  have a0 := Lib.cell_of_heap HB2.out.2.1 0
  simp only [List.getElem?_toArray, List.getElem?_cons_zero, List.getElem?_cons_succ] at a0
  have hl2 : w.heap.size < W2.heap.size := by omega
  have hmk := run_make_row' (P := Tryd.prog) 32 3 (.int .i64 0) 8 Tryd.underlying32 intInfo rfl .i64 .i64 n (by omega) (by omega)
  go_wp2_with fail
  clear hmk a0
  obtain ⟨W3, hW3⟩ : ∃ W3, W2.alloc (.cells (madeCells #[.int .i64 0] n) 3) = W3 := ⟨_, rfl⟩
  obtain ⟨pb, hpb⟩ : ∃ pb, W2.heap.size = pb := ⟨_, rfl⟩
  have A3 : Arr W3 pb n fun _ => 0 := by rw [← hW3, ← hpb]; exact arr_made W2 n _
  have B3 : Below pb W2 W3 := by rw [← hW3, ← hpb]; exact (Below.refl _ _).alloc (Nat.le_refl _) _
  rw [hW3, hpb]
  have HP := Lib.hid hpb
  clear hW3
  go_loopg [20] N (fun gk i wr => ∃ (j : Nat) (f : Nat → Nat), gk = N - j ∧ i = .int .i64 (j : Int) ∧ j ≤ N ∧ Arr wr pb n f ∧ Below pb W2 wr ∧ ∀ (i q : Nat), i < j → L[i]? = some q → f q = i)
  case atStart => exact ⟨0, _, by simp, by first | rfl | simp, Nat.zero_le _, A3, B3, fun _ _ h => absurd h (by omega)⟩
  case round =>
    clear A3 B3
    obtain ⟨j, f, rfl, rfl, hj, hA, hB, hf⟩ := hrel
    have sr := hB.size
    by_cases hlt : j < N
    · have hi' : (j : Int) < (N : Int) := by omega
      obtain ⟨q, hq⟩ : ∃ q, L[j]? = some q := ⟨_, List.getElem?_eq_getElem (by have := HL.out.2.2.2.2; omega)⟩
      have hqn : q < n := by have h := HL.out.2.1 q (List.mem_of_getElem? hq); rw [H0.out.2.2.1] at h; exact h
      have hqi : (q : Int) < (n : Int) := by omega
      have e1 : wr.cell? ⟨gl, j, none⟩ = some (.int .i64 (q : Int)) := (World.cell?_of_block (hB.block gl (by omega))).trans (HO2.out j q hq)
      have e2 := hA.cell hqn
      have e3 := hA.frozen q
      have hlw : gl < wr.heap.size := by omega
      have hpw := hA.lt
      have HI := Lib.hid (And.intro hA (And.intro hB (And.intro hf hq)))
      clear hA hB hf hq
      go_wp2_with fail
      go_roundg (N - (j + 1))
      case measure => omega
      case rel =>
        obtain ⟨hA, hB, hf, hq⟩ := HI.out
        refine ⟨j + 1, _, rfl, by first | rfl | simp, hlt, hA.set q j, hB.setCell (p := ⟨pb, q, none⟩) (Nat.le_refl _) _, fun i p hi hp => ?_⟩
        unfold Gu.put
        by_cases e : p = q
        · subst e
          rw [if_pos rfl]
          obtain ⟨h1, h2⟩ := List.getElem?_eq_some_iff.1 hp
          obtain ⟨h3, h4⟩ := List.getElem?_eq_some_iff.1 hq
          rcases Nat.lt_trichotomy i j with h | h | h
          · exact absurd (h2.trans h4.symm) (List.pairwise_iff_getElem.1 HL.out.1 i j h1 h3 h)
          · exact h.symm
          · omega
        · rw [if_neg e]
          refine hf i p ?_ hp
          rcases Nat.lt_or_ge i j with h | h
          · exact h
          · obtain rfl : i = j := by omega
            rw [hq] at hp; cases hp; exact absurd rfl e
    · have hi' : ¬ (j : Int) < (N : Int) := by omega
      obtain rfl : N = j := by omega
      obtain ⟨W4, e4⟩ : ∃ W4, W4 = wr := ⟨_, rfl⟩
      rw [← e4] at hA hB sr ⊢
      clear e4
      have HF : Hid (∀ (i q : Nat), L[i]? = some q → f q = i) := Lib.hid fun i q hq => hf i q (by have h := (List.getElem?_eq_some_iff.1 hq).1; have := HL.out.2.2.2.2; omega) hq
      have HA := Lib.hid hA
      have HB := Lib.hid hB
      have hpw := hA.lt
      clear hA hB hf
      have hmn := run_make_nodes N hN2
      go_wp2_with fail
      clear hmn
      obtain ⟨tn, htn⟩ : ∃ tn, W4.heap.size = tn := ⟨_, rfl⟩
      obtain ⟨W5, hW5⟩ : ∃ W5, (W4.alloc (.cells (madeCells zeroN (N * 5)) 37)).alloc (.cells #[.slice (some ⟨W4.heap.size, 0, none⟩) N N, .int .i64 0] 24) = W5 := ⟨_, rfl⟩
      have T5 : Tr W4 tn N G L 0 W5 := by
        refine ⟨by rw [← hW5, ← htn]; exact ((Below.refl _ _).alloc (Nat.le_refl _) _).alloc (by simp) _, by rw [← hW5, ← htn]; exact heap_last (by simp), _, by rw [← hW5, ← htn, heap_old (by simp)]; exact heap_last rfl, size_madeCells _ _, fun _ _ h => absurd h (by omega)⟩
      rw [hW5, htn]
      have HTN := Lib.hid htn
      have htp : pb < tn := by omega
      have hgt : gl < tn := by omega
      have hwt : w.heap.size + 1 < tn := by omega
      clear hW5
      go_loopg [36] N (fun gk i wr => ∃ j : Nat, gk = N - j ∧ i = .int .i64 (j : Int) ∧ j ≤ N ∧ Tr W4 tn N G L j wr)
      case atStart => exact ⟨0, by simp, by first | rfl | simp, Nat.zero_le _, T5⟩
      case round =>
        clear T5
        obtain ⟨j, rfl, rfl, hj, hT⟩ := hrel
        by_cases hlt : j < N
        · have hi' : (j : Int) < (N : Int) := by omega
          obtain ⟨hB, hbx, cs, hcs, hcz, hdone⟩ := hT
          have sr := hB.size
          rw [HTN.out] at sr
          have hBw : Below w.heap.size w wr := HB2.out.1.trans (((HB.out).mono (by omega)).trans (hB.mono (by omega)))
          obtain ⟨q, hq⟩ : ∃ q, L[j]? = some q := ⟨_, List.getElem?_eq_getElem (by have := HL.out.2.2.2.2; omega)⟩
          have hqG := HL.out.2.1 q (List.mem_of_getElem? hq)
          have e1 : wr.cell? ⟨gl, j, none⟩ = some (.int .i64 (q : Int)) := (World.cell?_of_block ((hB.block gl (by omega)).trans (HB.out.block gl (by have := HP.out; omega)))).trans (HO2.out j q hq)
          have b0 : wr.heap[w.heap.size]? = some (.cells #[.slice xg n cg, .int .i64 (rn : Int)] 24) := ((hB.block w.heap.size (by omega)).trans (HB.out.block w.heap.size (by have := HP.out; omega))).trans HB2.out.2.1
          have a0 := Lib.cell_of_heap b0 0
          have a1 := Lib.cell_of_heap hbx 0
          simp only [List.getElem?_toArray, List.getElem?_cons_zero, List.getElem?_cons_succ] at a0 a1
          have hen := H0.out.2.2.1
          obtain ⟨rfl, hgc, hgx, hSg⟩ := H0.out.1 (by omega)
          obtain ⟨va, vl, hgn⟩ := H0.out.2.1 q hqG
          have hgn2 := hgn.carry (keeps_of hBw H0.out.2.2.2.1) fun _ h => h
          obtain ⟨xa, ca, ga, oa, rfl, hxa, hna⟩ := hgn2.ha.open_
          obtain ⟨xl, cl', gl', ol, rfl, hxl, hnl⟩ := hgn2.hl.open_
          obtain ⟨na, hnal⟩ : ∃ na, (G[q]).args.length = na := ⟨_, rfl⟩
          obtain ⟨nl, hnll⟩ : ∃ nl, (G[q]).labels.length = nl := ⟨_, rfl⟩
          have c0 := hgn2.c0
          have c1 := hgn2.c1
          have c2 := hgn2.c2
          have c3 := hgn2.c3
          have c4 := hgn2.c4
          rw [hnal] at c2 hxa
          rw [hnll] at c3 hxl
          have hqn : (q : Int) < (n : Int) := by omega
          have hgw : gg < wr.heap.size := by have := H0.out.2.2.2.1 gg hSg; have := hBw.size; omega
          have hglw : gl < wr.heap.size := by omega
          have hww : w.heap.size < wr.heap.size := by omega
          have htw : tn < wr.heap.size := (Array.getElem?_eq_some_iff.1 hcs).1
          have htw1 : tn + 1 < wr.heap.size := (Array.getElem?_eq_some_iff.1 hbx).1
          have hgtn : gg ≠ tn := by have := H0.out.2.2.2.1 gg hSg; omega
          unfold maxLen at hgx
          obtain ⟨k0, ek0⟩ : ∃ k0, (G[q]).k = k0 := ⟨_, rfl⟩
          obtain ⟨k1, ek1⟩ : ∃ k1, (G[q]).nm = k1 := ⟨_, rfl⟩
          obtain ⟨k4, ek4⟩ : ∃ k4, (G[q]).op = k4 := ⟨_, rfl⟩
          rw [ek0] at c0
          rw [ek1] at c1
          rw [ek4] at c4
          obtain ⟨og', eog⟩ : ∃ o, og + q * 5 = o := ⟨_, rfl⟩
          rw [eog] at c0 c1 c2 c3 c4
          have ex : ∀ i, i < N * 5 → ∃ u, wr.cell? ⟨tn, i, none⟩ = some u := fun i hi => by
            rw [Lib.cell_of_heap hcs i]
            exact ⟨_, Array.getElem?_eq_getElem (by omega)⟩
          obtain ⟨u0, t0⟩ := ex (j * 5) (by omega)
          obtain ⟨u1, t1⟩ := ex (j * 5 + 1) (by omega)
          obtain ⟨u2, t2⟩ := ex (j * 5 + 2) (by omega)
          obtain ⟨u3, t3⟩ := ex (j * 5 + 3) (by omega)
          obtain ⟨u4, t4⟩ := ex (j * 5 + 4) (by omega)
          have f0 := Lib.frozen_of_heap hcs (j * 5)
          have f1 := Lib.frozen_of_heap hcs (j * 5 + 1)
          have f2 := Lib.frozen_of_heap hcs (j * 5 + 2)
          have f3 := Lib.frozen_of_heap hcs (j * 5 + 3)
          have f4 := Lib.frozen_of_heap hcs (j * 5 + 4)
          clear ex
          go_wp2_with fail
          go_region
          obtain ⟨W6, hW6⟩ : ∃ W6, (((((wr.setCell ⟨tn, j * 5, none⟩ (.int .i64 k0)).setCell ⟨tn, j * 5 + 1, none⟩ (.string k1)).setCell ⟨tn, j * 5 + 2, none⟩ (.slice xa na ca)).setCell ⟨tn, j * 5 + 3, none⟩ (.slice xl nl cl')).setCell ⟨tn, j * 5 + 4, none⟩ (.bool k4)).drew = W6 := ⟨_, rfl⟩
          rw [hW6]
          obtain ⟨cs6, hcs6⟩ : ∃ cs6, set5 cs (j * 5) (.int .i64 k0) (.string k1) (.slice xa na ca) (.slice xl nl cl') (.bool k4) = cs6 := ⟨_, rfl⟩
          have E6 : W6.heap[tn]? = some (.cells cs6 37) := by rw [← hW6, ← hcs6]; exact heap_set5 hcs
          have F6 : Free (fun b => b = tn) wr W6 := by
            rw [← hW6]
            exact free_set5 _ _ _ _ _ _ _ _
          have s6 : W6.heap.size = wr.heap.size := by rw [← hW6]; simp
          have z6 : cs6.size = N * 5 := by rw [← hcs6, set5_size, hcz]
          clear hW6 t0 t1 t2 t3 t4 f0 f1 f2 f3 f4
          have HC6 := Lib.hid hcs6
          have x1 : W6.heap[tn + 1]? = some (.cells #[.slice (some ⟨tn, 0, none⟩) N N, .int .i64 0] 24) := (F6.block _ htw1 (by omega)).trans hbx
          have x0 : W6.heap[w.heap.size]? = some (.cells #[.slice (some ⟨gg, og, none⟩) n cg, .int .i64 (rn : Int)] 24) := (F6.block _ hww (by omega)).trans b0
          have y2 : W6.cell? ⟨gg, og' + 2, none⟩ = some (.slice xa na ca) := (World.cell?_of_block (F6.block gg hgw hgtn)).trans c2
          have y3 : W6.cell? ⟨gg, og' + 3, none⟩ = some (.slice xl nl cl') := (World.cell?_of_block (F6.block gg hgw hgtn)).trans c3
          have HSt : Hid (∀ b, S b → b < wr.heap.size ∧ b ≠ tn) := Lib.hid fun b hb => by have h1 := H0.out.2.2.2.1 b hb; have h2 := hBw.size; omega
          have hgn6 : GnAt W6 S gg og' (.slice xa na ca) (.slice xl nl cl') G[q] := by
            rw [← eog, ← hnal, ← hnll]
            exact hgn2.carry (fun b hb => F6.block b (HSt.out b hb).1 (HSt.out b hb).2) fun _ h => h
          have hna2 : na ≤ 2000 := by rw [← hnal]; exact H0.out.2.2.2.2.2.1 _ (List.getElem_mem hqG)
          have hnl2 : nl ≤ 2000 := by have h := labels_le ((checkG_ok.1 H0.out.2.2.2.2.2.2).2.2 _ (List.getElem_mem hqG)); omega
          have CC : Hid (∀ V, Below W6.heap.size W6 V → Calls Tryd.prog 43 #[.slice xl nl cl'] V fun e w' => ∃ x9 c9, e = .returned (.slice x9 nl c9) ∧ w'.ownsRow W6.heap.size 9 1 (.slice x9 nl c9) (G[q]).labels.length ((G[q]).labels.map Value.string) ∧ Below W6.heap.size W6 w') := Lib.hid fun V hV => by
            refine (clone_any S _ (G[q]).labels V (hgn6.hl.carry (fun b hb => hV.block b (by have := (HSt.out b hb).1; omega)) fun _ h => h) (by omega)).mono ?_
            rintro e w' ⟨v', rfl, h1, h2⟩
            obtain ⟨x9, c9, rfl⟩ := own_shape h1
            rw [hnll] at h1 ⊢
            exact ⟨x9, c9, rfl, own_base h1 hV.size, hV.trans (h2.mono hV.size)⟩
          have hgw6 : gg < W6.heap.size := by omega
          have SO : Hid (∀ V, Below W6.heap.size W6 V → V.cell? ⟨tn + 1, 0, none⟩ = some (.slice (some ⟨tn, 0, none⟩) N N) ∧ V.cell? ⟨w.heap.size, 0, none⟩ = some (.slice (some ⟨gg, og, none⟩) n cg) ∧ V.cell? ⟨gg, og' + 3, none⟩ = some (.slice xl nl cl')) := Lib.hid fun V hV =>
            ⟨(hV.cell (p := ⟨tn + 1, 0, none⟩) (show tn + 1 < W6.heap.size by omega)).trans (Lib.cell_of_heap x1 0), (hV.cell (p := ⟨w.heap.size, 0, none⟩) (show w.heap.size < W6.heap.size by omega)).trans (Lib.cell_of_heap x0 0), (hV.cell (p := ⟨gg, og' + 3, none⟩) hgw6).trans y3⟩
          have ST : Hid (∀ V, Below W6.heap.size W6 V → V.cell? ⟨tn, j * 5 + 3, none⟩ = cs6[j * 5 + 3]? ∧ V.frozen? ⟨tn, j * 5 + 3, none⟩ = false) := Lib.hid fun V hV => by
            have h := (hV.block tn (by omega)).trans E6
            exact ⟨Lib.cell_of_heap h _, Lib.frozen_of_heap h _⟩
          have u3 : cs6[j * 5 + 3]? = some (.slice xl nl cl') := by rw [← HC6.out]; exact (set5_at (by omega)).2.2.2.1
          rw [u3] at ST
          have H6 := Lib.hid (And.intro E6 (And.intro F6 (And.intro z6 (And.intro hgn6 (And.intro x0 (And.intro x1 (And.intro hB (And.intro hdone hq))))))))
          clear a0 a1 c0 c1 c2 c3 c4 e1 hgn hgn2 hcs hbx b0 E6 F6 z6 hgn6 x0 x1 y2 y3 u3 hB hdone hq hcs6
          have hBB : Below W6.heap.size W6 W6.drew := (Below.refl _ _).drew
          go_wp2_with fail
          refine wp_region_held_drew (S := fun V => V.cell? ⟨tn + 1, 0, none⟩ = some (.slice (some ⟨tn, 0, none⟩) N N) ∧ V.cell? ⟨w.heap.size, 0, none⟩ = some (.slice (some ⟨gg, og, none⟩) n cg) ∧ V.cell? ⟨gg, og' + 3, none⟩ = some (.slice xl nl cl')) (by kernel_rfl) (SO.out _ hBB) (fun hHeld => ?_)
          refine wpAnyH_take (i := 0) (v := ?_) rfl (by kernel_rfl) (by kernel_rfl) (by kernel_rfl) (fun _ _ _ h => h) (Or.inl ⟨by rfl, ?_⟩) (by assumption) ?_
          rotate_left
          · intro w hSw
            (try dsimp only at hSw)
            go_simp
            try with_reducible rfl
          try simp only [List.getElem_toArray, List.getElem_cons_zero, List.getElem_cons_succ, Act.put, List.setIfInBounds_toArray, List.set_cons_zero, List.set_cons_succ]
          refine wpAnyH_take (i := 1) (v := ?_) rfl (by kernel_rfl) (by kernel_rfl) (by kernel_rfl) (fun _ _ _ h => h) (Or.inl ⟨by rfl, ?_⟩) (by assumption) ?_
          rotate_left
          · intro w hSw
            (try dsimp only at hSw)
            go_simp
            try with_reducible rfl
          try simp only [List.getElem_toArray, List.getElem_cons_zero, List.getElem_cons_succ, Act.put, List.setIfInBounds_toArray, List.set_cons_zero, List.set_cons_succ]
          refine wpAnyH_take (i := 2) (v := ?_) rfl (by kernel_rfl) (by kernel_rfl) (by kernel_rfl) (fun _ _ _ h => h) (Or.inl ⟨by rfl, ?_⟩) (by assumption) ?_
          rotate_left
          · intro w hSw
            (try dsimp only at hSw)
            go_simp
            try with_reducible rfl
          try simp only [List.getElem_toArray, List.getElem_cons_zero, List.getElem_cons_succ, Act.put, List.setIfInBounds_toArray, List.set_cons_zero, List.set_cons_succ]
          refine wpAnyH_take (i := 3) (v := ?_) rfl (by kernel_rfl) (by kernel_rfl) (by kernel_rfl) (fun _ _ _ h => h) (Or.inl ⟨by rfl, ?_⟩) (by assumption) ?_
          rotate_left
          · intro w hSw
            (try dsimp only at hSw)
            go_simp
            try with_reducible rfl
          try simp only [List.getElem_toArray, List.getElem_cons_zero, List.getElem_cons_succ, Act.put, List.setIfInBounds_toArray, List.set_cons_zero, List.set_cons_succ]
          refine wpAnyH_take (i := 4) (v := ?_) rfl (by kernel_rfl) (by kernel_rfl) (by kernel_rfl) (fun _ _ _ h => h) (Or.inl ⟨by rfl, ?_⟩) (by assumption) ?_
          rotate_left
          · intro w hSw
            (try dsimp only at hSw)
            go_simp
            try with_reducible rfl
          try simp only [List.getElem_toArray, List.getElem_cons_zero, List.getElem_cons_succ, Act.put, List.setIfInBounds_toArray, List.set_cons_zero, List.set_cons_succ]
          refine wpAnyH_take (i := 5) (v := ?_) rfl (by kernel_rfl) (by kernel_rfl) (by kernel_rfl) (fun _ _ _ h => h) (Or.inl ⟨by rfl, ?_⟩) (by assumption) ?_
          rotate_left
          · intro w hSw
            (try dsimp only at hSw)
            go_simp
            try with_reducible rfl
          try simp only [List.getElem_toArray, List.getElem_cons_zero, List.getElem_cons_succ, Act.put, List.setIfInBounds_toArray, List.set_cons_zero, List.set_cons_succ]
          refine wpAnyH_take (i := 6) (v := ?_) rfl (by kernel_rfl) (by kernel_rfl) (by kernel_rfl) (fun _ _ _ h => h) (Or.inl ⟨by rfl, ?_⟩) (by assumption) ?_
          rotate_left
          · intro w hSw
            (try dsimp only at hSw)
            go_simp
            try with_reducible rfl
          try simp only [List.getElem_toArray, List.getElem_cons_zero, List.getElem_cons_succ, Act.put, List.setIfInBounds_toArray, List.set_cons_zero, List.set_cons_succ]
          refine wpAnyH_take (i := 7) (v := ?_) rfl (by kernel_rfl) (by kernel_rfl) (by kernel_rfl) (fun _ _ _ h => h) (Or.inl ⟨by rfl, ?_⟩) (by assumption) ?_
          rotate_left
          · intro w hSw
            (try dsimp only at hSw)
            go_simp
            try with_reducible rfl
          try simp only [List.getElem_toArray, List.getElem_cons_zero, List.getElem_cons_succ, Act.put, List.setIfInBounds_toArray, List.set_cons_zero, List.set_cons_succ]
          refine wpAnyH_take (i := 8) (v := ?_) rfl (by kernel_rfl) (by kernel_rfl) (by kernel_rfl) (fun _ _ _ h => h) (Or.inl ⟨by rfl, ?_⟩) (by assumption) ?_
          rotate_left
          · intro w hSw
            (try dsimp only at hSw)
            go_simp
            try with_reducible rfl
          try simp only [List.getElem_toArray, List.getElem_cons_zero, List.getElem_cons_succ, Act.put, List.setIfInBounds_toArray, List.set_cons_zero, List.set_cons_succ]
          refine wpAnyH_ready (rs := [9]) (by kernel_rfl) (by simp) ?_
          refine AllReadyH.cons (by simp only [List.getElem?_toArray, List.getElem?_cons_zero, List.getElem?_cons_succ]; rfl) (fun K hK => ?_) AllReadyH.nil
          go_simp
          (go_at_call 43; with_reducible refine (CC.out _ hBB).mono ?_; rintro e9 w9 ⟨x9, c9, rfl, hown9, hBB⟩)
          go_wp2_with fail
          refine hK.out _ _ (by first | assumption | exact SO.out _ (by first | exact hBB | exact dN_below hBB _ | exact hBB.drew)) (fun hHeld => ?_)
          try simp only [List.getElem_toArray, List.getElem_cons_zero, List.getElem_cons_succ, Act.put, List.setIfInBounds_toArray, List.set_cons_zero, List.set_cons_succ]
          refine wpAnyH_take (i := 10) (v := ?_) rfl (by kernel_rfl) (by kernel_rfl) (by kernel_rfl) (fun _ _ _ h => h) (Or.inl ⟨by rfl, ?_⟩) (by assumption) ?_
          rotate_left
          · intro w hSw
            (try dsimp only at hSw)
            go_simp
            try with_reducible rfl
          try simp only [List.getElem_toArray, List.getElem_cons_zero, List.getElem_cons_succ, Act.put, List.setIfInBounds_toArray, List.set_cons_zero, List.set_cons_succ]
          refine wpAnyH_take (i := 11) (v := ?_) rfl (by kernel_rfl) (by kernel_rfl) (by kernel_rfl) (fun _ _ _ h => h) (Or.inl ⟨by rfl, ?_⟩) (by assumption) ?_
          rotate_left
          · intro w hSw
            (try dsimp only at hSw)
            go_simp
            try with_reducible rfl
          try simp only [List.getElem_toArray, List.getElem_cons_zero, List.getElem_cons_succ, Act.put, List.setIfInBounds_toArray, List.set_cons_zero, List.set_cons_succ]
          refine wpAnyH_ready (rs := [12]) (by kernel_rfl) (by simp) ?_
          refine AllReadyH.cons (by simp only [List.getElem?_toArray, List.getElem?_cons_zero, List.getElem?_cons_succ]; rfl) (fun K hK => ?_) AllReadyH.nil
          obtain ⟨st1, st2⟩ := ST.out _ hBB
          go_simp
          go_wp2_with fail
          refine hK.out _ _ ⟨(cell_set_ne (by omega)).trans hHeld.1, (cell_set_ne (by omega)).trans hHeld.2.1, (cell_set_ne hgtn).trans hHeld.2.2⟩ (fun hHeld2 => ?_)
          try simp only [List.getElem_toArray, List.getElem_cons_zero, List.getElem_cons_succ, Act.put, List.setIfInBounds_toArray, List.set_cons_zero, List.set_cons_succ]
          refine wpAnyH_done (by kernel_rfl) ?_ _
          obtain ⟨W7, hW7⟩ : ∃ W7, w9.setCell ⟨tn, j * 5 + 3, none⟩ (.slice x9 nl c9) = W7 := ⟨_, rfl⟩
          rw [hW7]
          rw [hW7] at hHeld2
          have E7 : W7.heap[tn]? = some (.cells (cs6.setIfInBounds (j * 5 + 3) (.slice x9 nl c9)) 37) := by rw [← hW7]; exact heap_setCell_same _ _ _ _ _ _ ((hBB.block tn (by omega)).trans H6.out.1)
          have F7 : Free (fun b => b = tn) W6 W7 := by rw [← hW7]; exact free_setCell (M := fun b => b = tn) (free_of hBB) (p := ⟨tn, _, none⟩) rfl _
          have s7 : W7.heap.size = w9.heap.size := by rw [← hW7]; simp
          have s9 := hBB.size
          have O7 : W7.ownsRow W6.heap.size 9 1 (.slice x9 nl c9) (G[q]).labels.length ((G[q]).labels.map Value.string) := by
            refine own_same hown9 fun b hb => ?_
            rw [← hW7]
            exact heap_setCell_other _ _ _ _ (by have := (hown9.lt b hb).1; show b ≠ tn; omega)
          have a1 := hHeld2.1
          have a0 := hHeld2.2.1
          have c2 : W7.cell? ⟨gg, og' + 2, none⟩ = some (.slice xa na ca) := by
            have h := (H6.out.2.2.2.1).c2
            exact (World.cell?_of_block (F7.block gg hgw6 hgtn)).trans h
          obtain ⟨u2, t2⟩ : ∃ u, W7.cell? ⟨tn, j * 5 + 2, none⟩ = some u := by
            rw [Lib.cell_of_heap E7]
            exact ⟨_, Array.getElem?_eq_getElem (by have := H6.out.2.2.1; simp; omega)⟩
          have f2 := Lib.frozen_of_heap E7 (j * 5 + 2)
          have H7 := Lib.hid (And.intro E7 (And.intro F7 O7))
          clear E7 F7 O7 hW7 hBB hHeld hHeld2 hown9 hK st1 st2 SO ST CC
          have hmk := run_make_row' (P := Tryd.prog) 32 3 (.int .i64 0) 8 Tryd.underlying32 intInfo rfl .i64 .i64 na (by omega) (by omega)
          have hgw7 : gg < W7.heap.size := by omega
          have htw7 : tn < W7.heap.size := by omega
          have htw71 : tn + 1 < W7.heap.size := by omega
          have hww7 : w.heap.size < W7.heap.size := by omega
          have hs7 : W6.heap.size ≤ W7.heap.size := by omega
          clear s7 s9
          go_wp2_with fail
          go_region
          clear hmk a0 a1 c2 t2 f2
          obtain ⟨ab, hab⟩ : ∃ ab, W7.heap.size = ab := ⟨_, rfl⟩
          obtain ⟨W8, hW8⟩ : ∃ W8, ((W7.setCell ⟨tn, j * 5 + 2, none⟩ (.slice (some ⟨W7.heap.size, 0, none⟩) na na)).alloc (.cells (madeCells #[.int .i64 0] na) 3)).drew = W8 := ⟨_, rfl⟩
          rw [hW8, hab]
          have E8 : W8.heap[tn]? = some (.cells ((cs6.setIfInBounds (j * 5 + 3) (.slice x9 nl c9)).setIfInBounds (j * 5 + 2) (.slice (some ⟨ab, 0, none⟩) na na)) 37) := by
            rw [← hW8, drew_heap, heap_old (by simp; omega), hab]; exact heap_setCell_same _ _ _ _ _ _ H7.out.1
          have A8 : Arr W8 ab na fun _ => 0 := by
            rw [← hW8]
            have h := arr_made (W7.setCell ⟨tn, j * 5 + 2, none⟩ (.slice (some ⟨W7.heap.size, 0, none⟩) na na)) na 3
            have e : (W7.setCell ⟨tn, j * 5 + 2, none⟩ (.slice (some ⟨W7.heap.size, 0, none⟩) na na)).heap.size = ab := by simp [hab]
            rw [e] at h
            exact h.drew
          have F8 : Free (fun b => b = tn) W7 W8 := by
            rw [← hW8]
            have h1 := free_setCell (M := fun b => b = tn) (Free.refl _ W7) (p := ⟨tn, j * 5 + 2, none⟩) rfl (.slice (some ⟨W7.heap.size, 0, none⟩) na na)
            exact free_drew ⟨h1.os, h1.tape, h1.output, by have := h1.size; simp, fun k hk hn => (heap_old (by simpa using hk)).trans (h1.block k hk hn)⟩
          have s8 : W8.heap.size = ab + 1 := by rw [← hW8, ← hab]; simp
          clear hW8
          have HAR : Hid (∀ k a, (G[q]).args[k]? = some a → ∃ a' : Nat, a = (a' : Int) ∧ a' < n ∧ W8.cell? ⟨ga, oa + k, none⟩ = some (.int .i64 (a' : Int)) ∧ ga < W8.heap.size ∧ ga ≠ ab) := Lib.hid fun k a hka => by
            obtain ⟨hk, ea⟩ := List.getElem?_eq_some_iff.1 hka
            obtain ⟨_, _, _, hSa⟩ := hxa (by omega)
            have h1 := HSt.out ga hSa
            have h2 := args_fit H0.out.2.2.2.2.2.2 hqG a (List.mem_of_getElem? hka)
            refine ⟨a.toNat, by omega, by omega, ?_, by omega, by omega⟩
            have h3 := hna k hk
            rw [ea] at h3
            rw [show ((a.toNat : Nat) : Int) = a by omega]
            exact ((World.cell?_of_block (a := ⟨ga, oa + k, none⟩) (F8.block ga (by omega) h1.2)).trans ((World.cell?_of_block (a := ⟨ga, oa + k, none⟩) (H7.out.2.1.block ga (by omega) h1.2)).trans ((World.cell?_of_block (a := ⟨ga, oa + k, none⟩) (H6.out.2.1.block ga (by omega) h1.2)).trans h3)))
          have XF : Hid (∀ wz, Free (fun b => b = ab) W8 wz → wz.heap[tn + 1]? = some (.cells #[.slice (some ⟨tn, 0, none⟩) N N, .int .i64 0] 24) ∧ wz.heap[w.heap.size]? = some (.cells #[.slice (some ⟨gg, og, none⟩) n cg, .int .i64 (rn : Int)] 24) ∧ wz.cell? ⟨tn, j * 5 + 2, none⟩ = some (.slice (some ⟨ab, 0, none⟩) na na) ∧ wz.cell? ⟨gg, og' + 2, none⟩ = some (.slice xa na ca) ∧ Arr wz pb n f ∧ tn + 2 ≤ ab) := Lib.hid fun wz hF => by
            have k : ∀ b, b < wr.heap.size → b ≠ tn → wz.heap[b]? = W6.heap[b]? := fun b hb hn => (hF.block b (by omega) (by omega)).trans ((F8.block b (by omega) hn).trans (H7.out.2.1.block b (by omega) hn))
            refine ⟨(k _ htw1 (by omega)).trans H6.out.2.2.2.2.2.1, (k _ hww (by omega)).trans H6.out.2.2.2.2.1, ?_, (World.cell?_of_block (a := ⟨gg, og' + 2, none⟩) (k _ hgw hgtn)).trans H6.out.2.2.2.1.c2, ?_, by omega⟩
            · refine (World.cell?_of_block (a := ⟨tn, j * 5 + 2, none⟩) (hF.block tn (by omega) (by omega))).trans ?_
              rw [Lib.cell_of_heap E8]
              exact Array.getElem?_setIfInBounds_self_of_lt (by have := H6.out.2.2.1; simp; omega)
            · refine HA.out.of (((k pb (by omega) (by omega)).trans (H6.out.2.1.block pb (by omega) (by omega))).trans (H6.out.2.2.2.2.2.2.1.block pb htp))
          have TRF : Hid (∀ (wz : World) (g : Nat → Nat), Free (fun b => b = ab) W8 wz → Arr wz ab na g → (∀ (i : Nat) (a : Int), i < na → (G[q]).args[i]? = some a → g i = f a.toNat) → Tr W4 tn N G L (j + 1) wz) := Lib.hid fun wz g hF hA9 hg => by
            obtain ⟨E6, F6, z6, hgn6, _, _, hB, hdone, hq⟩ := H6.out
            have sz := hF.size
            have k : ∀ b, b < wr.heap.size → b ≠ tn → wz.heap[b]? = wr.heap[b]? := fun b hb hn => (hF.block b (by omega) (by omega)).trans ((F8.block b (by omega) hn).trans ((H7.out.2.1.block b (by omega) hn).trans (F6.block b hb hn)))
            have F7 := H7.out.2.1
            have O7 := H7.out.2.2
            have hB9 : Below tn wr wz := ⟨hF.os.trans (F8.os.trans (F7.os.trans F6.os)), hF.tape.trans (F8.tape.trans (F7.tape.trans F6.tape)), hF.output.trans (F8.output.trans (F7.output.trans F6.output)), by omega, fun b hb => k b (by omega) (by omega)⟩
            have z8 : j * 5 + 5 ≤ cs6.size := by omega
            obtain ⟨g0, g1, g2, g3, g4⟩ := set5_at (cs := cs) (o := j * 5) (v0 := .int .i64 k0) (v1 := .string k1) (v2 := .slice xa na ca) (v3 := .slice xl nl cl') (v4 := .bool k4) (by omega)
            rw [HC6.out] at g0 g1 g2 g3 g4
            refine ⟨hB.trans hB9, (XF.out wz hF).1, _, (hF.block tn (by omega) (by omega)).trans E8, by simp [z6], fun i p hi hp => ?_⟩
            have hKeep : Keeps (fun b => tn + 2 ≤ b ∧ b < wr.heap.size) wr wz := fun b hb => k b hb.2 (by omega)
            by_cases e : i = j
            · subst e
              obtain rfl : p = q := by rw [hp] at hq; exact Option.some.inj hq
              refine ⟨G[p], .slice (some ⟨ab, 0, none⟩) na na, .slice x9 nl c9, List.getElem?_eq_getElem hqG, ?_, ?_, ?_, ?_, ?_, ?_, ?_, ?_⟩
              · have hl : (trimN L G[p]).args.length = na := by rw [← hnal]; simp [trimN]
                refine ⟨ab, 0, .inr ⟨na, by rw [hl], by rw [hl]; exact Nat.le_refl _, by unfold maxLen; omega, by omega⟩, fun m hm => ?_⟩
                rw [hl] at hm
                rw [Nat.zero_add, hA9.cell hm]
                obtain ⟨a, ha⟩ : ∃ a, (G[p]).args[m]? = some a := ⟨_, List.getElem?_eq_getElem (show m < (G[p]).args.length by omega)⟩
                have hgm := hg m a hm ha
                have haL : a.toNat ∈ L := HL.out.2.2.2.1 p (List.mem_of_getElem? hq) _ (by rw [argsOf_eq hqG]; exact List.mem_map_of_mem (List.mem_of_getElem? ha))
                have hix := List.idxOf_lt_length_of_mem haL
                have h5 := HF.out (L.idxOf a.toNat) a.toNat (by rw [List.getElem?_eq_getElem hix, List.getElem_idxOf])
                have h6 : (trimN L G[p]).args[m]? = some ((L.idxOf a.toNat : Nat) : Int) := by simp [trimN, ha]
                rw [hgm, h5]
                obtain ⟨_, h7⟩ := List.getElem?_eq_some_iff.1 h6
                rw [h7]
              · refine strs_own (own_same O7 fun b hb => ?_) fun b hb => ?_
                · have h1 := O7.lt b hb
                  exact (hF.block b (by omega) (by omega)).trans (F8.block b (by omega) (by omega))
                · have h1 := O7.lt b hb
                  omega
              · rw [Array.getElem?_setIfInBounds_ne (by omega), Array.getElem?_setIfInBounds_ne (by omega), g0, ek0]
              · rw [Array.getElem?_setIfInBounds_ne (by omega), Array.getElem?_setIfInBounds_ne (by omega), g1, ek1]
              · exact Array.getElem?_setIfInBounds_self_of_lt (by simp; omega)
              · rw [Array.getElem?_setIfInBounds_ne (by omega)]; exact Array.getElem?_setIfInBounds_self_of_lt (by omega)
              · rw [Array.getElem?_setIfInBounds_ne (by omega), Array.getElem?_setIfInBounds_ne (by omega), g4, ek4]
              · intro a n' c' hv _
                cases hv
                obtain ⟨cs', T', h', _⟩ := hA9
                exact ⟨cs', T', h'⟩
            · obtain ⟨x, va, vl, h0, h1, h2, h3, h4, h5, h6, h7, h8⟩ := hdone i p (by omega) hp
              have old : ∀ c, c < 5 → ((cs6.setIfInBounds (j * 5 + 3) (.slice x9 nl c9)).setIfInBounds (j * 5 + 2) (.slice (some ⟨ab, 0, none⟩) na na))[i * 5 + c]? = cs[i * 5 + c]? := fun c hc => by
                rw [Array.getElem?_setIfInBounds_ne (by omega), Array.getElem?_setIfInBounds_ne (by omega), ← HC6.out, set5_old (by omega)]
              exact ⟨x, va, vl, h0, h1.carry hKeep (fun b hb => by omega), h2.carry hKeep (fun b hb => by omega), (old 0 (by omega)).trans h3, (old 1 (by omega)).trans h4, (old 2 (by omega)).trans h5, (old 3 (by omega)).trans h6, (old 4 (by omega)).trans h7, h8.carry h1 hKeep⟩
          have H8 := Lib.hid (And.intro E8 (And.intro F8 s8))
          have xf := XF.out W8 (Free.refl _ _)
          have a0 := Lib.cell_of_heap xf.2.1 0
          have c2 := xf.2.2.2.1
          simp only [List.getElem?_toArray, List.getElem?_cons_zero, List.getElem?_cons_succ] at a0
          have hgw8 : gg < W8.heap.size := by omega
          have hww8 : w.heap.size < W8.heap.size := by omega
          clear E8 F8 xf
          go_wp2_with fail
          clear a0 c2
          go_loopg [82] na (fun gk i wz => ∃ (k : Nat) (g : Nat → Nat), gk = na - k ∧ i = .int .i64 (k : Int) ∧ k ≤ na ∧ Arr wz ab na g ∧ Free (fun b => b = ab) W8 wz ∧ ∀ (i : Nat) (a : Int), i < k → (G[q]).args[i]? = some a → g i = f a.toNat)
          case atStart => exact ⟨0, _, by simp, by first | rfl | simp, Nat.zero_le _, A8, Free.refl _ _, fun _ _ h => absurd h (by omega)⟩
          case round =>
            clear A8
            obtain ⟨k, g, rfl, rfl, hk, hAz, hFz, hg⟩ := hrel
            have sz := hFz.size
            by_cases hlk : k < na
            · have hi2 : (k : Int) < (na : Int) := by omega
              obtain ⟨a, hka⟩ : ∃ a, (G[q]).args[k]? = some a := ⟨_, List.getElem?_eq_getElem (show k < (G[q]).args.length by omega)⟩
              obtain ⟨a', rfl, han, hac, haw, hane⟩ := HAR.out k a hka
              have c5 := (World.cell?_of_block (a := ⟨ga, oa + k, none⟩) (hFz.block ga haw hane)).trans hac
              obtain ⟨rfl, hac1, hac2, _⟩ := hxa (by omega)
              unfold maxLen at hac2
              obtain ⟨x1, x0, x2, x3, xP, _⟩ := XF.out _ hFz
              have a1 := Lib.cell_of_heap x1 0
              simp only [List.getElem?_toArray, List.getElem?_cons_zero, List.getElem?_cons_succ] at a1
              have c6 := xP.cell han
              have c7 := hAz.cell hlk
              have f7 := hAz.frozen k
              have han2 : (a' : Int) < (n : Int) := by omega
              have l1 : tn < wr.heap.size := by omega
              have HK := Lib.hid (And.intro hAz (And.intro hFz (And.intro hg hka)))
              clear hAz hFz hg hka x0 x1 xP x3 hac
              go_wp2_with fail
              go_region
              go_wp2_with fail
              go_roundg (na - (k + 1))
              case measure => omega
              case rel =>
                obtain ⟨hAz, hFz, hg, hka⟩ := HK.out
                refine ⟨k + 1, _, rfl, by first | rfl | simp, hlk, (hAz.set k (f a')).drew, free_drew (free_setCell hFz (p := ⟨ab, k, none⟩) rfl _), fun i a hi ha => ?_⟩
                unfold Gu.put
                by_cases e : i = k
                · subst e
                  rw [if_pos rfl]
                  rw [ha] at hka
                  cases hka
                  rfl
                · rw [if_neg e]
                  exact hg i a (by omega) ha
            · have hi2 : ¬ (k : Int) < (na : Int) := by omega
              obtain rfl : na = k := by omega
              have hT9 := TRF.out _ g hFz hAz hg
              have HT9 := Lib.hid hT9
              clear hFz hAz hg hT9
              go_wp2_with fail
              go_roundg (N - (j + 1))
              case measure => omega
              case rel => exact ⟨j + 1, rfl, by first | rfl | simp, hlt, HT9.out⟩
        · have hi' : ¬ (j : Int) < (N : Int) := by omega
          have EJ : Hid (N = j) := Lib.hid (by omega)
          obtain ⟨hB, hbx, cs, hcs, hcz, hdone⟩ := hT
          have sr := hB.size
          rw [HTN.out] at sr
          have hbr : wr.heap[w.heap.size + 1]? = some (.cells #[.slice none 0 0, .int .i64 0] 24) := ((hB.block (w.heap.size + 1) (by omega)).trans (HB.out.block (w.heap.size + 1) (by have := HP.out; omega))).trans HB2.out.2.2
          have hBw : Below w.heap.size w wr := HB2.out.1.trans (((HB.out).mono (by omega)).trans (hB.mono (by omega)))
          have a0 := Lib.cell_of_heap hbx 0
          have a1 := Lib.cell_of_heap hbx 1
          have r0 := Lib.cell_of_heap hbr 0
          have r1 := Lib.cell_of_heap hbr 1
          have fr0 := Lib.frozen_of_heap hbr 0
          have fr1 := Lib.frozen_of_heap hbr 1
          simp only [List.getElem?_toArray, List.getElem?_cons_zero, List.getElem?_cons_succ] at a0 a1 r0 r1
          have htw : tn < wr.heap.size := (Array.getElem?_eq_some_iff.1 hcs).1
          have htw1 : tn + 1 < wr.heap.size := (Array.getElem?_eq_some_iff.1 hbx).1
          have htw2 : w.heap.size + 1 < wr.heap.size := by omega
          have HZ := Lib.hid (And.intro hB (And.intro hbx (And.intro hcs (And.intro hcz (And.intro hdone (And.intro hbr hBw))))))
          clear hB hbx hcs hcz hdone hbr hBw hlt hj
          have FIN : Hid (∀ a : Act, a.defers = [] → a.tmps[2]? = some (.pointer (some ⟨w.heap.size + 1, 0, none⟩)) → bodyPost Tryd.prog Tryd.f55 Po Exit.ret a ((wr.setCell ⟨w.heap.size + 1, 0, none⟩ (.slice (some ⟨tn, 0, none⟩) N N)).setCell ⟨w.heap.size + 1, 1, none⟩ (.int .i64 0))) := Lib.hid fun a ha0 ha2 => by
            obtain ⟨hB, hbx, hcs, hcz, hdone, hbr, hBw⟩ := HZ.out
            have g1 := heap_setCell_same wr (w.heap.size + 1) 0 _ _ (.slice (some ⟨tn, 0, none⟩) N N) hbr
            have g2 := heap_setCell_same _ (w.heap.size + 1) 1 _ _ (.int .i64 0) g1
            obtain ⟨W9, hW9⟩ : ∃ W9, (wr.setCell ⟨w.heap.size + 1, 0, none⟩ (.slice (some ⟨tn, 0, none⟩) N N)).setCell ⟨w.heap.size + 1, 1, none⟩ (.int .i64 0) = W9 := ⟨_, rfl⟩
            rw [hW9] at g2 ⊢
            have k : ∀ b, b ≠ w.heap.size + 1 → W9.heap[b]? = wr.heap[b]? := fun b hb => by
              rw [← hW9]
              exact (heap_setCell_other _ ⟨w.heap.size + 1, 1, none⟩ b _ hb).trans (heap_setCell_other _ ⟨w.heap.size + 1, 0, none⟩ b _ hb)
            have s9 : W9.heap.size = wr.heap.size := by rw [← hW9]; simp
            have B9 : Below w.heap.size w W9 := by rw [← hW9]; exact (hBw.setCell (p := ⟨w.heap.size + 1, 0, none⟩) (Nat.le_succ _) _).setCell (p := ⟨w.heap.size + 1, 1, none⟩) (Nat.le_succ _) _
            refine bodyPost_ret (results_graph rfl _ _ (w.heap.size + 1) (.slice (some ⟨tn, 0, none⟩) N N) (.int .i64 0) ha2 (by rw [Lib.cell_of_heap g2]; rfl) (by rw [Lib.cell_of_heap g2]; rfl)) ha0 (HPO.out _ _ ⟨_, rfl, ?_, B9⟩)
            have hlen : (trimL G L).length = N := (trimL_len HL.out.2.1).trans HL.out.2.2.2.2
            refine ⟨tn, by rw [hlen], by omega, by omega, by rw [hlen]; unfold maxLen; omega, fun i hi => ?_⟩
            rw [hlen] at hi
            have hiL : i < L.length := by have := HL.out.2.2.2.2; omega
            obtain ⟨x, va, vl, h0, h1, h2, h3, h4, h5, h6, h7, h8⟩ := hdone i L[i] (by have := EJ.out; omega) (List.getElem?_eq_getElem hiL)
            have ex : (trimL G L)[i]'(by omega) = trimN L x := by
              have hg := trimL_get HL.out.2.1 hiL
              obtain ⟨_, e1⟩ := List.getElem?_eq_some_iff.1 hg
              obtain ⟨_, e2⟩ := List.getElem?_eq_some_iff.1 h0
              rw [e1, e2]
            rw [ex]
            have hK : Keeps (fun b => tn + 2 ≤ b ∧ b < wr.heap.size) wr W9 := fun b hb => k b (by omega)
            have hc : ∀ c, W9.cell? ⟨tn, i * 5 + c, none⟩ = cs[i * 5 + c]? := fun c => (World.cell?_of_block (a := ⟨tn, i * 5 + c, none⟩) (k tn (by omega))).trans (Lib.cell_of_heap hcs _)
            exact ⟨va, vl, (hc 0).trans h3, (hc 1).trans h4, (hc 2).trans h5, (hc 3).trans h6, (hc 4).trans h7, h1.carry hK (fun b hb => by omega), h2.carry hK (fun b hb => by omega), h8.carry h1 hK⟩
          have HC := Lib.hid (And.intro a0 (And.intro a1 (And.intro r0 (And.intro r1 (And.intro fr0 fr1)))))
          clear a0 a1 r0 r1 fr0 fr1
          go_wp2_with (first
            | (refine wpList_load2 rfl (.tmp 7) rfl (tn + 1) _ _ rfl HC.out.1 HC.out.2.1 ?_)
            | (refine wpList_store2 rfl (.tmp 2) (.tmp 101) rfl (w.heap.size + 1) (some ⟨tn, 0, none⟩) N N 0 rfl rfl _ _ HC.out.2.2.1 HC.out.2.2.2.1 HC.out.2.2.2.2.1 HC.out.2.2.2.2.2 ?_; go_step; go_step; (rename_i kk ak); (refine ak _ _ ?_); go_step; exact FIN.out _ rfl rfl))
end Go.Proofs.YtkbmkmpoapafaaaDoor
