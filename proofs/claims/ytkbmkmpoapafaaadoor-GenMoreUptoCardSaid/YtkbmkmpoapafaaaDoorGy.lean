/- Nodes as cells of a row; a row that has grown. -/
import Derived.Test.YtkbmkmpoapafaaaDoorGh
import Derived.Maps.AppendAt
import Derived.Laws.AppendOwnNone
import Derived.Deep.Slices
namespace Go.Proofs.YtkbmkmpoapafaaaDoor
open Go.ChangeShapes Go.WideShapes Go.ChangeAt Go.RowKit

theorem wpList_append_sl {P : Program} {w : World} {ops : Array Oper} {rest : List Oper} {o : Oper} {a : Act} {Q : Exit → Act → World → Prop} (hgd : o.guard = none) (s x : Operand) (t : TypeId)
    (ho : o.op = .call { callee := .builtin .append, args := #[s, x], argTypes := #[t, t] })
    (base : Nat) (e : TypeId) (i : TypeInfo) (z : Value) (size bytes : Nat) (ht : P.underlying t = some (.slice e)) (hi : P.info? e = some i) (hz : i.zero = some z)
    (hsize : i.size = size) (hby : i.bytes = bytes) (hzs : z.cells.size = size) (hsz : 0 < size)
    (v : Value) (n : Nat) (xs : List Value) (hs : a.eval s = v) (hown : w.ownsRow base e size v n xs)
    (S : Nat → Prop) (vx : Value) (m g og : Nat) (hx : a.eval x = vx) (hsl : Sl S vx m g og) (news : List Value) (hl : news.length = m * size) (hnews : ∀ j u, news[j]? = some u → w.cell? ⟨g, og + j, none⟩ = some u) (h1 : ∀ u ∈ news, u.oneCell' = true)
    (h63 : n + m ≤ maxLen) (hbytes : (n + m) * bytes ≤ 140737488355328) (hbase : base ≤ w.heap.size)
    (h : ∀ v' w', w'.ownsRow base e size v' (n + m) (xs ++ news) → w.grownBy w' v.ownBlock → (v'.ownBlock = v.ownBlock ∨ v'.ownBlock = some w.heap.size) → wpList P ops Q rest (a.put o.dst v') w') : wpList P ops Q (o :: rest) a w := by
  rcases hsl with ⟨rfl | ⟨ad, cp, rfl⟩, rfl⟩ | ⟨cap, rfl, _, _, _⟩
  rotate_left
  · have hn : news = [] := List.eq_nil_of_length_eq_zero (by simpa using hl)
    subst hn
    exact wpList_append_own_at w hgd s x t ho base e i z size bytes ht hi hz hsize hby hzs hsz v n xs hs hown ad 0 cp [] hx hl (fun j u hj => by cases hj) h1 h63 hbytes hbase (fun v' w' a b _ c => h v' w' a b c)
  rotate_left
  · have hn : news = [] := List.eq_nil_of_length_eq_zero (by simpa using hl)
    subst hn
    exact wpList_append_own_none hgd s x t ho base e i size ht hi v n xs hs hown hx (h v w (by simpa using hown) (World.grownBy.refl w _) (.inl rfl))
  · refine wpList_append_own_at w hgd s x t ho base e i z size bytes ht hi hz hsize hby hzs hsz v n xs hs hown ⟨g, og, none⟩ m cap news hx hl (fun j u hj => ?_) h1 h63 hbytes hbase (fun v' w' a b _ c => h v' w' a b c)
    have hadd : (⟨g, og, none⟩ : Addr).add j = ⟨g, og + j, none⟩ := by unfold Addr.add; split <;> simp_all
    rw [hadd]; exact hnews j u hj

/-- Nodes, as cells. -/
inductive NC (W : World) (S : Nat → Prop) : List GN → List Value → Prop
  | nil : NC W S [] []
  | cons {x : GN} {va vl : Value} {l : List GN} {cs : List Value} (ha : Nums W S va x.args) (hl : Strs W S vl x.labels) (h : NC W S l cs) : NC W S (x :: l) (.int .i64 x.k :: .string x.nm :: va :: vl :: .bool x.op :: cs)
theorem NC.append {W : World} {S : Nat → Prop} {l m : List GN} {cs ds : List Value} (h : NC W S l cs) (g : NC W S m ds) : NC W S (l ++ m) (cs ++ ds) := by
  induction h with
  | nil => exact g
  | cons ha hl _ ih => exact .cons ha hl ih
theorem NC.carry {W W' : World} {S S' : Nat → Prop} {l : List GN} {cs : List Value} (h : NC W S l cs) (hk : Keeps S W W') (hS : ∀ b, S b → S' b) : NC W' S' l cs := by
  induction h with
  | nil => exact .nil
  | cons ha hl _ ih => exact .cons (ha.carry hk hS) (hl.carry hk hS) ih
theorem NC.len {W : World} {S : Nat → Prop} {l : List GN} {cs : List Value} (h : NC W S l cs) : cs.length = l.length * 5 := by
  induction h with
  | nil => rfl
  | cons ha hl _ ih => simp only [List.length_cons, ih]; omega
theorem NC.one {W : World} {S : Nat → Prop} {l : List GN} {cs : List Value} (h : NC W S l cs) : ∀ u ∈ cs, u.oneCell' = true := by
  induction h with
  | nil => exact fun u hu => by cases hu
  | cons ha hl _ ih =>
    obtain ⟨x, c, g, o, rfl, _⟩ := ha.open_
    obtain ⟨x, c, g, o, rfl, _⟩ := hl.open_
    intro u hu
    simp only [List.mem_cons] at hu
    rcases hu with rfl | rfl | rfl | rfl | rfl | hu
    iterate 5 rfl
    exact ih u hu
theorem NC.get {W : World} {S : Nat → Prop} {l : List GN} {cs : List Value} (h : NC W S l cs) : ∀ i (hi : i < l.length), ∃ va vl, Nums W S va l[i].args ∧ Strs W S vl l[i].labels ∧ cs[i * 5]? = some (.int .i64 l[i].k) ∧ cs[i * 5 + 1]? = some (.string l[i].nm) ∧ cs[i * 5 + 2]? = some va ∧ cs[i * 5 + 3]? = some vl ∧ cs[i * 5 + 4]? = some (.bool l[i].op) := by
  induction h with
  | nil => exact fun i hi => absurd hi (by simp)
  | @cons x va vl l cs ha hl _ ih =>
    intro i hi
    match i, hi with
    | 0, _ => exact ⟨va, vl, ha, hl, rfl, rfl, rfl, rfl, rfl⟩
    | i + 1, hi =>
      obtain ⟨va, vl, h1, h2, h3, h4, h5, h6, h7⟩ := ih i (by simpa using hi)
      have e : ∀ k, (Value.int .i64 x.k :: .string x.nm :: va :: vl :: .bool x.op :: cs)[(i + 1) * 5 + k]? = cs[i * 5 + k]? := fun k => by
        rw [show (i + 1) * 5 + k = (i * 5 + k) + 1 + 1 + 1 + 1 + 1 by omega]
        simp only [List.getElem?_cons_succ]
      refine ⟨va, vl, h1, h2, ?_, ?_, ?_, ?_, ?_⟩
      · rw [show (i + 1) * 5 = (i * 5) + 1 + 1 + 1 + 1 + 1 by omega]
        simp only [List.getElem?_cons_succ]
        exact h3
      · rw [show (i + 1) * 5 + 1 = (i * 5 + 1) + 1 + 1 + 1 + 1 + 1 by omega]
        simp only [List.getElem?_cons_succ]
        exact h4
      · rw [show (i + 1) * 5 + 2 = (i * 5 + 2) + 1 + 1 + 1 + 1 + 1 by omega]
        simp only [List.getElem?_cons_succ]
        exact h5
      · rw [show (i + 1) * 5 + 3 = (i * 5 + 3) + 1 + 1 + 1 + 1 + 1 by omega]
        simp only [List.getElem?_cons_succ]
        exact h6
      · rw [show (i + 1) * 5 + 4 = (i * 5 + 4) + 1 + 1 + 1 + 1 + 1 by omega]
        simp only [List.getElem?_cons_succ]
        exact h7
/-- The cells of a graph's row. -/
theorem NC.of {W : World} {S : Nat → Prop} {g : Nat} : ∀ (l : List GN) (o : Nat), (∀ i (h : i < l.length), ∃ va vl, GnAt W S g (o + i * 5) va vl l[i]) → ∃ cs, NC W S l cs ∧ ∀ j u, cs[j]? = some u → W.cell? ⟨g, o + j, none⟩ = some u
  | [], _, _ => ⟨[], .nil, fun j u h => by cases h⟩
  | x :: l, o, h => by
    obtain ⟨va, vl, h0⟩ := h 0 (by simp)
    obtain ⟨cs, h1, h2⟩ := NC.of l (o + 5) (fun i hi => by
      obtain ⟨va, vl, h3⟩ := h (i + 1) (by simpa using hi)
      refine ⟨va, vl, ?_⟩
      rw [show o + (i + 1) * 5 = o + 5 + i * 5 by omega] at h3
      exact h3)
    refine ⟨_, .cons h0.ha h0.hl h1, fun j u hj => ?_⟩
    obtain ⟨hb, c0, c1, c2, c3, c4, _, _⟩ := h0
    simp only [Nat.zero_mul, Nat.add_zero, List.getElem_cons_zero] at c0 c1 c2 c3 c4
    match j, hj with
    | 0, hj => cases hj; exact c0
    | 1, hj => cases hj; exact c1
    | 2, hj => cases hj; exact c2
    | 3, hj => cases hj; exact c3
    | 4, hj => cases hj; exact c4
    | j + 5, hj =>
      simp only [List.getElem?_cons_succ] at hj
      have := h2 j u hj
      rw [show o + (j + 5) = o + 5 + j by omega]
      exact this
theorem nc_of {W : World} {S : Nat → Prop} {v : Value} {l : List GN} (h : GrAt W S v l) : ∃ g o cs, Sl S v l.length g o ∧ NC W S l cs ∧ ∀ j u, cs[j]? = some u → W.cell? ⟨g, o + j, none⟩ = some u := by
  obtain ⟨g, o, h1, h2⟩ := h
  obtain ⟨cs, h3, h4⟩ := NC.of l o h2
  exact ⟨g, o, cs, h1, h3, h4⟩
/-- A row of one's own that holds nodes is a graph's row. -/
theorem gr_own {W : World} {S S' : Nat → Prop} {base : Nat} {v : Value} {l : List GN} {cs : List Value} {e : TypeId} (h : W.ownsRow base e 5 v l.length cs) (hn : NC W S l cs) (hS : ∀ b, S b → S' b) (hv : ∀ b, v.ownBlock = some b → S' b) : GrAt W S' v l := by
  rcases h.2 with ⟨rfl, h0⟩ | ⟨g, cap, cur, rfl, hb, hg, hnc, hm, hs, ht⟩
  · exact ⟨0, 0, .inl ⟨.inl rfl, h0⟩, fun i hi => by omega⟩
  · have hb' := hv g (by simp [Value.ownBlock])
    have hc := fun j hj => h.cellAt j hj
    refine ⟨g, 0, .inr ⟨cap, rfl, hnc, hm, hb'⟩, fun i hi => ?_⟩
    obtain ⟨va, vl, h1, h2, h3, h4, h5, h6, h7⟩ := hn.get i hi
    rw [Nat.zero_add]
    have hk : Keeps S W W := fun _ _ => rfl
    exact ⟨va, vl, hb', (hc (i * 5) (by omega)).trans h3, (hc (i * 5 + 1) (by omega)).trans h4, (hc (i * 5 + 2) (by omega)).trans h5, (hc (i * 5 + 3) (by omega)).trans h6, (hc (i * 5 + 4) (by omega)).trans h7, h1.carry hk hS, h2.carry hk hS⟩
/-- Cells of a graph's row lie there later too. -/
theorem cells_carry {W W' : World} {gs os : Nat} {news : List Value} (hc : ∀ j u, news[j]? = some u → W.cell? ⟨gs, os + j, none⟩ = some u) (hB : Below W.heap.size W W') : ∀ j u, news[j]? = some u → W'.cell? ⟨gs, os + j, none⟩ = some u := fun j u hj => by
  have h := hc j u hj
  have hb : gs < W.heap.size := by
    rcases Nat.lt_or_ge gs W.heap.size with h' | h'
    · exact h'
    · simp [World.cell?, Array.getElem?_eq_none h'] at h
  exact (hB.cell (p := ⟨gs, os + j, none⟩) hb).trans h
theorem own_lit0 (W : World) (e : TypeId) (size : Nat) : (W.alloc (.cells #[] e)).ownsRow W.heap.size e size (.slice (some ⟨W.heap.size, 0, none⟩) 0 0) 0 [] := by
  have := World.ownsRow_lit (base := W.heap.size) (e := e) (size := size) W #[] 0 (Nat.le_refl _) (by decide) (by simp)
  simpa using this
theorem new_cells2 (w : World) (o : Obj) (l : List Value) (T : TypeId) : ∀ j u, l[j]? = some u → ((w.alloc o).alloc (.cells l.toArray T)).cell? ((⟨w.heap.size + 1, 0, none⟩ : Addr).add j) = some u := by
  have h := new_cells (w.alloc o) l T
  have e : (w.alloc o).heap.size = w.heap.size + 1 := by simp
  rw [e] at h
  exact h
/-- Nodes appended to a row that holds a graph's nodes. -/
theorem row_more {W3 W4 W5 W6 : World} {S : Nat → Prop} {G m : List GN} {news ten : List Value} {v9 v2 : Value} {n k B : Nat} {e : TypeId} (hb : B = W3.heap.size) (hnc : NC W3 S G news) (hS : ∀ b, S b → b < W3.heap.size) (hown : W4.ownsRow B e 5 v9 n news) (B4 : Below B W3 W4) (B5 : Below W4.heap.size W4 W5)
    (hg : W5.grownBy W6 v9.ownBlock) (hown2 : W6.ownsRow B e 5 v2 (n + k) (news ++ ten)) (hk : (G ++ m).length = n + k) (hm : NC W5 (fun b => W4.heap.size ≤ b ∧ b < W5.heap.size) m ten) :
    GrAt W6 (fun b => b < W6.heap.size) v2 (G ++ m) ∧ Below W3.heap.size W3 W6 := by
  subst hb
  have s4 := B4.size
  have s5 := B5.size
  have B6 : Below W3.heap.size W3 W6 := (B4.trans (B5.mono s4)).grown hg (by omega) (fun b hb => (hown.lt b hb).1)
  have s6 := hg.size
  refine ⟨gr_own (S := fun b => b < W6.heap.size) (by rw [hk]; exact hown2) ((hnc.carry (keeps_of B6 hS) fun b hb => ?_).append (hm.carry (fun b hb => ?_) fun b hb => ?_)) (fun _ h => h) (fun b hb => (hown2.lt b hb).2), B6⟩
  · have := hS b hb; omega
  · refine hg.block b hb.2 fun h => ?_
    have := (hown.lt b h.symm).2
    omega
  · omega
end Go.Proofs.YtkbmkmpoapafaaaDoor
