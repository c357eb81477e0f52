/- trefoillaw06.GraphTurns. -/
import Derived.Test.YtelmigkbofnicaaDoorZp
import Derived.Test.YtelmigkbofnicaaDoorTm
import Derived.Test.YtelmigkbofnicaaDoorGy
import Derived.Test.YtelmigkbofnicaaDoorGg
import Derived.Test.YtelmigkbofnicaaDoorGv
import Derived.Test.YtelmigkbofnicaaDoorGj
import Derived.Test.YtelmigkbofnicaaDoorGs
import Derived.BigRegion
import Derived.Deep.Cut
import Derived.Deep.CutRange
namespace Go.Proofs.YtelmigkbofnicaaDoor
open Go.ChangeShapes Go.WideShapes Go.ChangeAt Go.RowKit

def numsI (l : List Int) : List Value := l.map (Value.int .i64)
theorem numsI_append (l m : List Int) : numsI (l ++ m) = numsI l ++ numsI m := by simp [numsI]
theorem nums_own {W : World} {S : Nat → Prop} {base : Nat} {e : TypeId} {v : Value} {l : List Int} (h : W.ownsRow base e 1 v l.length (numsI l)) (hS : ∀ b, v.ownBlock = some b → S b) : Nums W S v l := by
  have h' := h
  rcases h.2 with ⟨rfl, h0⟩ | ⟨g, cap, cur, rfl, hb, hg, h1, h2, _⟩
  · exact ⟨0, 0, .inl ⟨.inl rfl, h0⟩, fun i hi => by omega⟩
  · refine ⟨g, 0, .inr ⟨cap, rfl, h1, h2, hS g (by simp [Value.ownBlock])⟩, fun i hi => ?_⟩
    have := h'.cells (g := g) (by simp [Value.ownBlock]) i (.int .i64 l[i]) (by unfold numsI; rw [List.getElem?_map, List.getElem?_eq_getElem hi]; rfl)
    rw [Nat.zero_add]
    have e : (⟨g, 0, none⟩ : Addr).add i = ⟨g, i, none⟩ := by unfold Addr.add; split <;> simp_all
    rw [e] at this
    exact this
/-- Where rows of nodes may lie: not where the nodes and the graph are. -/
def Rw (tn hb : Nat) (W : World) (b : Nat) : Prop := b < W.heap.size ∧ b ≠ tn ∧ b ≠ hb
/-- So many nodes stand in their new places. -/
def Tu (B : Nat) (W4 : World) (tn hb n b rt : Nat) (G : List GN) (j : Nat) (wr : World) : Prop :=
  Below B W4 wr ∧ wr.heap[hb]? = some (.cells #[.slice (some ⟨tn, 0, none⟩) n n, .int .i64 (rt : Int)] 24) ∧ ∃ cs : Array Value, wr.heap[tn]? = some (.cells cs 36) ∧ cs.size = n * 5 ∧
    ∀ i x, i < j → G[i]? = some x → ∃ va vl, Nums wr (Rw tn hb wr) va (turnN b n x).args ∧ Strs wr (Rw tn hb wr) vl x.labels ∧
      cs[(i + b) % n * 5]? = some (.int .i64 x.k) ∧ cs[(i + b) % n * 5 + 1]? = some (.string x.nm) ∧ cs[(i + b) % n * 5 + 2]? = some va ∧ cs[(i + b) % n * 5 + 3]? = some vl ∧ cs[(i + b) % n * 5 + 4]? = some (.bool x.op)
theorem tmod_nat (a b : Nat) : ((a : Int)).tmod (b : Int) = ((a % b : Nat) : Int) := by
  rw [Int.tmod_eq_emod_of_nonneg (by omega)]; omega
theorem Rw.mono {tn hb : Nat} {W W' : World} (h : W.heap.size ≤ W'.heap.size) : ∀ b, Rw tn hb W b → Rw tn hb W' b := fun _ hb => ⟨by have := hb.1; omega, hb.2⟩
/-- A node more stands in its place. -/
theorem Tu.next {B : Nat} {W4 : World} {tn hb n b rt j : Nat} {G : List GN} {wr wf : World} {cs : Array Value} {x : GN} {va vl : Value} (hB : Below B W4 wr) (hW4 : B ≤ W4.heap.size) (htn : B ≤ tn) (hbx : wr.heap[hb]? = some (.cells #[.slice (some ⟨tn, 0, none⟩) n n, .int .i64 (rt : Int)] 24)) (hcz : cs.size = n * 5)
    (hdone : ∀ i x, i < j → G[i]? = some x → ∃ va vl, Nums wr (Rw tn hb wr) va (turnN b n x).args ∧ Strs wr (Rw tn hb wr) vl x.labels ∧
      cs[(i + b) % n * 5]? = some (.int .i64 x.k) ∧ cs[(i + b) % n * 5 + 1]? = some (.string x.nm) ∧ cs[(i + b) % n * 5 + 2]? = some va ∧ cs[(i + b) % n * 5 + 3]? = some vl ∧ cs[(i + b) % n * 5 + 4]? = some (.bool x.op))
    (hth : tn ≠ hb) (hbw : hb < wr.heap.size) (hF : Free (fun k => k = tn) wr wf) (hx : G[j]? = some x) (hjn : j < n)
    (hcs : wf.heap[tn]? = some (.cells (set5 cs ((j + b) % n * 5) (.int .i64 x.k) (.string x.nm) va vl (.bool x.op)) 36)) (hva : Nums wf (Rw tn hb wf) va (turnN b n x).args) (hvl : Strs wf (Rw tn hb wf) vl x.labels) :
    Tu B W4 tn hb n b rt G (j + 1) wf := by
  have hn0 : 0 < n := by omega
  have hlt : (j + b) % n < n := Nat.mod_lt _ hn0
  have hK : Keeps (Rw tn hb wr) wr wf := fun q hq => hF.block q hq.1 hq.2.1
  have hs := hF.size
  refine ⟨hB.trans (free_below hF (Nat.le_trans hW4 hB.size) (fun k hk => by rw [hk]; exact htn)), (hF.block hb hbw (fun h => hth h.symm)).trans hbx, _, hcs, by rw [set5_size, hcz], fun i y hi hy => ?_⟩
  by_cases e : i = j
  · subst e
    rw [hx] at hy; cases hy
    obtain ⟨a0, a1, a2, a3, a4⟩ := set5_at (cs := cs) (o := (i + b) % n * 5) (v0 := .int .i64 x.k) (v1 := .string x.nm) (v2 := va) (v3 := vl) (v4 := .bool x.op) (by rw [hcz]; omega)
    exact ⟨va, vl, hva, hvl, a0, a1, a2, a3, a4⟩
  · obtain ⟨ua, ul, h1, h2, h3, h4, h5, h6, h7⟩ := hdone i y (by omega) hy
    have hne : (i + b) % n ≠ (j + b) % n := fun h => e (turn_inj (by omega) hjn h)
    have old : ∀ c, c < 5 → (set5 cs ((j + b) % n * 5) (.int .i64 x.k) (.string x.nm) va vl (.bool x.op))[(i + b) % n * 5 + c]? = cs[(i + b) % n * 5 + c]? := fun c hc => set5_old (by omega)
    exact ⟨ua, ul, h1.carry hK (Rw.mono hs), h2.carry hK (Rw.mono hs), (old 0 (by omega)).trans h3, (old 1 (by omega)).trans h4, (old 2 (by omega)).trans h5, (old 3 (by omega)).trans h6, (old 4 (by omega)).trans h7⟩
theorem Rw.all {tn hb : Nat} {W : World} : ∀ q, Rw tn hb W q → q < W.heap.size := fun _ h => h.1
/-- The turned graph lies there. -/
theorem Tu.graph {B : Nat} {W4 W : World} {tn hb n b rt : Nat} {G : List GN} (h : Tu B W4 tn hb n b rt G n W) (hn : G.length = n) (ht : tn < W.heap.size) (hm : n ≤ maxLen) : GrAt W (fun q => q < W.heap.size) (.slice (some ⟨tn, 0, none⟩) n n) (turnG b G) := by
  obtain ⟨_, _, cs, hcs, hcz, hd⟩ := h
  refine ⟨tn, 0, .inr ⟨n, by rw [turn_len, hn], by rw [turn_len, hn]; exact Nat.le_refl _, hm, ht⟩, fun k hk => ?_⟩
  rw [turn_len, hn] at hk
  obtain ⟨i, x, hx, hki, hz⟩ := turn_has (b := b) (G := G) (j := k) (by omega)
  obtain ⟨va, vl, h1, h2, h3, h4, h5, h6, h7⟩ := hd i x (by have := (List.getElem?_eq_some_iff.1 hx).1; omega) hx
  rw [hn] at hki hz
  rw [← hki] at h3 h4 h5 h6 h7
  have e : (turnG b G)[k]'(by rw [turn_len]; omega) = turnN b n x := (List.getElem?_eq_some_iff.1 hz).2
  rw [e, Nat.zero_add]
  have hc : ∀ c, W.cell? ⟨tn, k * 5 + c, none⟩ = cs[k * 5 + c]? := fun c => Lib.cell_of_heap hcs _
  exact ⟨va, vl, ht, (hc 0).trans h3, (hc 1).trans h4, (hc 2).trans h5, (hc 3).trans h6, (hc 4).trans h7, h1.carry (fun _ _ => rfl) Rw.all, h2.carry (fun _ _ => rfl) Rw.all⟩
/-- So many nodes have their Args for themselves, the first one another one. -/
def Tv (g hb kk n : Nat) (HH : List GN) (i : Nat) (W : World) : Prop := ∃ cs : Array Value, W.heap[g]? = some (.cells cs 36) ∧ HH.length * 5 ≤ cs.size ∧
  ∀ m x, HH[m]? = some x → ∃ va vl, Nums W (Rw g hb W) va (if m < i then fstI kk n x.args else x.args) ∧ Strs W (Rw g hb W) vl x.labels ∧
    cs[m * 5]? = some (.int .i64 x.k) ∧ cs[m * 5 + 1]? = some (.string x.nm) ∧ cs[m * 5 + 2]? = some va ∧ cs[m * 5 + 3]? = some vl ∧ cs[m * 5 + 4]? = some (.bool x.op)
theorem Tv.next {g hb kk n i : Nat} {HH : List GN} {W W' : World} {cs : Array Value} {v : Value} {x : GN} (hcz : HH.length * 5 ≤ cs.size)
    (hd : ∀ m x, HH[m]? = some x → ∃ va vl, Nums W (Rw g hb W) va (if m < i then fstI kk n x.args else x.args) ∧ Strs W (Rw g hb W) vl x.labels ∧
      cs[m * 5]? = some (.int .i64 x.k) ∧ cs[m * 5 + 1]? = some (.string x.nm) ∧ cs[m * 5 + 2]? = some va ∧ cs[m * 5 + 3]? = some vl ∧ cs[m * 5 + 4]? = some (.bool x.op))
    (hF : Free (fun q => q = g) W W') (hcs : W'.heap[g]? = some (.cells (cs.setIfInBounds (i * 5 + 2) v) 36)) (hx : HH[i]? = some x) (hv : Nums W' (Rw g hb W') v (fstI kk n x.args)) : Tv g hb kk n HH (i + 1) W' := by
  have hK : Keeps (Rw g hb W) W W' := fun q hq => hF.block q hq.1 hq.2.1
  have hiH := (List.getElem?_eq_some_iff.1 hx).1
  refine ⟨_, hcs, by simpa using hcz, fun m y hy => ?_⟩
  obtain ⟨va, vl, h1, h2, h3, h4, h5, h6, h7⟩ := hd m y hy
  have old : ∀ c, m * 5 + c ≠ i * 5 + 2 → (cs.setIfInBounds (i * 5 + 2) v)[m * 5 + c]? = cs[m * 5 + c]? := fun c hc => by
    rw [Array.getElem?_setIfInBounds, if_neg (fun h => hc h.symm)]
  by_cases e : m = i
  · subst e
    rw [hx] at hy; cases hy
    refine ⟨v, vl, by rw [if_pos (by omega)]; exact hv, h2.carry hK (Rw.mono hF.size), (old 0 (by omega)).trans h3, (old 1 (by omega)).trans h4, ?_, (old 3 (by omega)).trans h6, (old 4 (by omega)).trans h7⟩
    rw [Array.getElem?_setIfInBounds, if_pos rfl, if_pos (by omega)]
  · refine ⟨va, vl, ?_, h2.carry hK (Rw.mono hF.size), (old 0 (by omega)).trans h3, (old 1 (by omega)).trans h4, (old 2 (by omega)).trans h5, (old 3 (by omega)).trans h6, (old 4 (by omega)).trans h7⟩
    have := h1.carry hK (Rw.mono hF.size)
    by_cases h : m < i
    · rw [if_pos h] at this; rw [if_pos (by omega)]; exact this
    · rw [if_neg h] at this; rw [if_neg (by omega)]; exact this
theorem Tv.graph {g hb kk n : Nat} {H : List GN} {z : GN} {W : World} {cap : Nat} (h : Tv g hb kk n (H ++ [z]) (n + 1) W) (hn : H.length = n) (hz : H.getD kk noN = z) (hg : g < W.heap.size) (hm : n + 1 ≤ cap) (hc : cap ≤ maxLen) : GrAt W (fun q => q < W.heap.size) (.slice (some ⟨g, 0, none⟩) (n + 1) cap) (twiceG kk H) := by
  obtain ⟨cs, hcs, hcz, hd⟩ := h
  refine ⟨g, 0, .inr ⟨cap, by rw [twice_len, hn], by rw [twice_len, hn]; exact hm, hc, hg⟩, fun k hk => ?_⟩
  rw [twice_len, hn] at hk
  obtain ⟨x, hx⟩ : ∃ x, (H ++ [z])[k]? = some x := ⟨_, List.getElem?_eq_getElem (by simp; omega)⟩
  obtain ⟨va, vl, h1, h2, h3, h4, h5, h6, h7⟩ := hd k x hx
  rw [if_pos hk] at h1
  have e : (twiceG kk H)[k]'(by rw [twice_len]; omega) = twiceN kk n x := by
    refine (List.getElem?_eq_some_iff.1 ?_).2
    unfold twiceG
    rw [List.getElem?_map, hz, hx, hn]; rfl
  rw [e, Nat.zero_add]
  have hc : ∀ c, W.cell? ⟨g, k * 5 + c, none⟩ = cs[k * 5 + c]? := fun c => Lib.cell_of_heap hcs _
  exact ⟨va, vl, hg, (hc 0).trans h3, (hc 1).trans h4, (hc 2).trans h5, (hc 3).trans h6, (hc 4).trans h7, h1.carry (fun _ _ => rfl) Rw.all, h2.carry (fun _ _ => rfl) Rw.all⟩
theorem turn_sized {b : Nat} {G : List GN} (h : Sized G) : Sized (turnG b G) := fun x hx => by
  obtain ⟨j, hj, e⟩ := List.mem_iff_getElem.1 hx
  rw [turn_len] at hj
  obtain ⟨i, y, hy, _, hz⟩ := turn_has (b := b) (G := G) hj
  rw [List.getElem?_eq_getElem (by rw [turn_len]; exact hj), e] at hz
  cases hz
  exact h y (List.mem_of_getElem? hy)
theorem twice_sized {k : Nat} {H : List GN} (h : Sized H) (hk : k < H.length) : Sized (twiceG k H) := fun x hx => by
  obtain ⟨y, hy, rfl⟩ := List.mem_map.1 (show x ∈ (H ++ [H.getD k noN]).map (twiceN k H.length) from hx)
  rcases List.mem_append.1 hy with hy | hy
  · exact h y hy
  · have e := List.mem_singleton.1 hy
    rw [List.getD_eq_getElem?_getD, List.getElem?_eq_getElem hk] at e
    subst e
    exact h H[k] (List.getElem_mem hk)
/-- Numbers that lie there, as cells. -/
theorem nums_sl {W : World} {S : Nat → Prop} {v : Value} {l : List Int} (h : Nums W S v l) : ∃ g o, Sl S v l.length g o ∧ ∀ j u, (numsI l)[j]? = some u → W.cell? ⟨g, o + j, none⟩ = some u := by
  obtain ⟨g, o, h1, h2⟩ := h
  refine ⟨g, o, h1, fun j u hj => ?_⟩
  unfold numsI at hj
  rw [List.getElem?_map, Option.map_eq_some_iff] at hj
  obtain ⟨a, ha, rfl⟩ := hj
  obtain ⟨hj, rfl⟩ := List.getElem?_eq_some_iff.1 ha
  exact h2 j hj
/-- The first number of a row of one's own turned. -/
theorem nums_put {W W' : World} {S : Nat → Prop} {base g c : Nat} {e : TypeId} {a m : Int} {l : List Int} (h : W.ownsRow base e 1 (.slice (some ⟨g, 0, none⟩) (l.length + 1) c) (l.length + 1) (numsI (a :: l))) (hW : W'.heap[g]? = (W.setCell ⟨g, 0, none⟩ (.int .i64 m)).heap[g]?) (hS : S g) : Nums W' S (.slice (some ⟨g, 0, none⟩) (l.length + 1) c) (m :: l) := by
  have h' := h
  rcases h.2 with ⟨h0, _⟩ | ⟨g', cap, cur, hv, hb, hg, h1, h2, h3, h4⟩
  · cases h0
  cases hv
  have hs := heap_setCell_same W g 0 cur e (.int .i64 m) hg
  refine ⟨g, 0, .inr ⟨c, rfl, h1, h2, hS⟩, fun i hi => ?_⟩
  rw [Nat.zero_add, Lib.cell_of_heap (hW.trans hs) i, Array.getElem?_setIfInBounds]
  have hi' : i < l.length + 1 := by simpa using hi
  cases i with
  | zero => rw [if_pos rfl, if_pos (by omega)]; rfl
  | succ i =>
    rw [if_neg (by omega)]
    have h5 : (cur.toList.take ((l.length + 1) * 1))[i + 1]? = (numsI (a :: l))[i + 1]? := by rw [h4]
    rw [List.getElem?_take_of_lt (by omega), Array.getElem?_toList] at h5
    rw [h5]
    have hil : i < l.length := by omega
    simp [numsI, hil]
theorem free_step {wr w4 w5 : World} {o : Obj} {g i : Nat} {v : Value} (hg : (wr.alloc o).grownBy w4 (some wr.heap.size)) (h5 : ∀ q, q < wr.heap.size → w5.heap[q]? = w4.heap[q]?) (hs : w5.heap.size = w4.heap.size) (ho : w5.os = w4.os) (ht : w5.tape = w4.tape) (hp : w5.output = w4.output) : Free (fun q => q = g) wr (w5.setCell ⟨g, i, none⟩ v) := by
  have s4 := hg.size
  rw [World.size_alloc] at s4
  have F0 : Free (fun q => q = g) wr w5 := ⟨ho.trans hg.os, ht.trans hg.tape, hp.trans hg.output, by omega, fun q hq _ => by
    rw [h5 q hq, hg.block q (by rw [World.size_alloc]; omega) (fun h => by have := Option.some.inj h; omega)]
    exact heap_old hq⟩
  exact free_setCell F0 (p := ⟨g, i, none⟩) rfl v
theorem own_has {W : World} {B n : Nat} {e : TypeId} {size : Nat} {v : Value} {xs : List Value} (h : W.ownsRow B e size v n xs) (hn : 0 < n) : ∃ g c, v = .slice (some ⟨g, 0, none⟩) n c ∧ n ≤ c ∧ c ≤ maxLen ∧ B ≤ g ∧ g < W.heap.size := by
  rcases h.2 with ⟨_, h0⟩ | ⟨g, cap, cur, rfl, hb, hg, h1, h2, _⟩
  · omega
  · exact ⟨g, cap, rfl, h1, h2, hb, (Array.getElem?_eq_some_iff.1 hg).1⟩

set_option linter.unusedSimpArgs false in
set_option maxHeartbeats 8000000 in
set_option maxRecDepth 100000 in
theorem turnslaw_any (S : Nat → Prop) (vg : Value) (r : Int) (G : List GN) (w : World) (T : TypeId) (ev : Value) (hg : w.cell? ⟨0, 0, none⟩ = some (.iface T ev)) (hgl : 0 < w.heap.size) (hG : GrAt w S vg G) (hS : ∀ b, S b → b < w.heap.size) (sG : Sized G) (hb : greatN G ≤ 4611686018427387904) (b t : Nat) (hb8 : b ≤ 255) (ht8 : t ≤ 255) :
    Calls Tryd.prog 6 #[.agg #[vg, .int .i64 r], .int .u8 (b : Int), .int .u8 (t : Int)] w fun e w' => e = .returned (.bool true) ∧ Below w.heap.size w w' := by
  obtain ⟨xg, cg, gg, og, rfl, hxg, hng⟩ := hG.open_
  obtain ⟨i0, hi0, hz0, hz1, hz2⟩ := info_parts nodeInfoT
  obtain ⟨n, en⟩ : ∃ n, G.length = n := ⟨_, rfl⟩
  clear hxg hng
  rw [en] at hG ⊢
  have HX : Hid (∀ V, Below w.heap.size w V → GrAt V S (.slice xg n cg) G ∧ (∀ b, S b → b < V.heap.size) ∧ V.cell? ⟨0, 0, none⟩ = some (.iface T ev) ∧ 0 < V.heap.size) := Lib.hid fun V hV =>
    ⟨hG.carry (keeps_of hV hS) fun _ h => h, fun b hb => Nat.lt_of_lt_of_le (hS b hb) hV.size, (hV.cell (p := ⟨_, 0, none⟩) hgl).trans hg, Nat.lt_of_lt_of_le hgl hV.size⟩
  have HS := Lib.hid (And.intro sG (And.intro hb (And.intro en hS)))
  clear hg hgl hG hS sG hb
  go_enter Tryd.func6, Tryd.ntmps6
  have B0 : Hid (Below w.heap.size w (w.alloc (.cells #[.slice xg n cg, .int .i64 r] 24))) := Lib.hid ((Below.refl _ _).alloc (Nat.le_refl _) _)
  have b0 : Hid ((w.alloc (.cells #[.slice xg n cg, .int .i64 r] 24)).heap[w.heap.size]? = some (.cells #[.slice xg n cg, .int .i64 r] 24)) := Lib.hid (heap_last rfl)
  have C0 := Lib.hid (alive_any _ T ev (HX.out _ B0.out).2.2.1 (HX.out _ B0.out).2.2.2)
  go_wp2_with fail
  refine C0.out.mono ?_
  rintro e1 W1 ⟨rfl, hB1⟩
  clear C0
  have s1 : w.heap.size + 1 ≤ W1.heap.size := by have := hB1.size; simpa using this
  have B1 : Hid (Below w.heap.size w W1) := Lib.hid (B0.out.trans (hB1.mono (by simp)))
  have b1 := Lib.hid ((hB1.block w.heap.size (by simp)).trans b0.out)
  clear hB1 B0 b0
  have a0 := Lib.cell_of_heap b1.out 0
  have a1 := Lib.cell_of_heap b1.out 1
  simp only [List.getElem?_toArray, List.getElem?_cons_zero, List.getElem?_cons_succ] at a0 a1
  have C1 := Lib.hid (great_any S (.slice xg n cg) r G W1 (HX.out _ B1.out).1 (HX.out _ B1.out).2.1 HS.out.2.1)
  go_wp2_with fail
  refine C1.out.mono ?_
  rintro e2 W2 ⟨rfl, hB2⟩
  clear C1 a0 a1
  have s2 := hB2.size
  have B2 : Hid (Below w.heap.size w W2) := Lib.hid (B1.out.trans (hB2.mono (by omega)))
  have b2 := Lib.hid ((hB2.block w.heap.size (by omega)).trans b1.out)
  clear hB2 b1
  have a0 := Lib.cell_of_heap b2.out 0
  have a1 := Lib.cell_of_heap b2.out 1
  simp only [List.getElem?_toArray, List.getElem?_cons_zero, List.getElem?_cons_succ] at a0 a1
  have C2 := Lib.hid (check_any S (.slice xg n cg) r G W2 T ev (HX.out _ B2.out).2.2.1 (HX.out _ B2.out).2.2.2 (HX.out _ B2.out).1 (HX.out _ B2.out).2.1 HS.out.1)
  by_cases hgt : (300 : Int) < (greatN G : Int)
  · go_wp2_with fail
    go_ret
    exact ⟨rfl, B2.out⟩
  · obtain ⟨c, hc⟩ : ∃ c, checkG G r = c := ⟨_, rfl⟩
    have hw := checkG_ways G r
    rw [hc] at C2 hw
    go_wp2_with fail
    refine C2.out.mono ?_
    rintro e3 W3 ⟨rfl, hB3⟩
    clear C2 a0 a1
    have s3 := hB3.size
    have B3 : Hid (Below w.heap.size w W3) := Lib.hid (B2.out.trans (hB3.mono (by omega)))
    have b3 := Lib.hid ((hB3.block w.heap.size (by omega)).trans b2.out)
    clear hB3 b2
    have a0 := Lib.cell_of_heap b3.out 0
    have a1 := Lib.cell_of_heap b3.out 1
    simp only [List.getElem?_toArray, List.getElem?_cons_zero, List.getElem?_cons_succ] at a0 a1
    have hlt3 : w.heap.size < W3.heap.size := by omega
    rcases hw with rfl | rfl | rfl
    rotate_left
    · go_wp2_with fail
      go_ret
      exact ⟨rfl, B3.out⟩
    · go_wp2_with fail
      go_ret
      exact ⟨rfl, B3.out⟩
    · have eg : (decide ((300 : Int) < (greatN G : Int)) || false) = false := by simp [hgt]
      have HC := Lib.hid hc
      have hgr := great_len (l := G) (k := 300) (by omega)
      rw [en] at hgr
      have hn3 := hgr.1
      have HG := Lib.hid hgr
      have hin := inside_iff.1 (checkG_ok.1 HC.out).2.1
      rw [en] at hin
      obtain ⟨rn, rfl⟩ : ∃ rn : Nat, r = (rn : Int) := ⟨r.toNat, by omega⟩
      have hrn : rn < n := by omega
      have hn0 : 0 < n := by omega
      clear hin
      obtain ⟨rt, hrt⟩ : ∃ k, (rn + b) % n = k := ⟨_, rfl⟩
      have hrtn : rt < n := by rw [← hrt]; exact Nat.mod_lt _ hn0
      have hrem : ((rn : Int) + (b : Int)).tmod (n : Int) = (rt : Int) := by
        rw [show (rn : Int) + (b : Int) = ((rn + b : Nat) : Int) by omega, tmod_nat, hrt]
      have HRT := Lib.hid hrt
      have hmn := run_make_nodes n (by omega)
      clear hrt hc
      have w1 : IntKind.i64.wrap ((rn : Int) + (b : Int)) = (rn : Int) + (b : Int) := IntWalk.i64_in _ (by omega)
      have n0 : (n : Int) ≠ 0 := by omega
      have HI := Lib.hid (And.intro hi0 (And.intro hz0 (And.intro hz1 hz2)))
      clear hi0 hz0 hz1 hz2
      go_upto_region 6 with (fail)
      go_cut [8] from 30 to 39 (fun s8 wx => ∃ tn hb, s8 = .pointer (some ⟨hb, 0, none⟩) ∧ W3.heap.size ≤ tn ∧ W3.heap.size ≤ hb ∧ tn ≠ hb ∧ tn < wx.heap.size ∧ hb < wx.heap.size ∧ Tu W3.heap.size W3 tn hb n b rt G 0 wx)
      case first =>
        go_region
        all_goals
          go_wp2_with fail
          go_meet
          case rel =>
            have sz1 : ∀ o o' : Obj, W3.heap.size < ((W3.alloc o).alloc o').drew.heap.size := fun o o' => by rw [World.size_drew, World.size_alloc, World.size_alloc]; omega
            have sz2 : ∀ o o' : Obj, W3.heap.size + 1 < ((W3.alloc o).alloc o').drew.heap.size := fun o o' => by rw [World.size_drew, World.size_alloc, World.size_alloc]; omega
            first
              | exact ⟨W3.heap.size, W3.heap.size + 1, rfl, by omega, by omega, by omega, sz1 _ _, sz2 _ _, ⟨(((Below.refl _ _).alloc (Nat.le_refl _) _).alloc (by simp) _).drew, heap_last (by simp), _, (heap_old (by simp)).trans (heap_last rfl), size_madeCells _ _, fun _ _ h => absurd h (by omega)⟩⟩
              | exact ⟨W3.heap.size + 1, W3.heap.size, rfl, by omega, by omega, by omega, sz2 _ _, sz1 _ _, ⟨(((Below.refl _ _).alloc (Nat.le_refl _) _).alloc (by simp) _).drew, (heap_old (by simp)).trans (heap_last rfl), _, heap_last (by simp), size_madeCells _ _, fun _ _ h => absurd h (by omega)⟩⟩
      case rest =>
        obtain ⟨tn, hb, rfl, htn, hhb, hth, htw, hbw, hT0⟩ := hcut
        have HT0 := Lib.hid hT0
        clear hT0 hmn hrem w1
        have X : Hid (∀ V, Below W3.heap.size W3 V → V.cell? ⟨w.heap.size, 0, none⟩ = some (.slice xg n cg) ∧ V.cell? ⟨w.heap.size, 1, none⟩ = some (.int .i64 (rn : Int)) ∧ GrAt V S (.slice xg n cg) G ∧ (∀ q, S q → q < V.heap.size) ∧ V.cell? ⟨0, 0, none⟩ = some (.iface T ev) ∧ 0 < V.heap.size ∧ w.heap.size < V.heap.size ∧ Below w.heap.size w V) := Lib.hid fun V hV => by
          have hw := B3.out.trans (hV.mono (by omega))
          have hx := HX.out V hw
          have hs := hV.size
          have hbk := (hV.block w.heap.size (by omega)).trans b3.out
          exact ⟨Lib.cell_of_heap hbk 0, Lib.cell_of_heap hbk 1, hx.1, hx.2.1, hx.2.2.1, hx.2.2.2, by omega, hw⟩
        have x := X.out _ HT0.out.1
        obtain ⟨x0, -, -, -, -, -, x6, -⟩ := x
        clear a0 a1 hgr eg hlt3
        go_wp2_with fail
        clear x0 x6
        go_loopg [43] n (fun gk i wr => ∃ j : Nat, gk = n - j ∧ i = .int .i64 (j : Int) ∧ j ≤ n ∧ Tu W3.heap.size W3 tn hb n b rt G j wr ∧ tn < wr.heap.size ∧ hb < wr.heap.size)
        case atStart => exact ⟨0, by simp, by first | rfl | simp, Nat.zero_le _, HT0.out, htw, hbw⟩
        case round =>
          obtain ⟨j, rfl, rfl, hj, hT, htr, hbr⟩ := hrel
          obtain ⟨wp, rfl⟩ : ∃ wp, wp = wr := ⟨_, rfl⟩
          obtain ⟨hB, hbx, cs, hcs, hcz, hdone⟩ := hT
          have sB := hB.size
          by_cases hlt : j < n
          · have hi' : (j : Int) < (n : Int) := by omega
            have hjG : j < G.length := by rw [HS.out.2.2.1]; exact hlt
            obtain ⟨x0, x1, x2, x3, -, -, x6, x7⟩ := X.out wp hB
            obtain ⟨xg', cg', gg', og', hv', hxg', hng'⟩ := x2.open_
            obtain ⟨rfl, rfl⟩ : xg = xg' ∧ cg = cg' := by cases hv'; exact ⟨rfl, rfl⟩
            clear hv'
            obtain ⟨rfl, q1, q2, q3⟩ := hxg' (by omega)
            rw [HS.out.2.2.1] at q1
            unfold maxLen at q2
            obtain ⟨va, vl, gn⟩ := hng' j hjG
            have hgw := x3 gg' q3
            obtain ⟨xx, hxx⟩ : ∃ x, G[j] = x := ⟨_, rfl⟩
            have hGx : G[j]? = some xx := by rw [List.getElem?_eq_getElem hjG, hxx]
            rw [hxx] at gn
            have hfit := fit_args ((checkG_ok.1 HC.out).2.2 xx (List.mem_of_getElem? hGx))
            have harg := HG.out.2.1 xx (List.mem_of_getElem? hGx)
            obtain ⟨xa, ca, ga, oa, rfl, hxa, hna⟩ := gn.ha.open_
            obtain ⟨xl, cl, gl, ol, rfl, -, -⟩ := gn.hl.open_
            obtain ⟨na, hna2⟩ : ∃ n, xx.args.length = n := ⟨_, rfl⟩
            obtain ⟨nl, hnl⟩ : ∃ n, xx.labels.length = n := ⟨_, rfl⟩
            obtain ⟨k0, hk0⟩ : ∃ n, xx.k = n := ⟨_, rfl⟩
            obtain ⟨k1, hk1⟩ : ∃ n, xx.nm = n := ⟨_, rfl⟩
            obtain ⟨k4, hk4⟩ : ∃ n, xx.op = n := ⟨_, rfl⟩
            have c0 := gn.c0
            have c1 := gn.c1
            have c2 := gn.c2
            have c3 := gn.c3
            have c4 := gn.c4
            rw [hk0] at c0
            rw [hk1] at c1
            rw [hna2] at c2 hxa
            rw [hnl] at c3
            rw [hk4] at c4
            rw [hna2] at harg
            obtain ⟨xo, hxo⟩ : ∃ n, og' + j * 5 = n := ⟨_, rfl⟩
            rw [hxo] at c0 c1 c2 c3 c4
            have HN := Lib.hid (And.intro hGx (And.intro hna2 (And.intro hnl (And.intro hk0 (And.intro hk1 (And.intro hk4 (And.intro hxa (And.intro hna hfit))))))))
            have HN2 := Lib.hid (And.intro gn.hl (And.intro x3 x7))
            have HW := Lib.hid (And.intro hB (And.intro hbx (And.intro hcs (And.intro hcz hdone))))
            clear hGx hxx hna2 hnl hk0 hk1 hk4 hxa hna hfit gn x3 x7 x1 x2 hng' hxg' hB hbx hcs hcz hdone
            go_wp2_with fail
            clear c0 c1 c2 c3 c4 hxo x0 x6
            obtain ⟨ob, hob⟩ : ∃ o, wp.heap.size + 1 = o := ⟨_, rfl⟩
            obtain ⟨W8, hW8⟩ : ∃ W8, ((wp.alloc (.cells #[.int .i64 k0, .string k1, .slice xa na ca, .slice xl nl cl, .bool k4] 36)).alloc (.cells #[.int .i64 k0, .string k1, .slice none 0 0, .slice xl nl cl, .bool k4] 36)) = W8 := ⟨_, rfl⟩
            rw [hW8, hob]
            have B8 : Below wp.heap.size wp W8 := by rw [← hW8]; exact ((Below.refl _ _).alloc (Nat.le_refl _) _).alloc (by simp) _
            have s8 : W8.heap.size = ob + 1 := by rw [← hW8, ← hob]; simp
            have s8a : W8.heap.size ≤ ob + 1 := by omega
            have s8b : ob + 1 ≤ W8.heap.size := by omega
            have oba : ob ≤ wp.heap.size + 1 := by omega
            have obb : wp.heap.size + 1 ≤ ob := by omega
            have M8 : W8.heap[ob]? = some (.cells #[.int .i64 k0, .string k1, .slice none 0 0, .slice xl nl cl, .bool k4] 36) := by rw [← hW8, ← hob]; exact heap_last (by simp)
            have H8 := Lib.hid (And.intro B8 M8)
            clear hW8 hob s8 B8 M8
            obtain ⟨i1, hi, hz0, hz1, hz2⟩ := info_parts intInfo
            have HI1 := Lib.hid (And.intro hi (And.intro hz0 (And.intro hz1 hz2)))
            clear hi hz0 hz1 hz2
            go_loopg [60] na (fun gk i wz => ∃ (m : Nat) (v : Value), gk = na - m ∧ i = .int .i64 (m : Int) ∧ m ≤ na ∧ wz.heap[ob]? = some (.cells #[.int .i64 k0, .string k1, v, .slice xl nl cl, .bool k4] 36) ∧ wz.ownsRow (ob + 1) 3 1 v m (numsI ((xx.args.take m).map (turnI b n))) ∧ Below ob W8 wz)
            case atStart => exact ⟨0, _, by simp, by first | rfl | simp, Nat.zero_le _, H8.out.2, World.ownsRow_nil _ _ _ _, Below.refl _ _⟩
            case round =>
              obtain ⟨m, v, rfl, rfl, hm, hM, hO, hBz⟩ := hrel
              obtain ⟨wz, rfl⟩ : ∃ wz, wz = wr := ⟨_, rfl⟩
              have sz := hBz.size
              by_cases hlt2 : m < na
              · have hi2' : (m : Int) < (na : Int) := by omega
                have hmx : m < xx.args.length := by rw [HN.out.2.1]; exact hlt2
                obtain ⟨rfl, u1, u2, u3⟩ := HN.out.2.2.2.2.2.2.1 (by omega)
                unfold maxLen at u2
                have hgaw := HN2.out.2.1 ga u3
                have e1 := (World.cell?_of_block (a := ⟨ga, oa + m, none⟩) ((hBz.block ga (by omega)).trans (H8.out.1.block ga hgaw))).trans (HN.out.2.2.2.2.2.2.2.1 m hmx)
                have hf := HN.out.2.2.2.2.2.2.2.2 _ (List.getElem_mem hmx)
                obtain ⟨ai, hai⟩ : ∃ a, xx.args[m] = a := ⟨_, rfl⟩
                rw [hai] at e1 hf
                obtain ⟨an, rfl⟩ : ∃ n : Nat, ai = (n : Int) := ⟨ai.toNat, by omega⟩
                obtain ⟨tn2, htn2⟩ : ∃ k, (an + b) % n = k := ⟨_, rfl⟩
                have hrem2 : ((an : Int) + (b : Int)).tmod (n : Int) = (tn2 : Int) := by
                  rw [show (an : Int) + (b : Int) = ((an + b : Nat) : Int) by omega, tmod_nat, htn2]
                have hanb : (an : Int) < 1048576 := by have := hf.2; rw [HS.out.2.2.1] at this; omega
                have w1 : IntKind.i64.wrap ((an : Int) + (b : Int)) = (an : Int) + (b : Int) := IntWalk.i64_in _ (by omega)
                have wb : IntKind.i64.wrap (b : Int) = (b : Int) := IntWalk.i64_in _ (by omega)
                have nz : ¬ n = 0 := by omega
                have hgaw2 : ga < wz.heap.size := by omega
                have hobw : ob < wz.heap.size := (Array.getElem?_eq_some_iff.1 hM).1
                obtain ⟨xv, cv, rfl⟩ := own_shape hO
                have m2 := Lib.cell_of_heap hM 2
                have f2 := Lib.frozen_of_heap hM 2
                simp only [List.getElem?_toArray, List.getElem?_cons_zero, List.getElem?_cons_succ] at m2
                have hstep : (xx.args.take (m + 1)).map (turnI b n) = (xx.args.take m).map (turnI b n) ++ [(tn2 : Int)] := by
                  rw [List.take_add_one, List.getElem?_eq_getElem hmx, hai, List.map_append]
                  show _ ++ [turnI b n (an : Int)] = _
                  unfold turnI
                  rw [Int.toNat_natCast, htn2]
                have HOA := Lib.hid (World.ownsRow.drew (hO.alloc (.cells #[.int .i64 (tn2 : Int)] 3)))
                have HNA : Hid (∀ i u, ([.int .i64 (tn2 : Int)] : List Value)[i]? = some u → ((wz.alloc (.cells #[.int .i64 (tn2 : Int)] 3)).drew).cell? ((⟨wz.heap.size, 0, none⟩ : Addr).add i) = some u) := Lib.hid (new_cells wz [.int .i64 (tn2 : Int)] 3)
                have H1A : Hid (∀ u ∈ ([.int .i64 (tn2 : Int)] : List Value), u.oneCell' = true) := Lib.hid fun u hu => by rw [List.mem_singleton.1 hu]; rfl
                have HMA := Lib.hid (show ((wz.alloc (.cells #[.int .i64 (tn2 : Int)] 3)).drew).heap[ob]? = some (.cells #[.int .i64 k0, .string k1, .slice xv m cv, .slice xl nl cl, .bool k4] 36) by rw [drew_heap, heap_old hobw]; exact hM)
                have HSA := Lib.hid (show ob < ((wz.alloc (.cells #[.int .i64 (tn2 : Int)] 3)).drew).heap.size by rw [World.size_drew, World.size_alloc]; omega)
                have HR := Lib.hid (And.intro hM (And.intro hO (And.intro hBz hstep)))
                clear hM hO hBz hstep hai htn2 hf
                go_wp2_with fail
                go_region_law (first | (clear w1 wb hrem2; refine step_append_lies _ rfl (.tmp 65) (.tmp 72) 31 rfl (ob + 1) 3 i1 _ 1 8 Tryd.underlying31 HI1.out.1 HI1.out.2.1 HI1.out.2.2.1 HI1.out.2.2.2 rfl (by decide) (.slice xv m cv) m (numsI ((xx.args.take m).map (turnI b n))) (by simp [Act.eval]) HOA.out ⟨wz.heap.size, 0, none⟩ 1 1 [.int .i64 (tn2 : Int)] (by simp [Act.eval]) rfl HNA.out H1A.out (by decide) (by unfold maxLen; omega) (by omega) (by simp; omega) _ rfl ?_; intro g2 cap2 w5 hown5 hg5 hat5 hlt5; have hM5 := (hg5.block ob HSA.out (fun h => by have := HOA.out.lt ob h.symm; omega)).trans HMA.out; have m5 := Lib.cell_of_heap hM5 2; have f5 := Lib.frozen_of_heap hM5 2; simp only [List.getElem?_toArray, List.getElem?_cons_zero, List.getElem?_cons_succ] at m5; have hob5 : ob < w5.heap.size := Nat.lt_of_lt_of_le HSA.out hg5.size; have H5 := Lib.hid (And.intro hown5 (And.intro hg5 hM5)); clear hown5 hg5 hat5 hM5))
                all_goals
                  go_wp2_with fail
                  go_roundg (na - (m + 1))
                  case measure => omega
                  case rel =>
                    obtain ⟨hM, hO, hBz, hstep⟩ := HR.out
                    obtain ⟨hown5, hg5, hM5⟩ := H5.out
                    have h9 := heap_setCell_same _ _ 2 _ _ (.slice (some ⟨g2, 0, none⟩) (m + 1) cap2) hM5
                    simp only [List.setIfInBounds_toArray, List.set_cons_zero, List.set_cons_succ] at h9
                    refine ⟨m + 1, .slice (some ⟨g2, 0, none⟩) (m + 1) cap2, rfl, by first | rfl | simp, hlt2, h9, ?_, ?_⟩
                    · rw [hstep, numsI_append]
                      refine own_same hown5 fun q hq => ?_
                      have h := hown5.lt q hq
                      rw [RowKit.Below.heap_setCell _ _ _ _ (show q ≠ ob by omega)]
                    · have B5 := (((hBz.alloc (by omega) (.cells #[.int .i64 (tn2 : Int)] 3))).drew).grown hg5 (by rw [World.size_drew, World.size_alloc]; omega) (fun q hq => by have := (HOA.out.lt q hq).1; omega)
                      exact B5.setCell (p := ⟨ob, 2, none⟩) (Nat.le_refl _) _
              · have hi2' : ¬ (m : Int) < (na : Int) := by omega
                obtain rfl : na = m := by omega
                have hall : xx.args.take na = xx.args := List.take_of_length_le (by rw [HN.out.2.1]; exact Nat.le_refl _)
                rw [hall] at hO
                obtain ⟨xv, cv, rfl⟩ := own_shape hO
                obtain ⟨hB, hbx, hcs, hcz, hdone⟩ := HW.out
                have hlen : ((xx.args.map (turnI b n))).length = na := by rw [List.length_map, HN.out.2.1]
                have hsz1 : wp.heap.size ≤ wz.heap.size := by omega
                have hBwz : Below wp.heap.size wp wz := H8.out.1.trans (hBz.mono (by omega))
                have hbx9 := (hBwz.block hb hbr).trans hbx
                have hcs9 := (hBwz.block tn htr).trans hcs
                have hOn : Nums wz (Rw tn hb wz) (.slice xv na cv) (turnN b n xx).args := by
                  refine nums_own (base := ob + 1) (e := 3) ?_ (fun q hq => ?_)
                  · show wz.ownsRow _ _ _ _ ((xx.args.map (turnI b n))).length _
                    rw [hlen]; exact hO
                  · have := hO.lt q hq
                    exact ⟨this.2, by omega, by omega⟩
                have hLn : Strs wz (Rw tn hb wz) (.slice xl nl cl) xx.labels := by
                  have hl0 := HN2.out.1
                  rw [HN.out.2.2.1] at hl0
                  refine hl0.carry (keeps_of hBwz HN2.out.2.1) fun q hq => ?_
                  have h1 := HN2.out.2.1 q hq
                  have h2 := HS.out.2.2.2 q hq
                  exact ⟨by omega, by omega, by omega⟩
                have hdone9 : ∀ i x, i < j → G[i]? = some x → ∃ va vl, Nums wz (Rw tn hb wz) va (turnN b n x).args ∧ Strs wz (Rw tn hb wz) vl x.labels ∧ cs[(i + b) % n * 5]? = some (.int .i64 x.k) ∧ cs[(i + b) % n * 5 + 1]? = some (.string x.nm) ∧ cs[(i + b) % n * 5 + 2]? = some va ∧ cs[(i + b) % n * 5 + 3]? = some vl ∧ cs[(i + b) % n * 5 + 4]? = some (.bool x.op) := fun i x hi hx => by
                  obtain ⟨ua, ul, h1, h2, h3⟩ := hdone i x hi hx
                  have hK : Keeps (Rw tn hb wp) wp wz := fun q hq => hBwz.block q hq.1
                  exact ⟨ua, ul, h1.carry hK (Rw.mono hsz1), h2.carry hK (Rw.mono hsz1), h3⟩
                have hB9 : Below W3.heap.size W3 wz := hB.trans (hBwz.mono (by omega))
                obtain ⟨pl, hpl⟩ : ∃ k, (j + b) % n = k := ⟨_, rfl⟩
                have hpln : pl < n := by rw [← hpl]; exact Nat.mod_lt _ hn0
                have hrem2 : ((j : Int) + (b : Int)).tmod (n : Int) = (pl : Int) := by
                  rw [show (j : Int) + (b : Int) = ((j + b : Nat) : Int) by omega, tmod_nat, hpl]
                have HP := Lib.hid hpl
                have h0 := Lib.cell_of_heap hbx9 0
                have o0 := Lib.cell_of_heap hM 0
                have o1 := Lib.cell_of_heap hM 1
                have o2 := Lib.cell_of_heap hM 2
                have o3 := Lib.cell_of_heap hM 3
                have o4 := Lib.cell_of_heap hM 4
                simp only [List.getElem?_toArray, List.getElem?_cons_zero, List.getElem?_cons_succ] at h0 o0 o1 o2 o3 o4
                have ex : ∀ i, i < n * 5 → ∃ u, wz.cell? ⟨tn, i, none⟩ = some u := fun i hi => by
                  rw [Lib.cell_of_heap hcs9 i]
                  exact ⟨_, Array.getElem?_eq_getElem (by omega)⟩
                obtain ⟨y0, t0⟩ := ex (pl * 5) (by omega)
                obtain ⟨y1, t1⟩ := ex (pl * 5 + 1) (by omega)
                obtain ⟨y2, t2⟩ := ex (pl * 5 + 2) (by omega)
                obtain ⟨y3, t3⟩ := ex (pl * 5 + 3) (by omega)
                obtain ⟨y4, t4⟩ := ex (pl * 5 + 4) (by omega)
                have f0 := Lib.frozen_of_heap hcs9 (pl * 5)
                have f1 := Lib.frozen_of_heap hcs9 (pl * 5 + 1)
                have f2 := Lib.frozen_of_heap hcs9 (pl * 5 + 2)
                have f3 := Lib.frozen_of_heap hcs9 (pl * 5 + 3)
                have f4 := Lib.frozen_of_heap hcs9 (pl * 5 + 4)
                have hobw : ob < wz.heap.size := (Array.getElem?_eq_some_iff.1 hM).1
                have htz : tn < wz.heap.size := by omega
                have hbz : hb < wz.heap.size := by omega
                have hpln' : (pl : Int) < (n : Int) := by omega
                have htob : tn ≠ ob := by omega
                have w1 : IntKind.i64.wrap ((j : Int) + (b : Int)) = (j : Int) + (b : Int) := IntWalk.i64_in _ (by omega)
                have wb : IntKind.i64.wrap (b : Int) = (b : Int) := IntWalk.i64_in _ (by omega)
                have nz : ¬ n = 0 := by omega
                have HF := Lib.hid (And.intro hB9 (And.intro hbx9 (And.intro hcs9 (And.intro hdone9 (And.intro hOn hLn)))))
                have HCZ := Lib.hid hcz
                clear hM hO hBz hall hlen hBwz hB hbx hcs hcz hdone hbx9 hcs9 hdone9 hOn hLn hB9 hpl ex hi2'
                go_wp2_with fail
                go_region
                obtain ⟨W6, hW6⟩ : ∃ W6, (((((wz.setCell ⟨tn, pl * 5, none⟩ (.int .i64 k0)).setCell ⟨tn, pl * 5 + 1, none⟩ (.string k1)).setCell ⟨tn, pl * 5 + 2, none⟩ (.slice xv na cv)).setCell ⟨tn, pl * 5 + 3, none⟩ (.slice xl nl cl)).setCell ⟨tn, pl * 5 + 4, none⟩ (.bool k4)).drew = W6 := ⟨_, rfl⟩
                rw [hW6]
                obtain ⟨hB9, hbx9, hcs9, hdone9, hOn, hLn⟩ := HF.out
                have E6 : W6.heap[tn]? = some (.cells (set5 cs (pl * 5) (.int .i64 k0) (.string k1) (.slice xv na cv) (.slice xl nl cl) (.bool k4)) 36) := by rw [← hW6]; exact heap_set5 hcs9
                have F6 : Free (fun q => q = tn) wz W6 := by
                  rw [← hW6]
                  exact free_set5 _ _ _ _ _ _ _ _
                have s6 : wz.heap.size ≤ W6.heap.size := F6.size
                have hK6 : Keeps (Rw tn hb wz) wz W6 := fun q hq => F6.block q hq.1 hq.2.1
                have T6 : Tu W3.heap.size W3 tn hb n b rt G (j + 1) W6 := Tu.next hB9 (Nat.le_refl _) htn hbx9 HCZ.out hdone9 hth hbz F6 HN.out.1 hlt (by rw [HP.out, HN.out.2.2.2.1, HN.out.2.2.2.2.1, HN.out.2.2.2.2.2.1]; exact E6) (hOn.carry hK6 (Rw.mono s6)) (hLn.carry hK6 (Rw.mono s6))
                have H6 := Lib.hid T6
                have htz6 : tn < W6.heap.size := by omega
                have hbz6 : hb < W6.heap.size := by omega
                clear hW6 t0 t1 t2 t3 t4 f0 f1 f2 f3 f4 hB9 hbx9 hcs9 hdone9 hOn hLn E6 F6 hK6 T6 w1 wb hrem2 h0 o0 o1 o2 o3 o4
                go_wp2_with fail
                go_roundg (n - (j + 1))
                case measure => omega
                case rel => exact ⟨j + 1, rfl, by first | rfl | simp, hlt, H6.out, htz6, hbz6⟩
          · have hi' : ¬ (j : Int) < (n : Int) := by omega
            obtain rfl : n = j := by omega
            have hT : Tu W3.heap.size W3 tn hb n b rt G n wp := ⟨hB, hbx, cs, hcs, hcz, hdone⟩
            have HTU := Lib.hid hT
            have hGH := hT.graph HS.out.2.2.1 htr (by unfold maxLen; omega)
            have hsame := turn_same (b := b) (G := G) (r := rn) HC.out
            rw [HS.out.2.2.1, HRT.out] at hsame
            have HSM := Lib.hid hsame
            have sH : Sized (turnG b G) := turn_sized HS.out.1
            obtain ⟨x0, x1, x2, x3, x4, x5, x6, x7⟩ := X.out wp hB
            have h0 := Lib.cell_of_heap hbx 0
            have h1 := Lib.cell_of_heap hbx 1
            simp only [List.getElem?_toArray, List.getElem?_cons_zero, List.getElem?_cons_succ] at h0 h1
            have CS := Lib.hid (gsame_any (fun q => q < wp.heap.size) (.slice xg n cg) (.slice (some ⟨tn, 0, none⟩) n n) (rn : Int) (rt : Int) G (turnG b G) wp T ev x4 x5 (x2.carry (fun _ _ => rfl) x3) hGH (fun _ h => h) HS.out.1 sH (by rw [HS.out.2.2.1]; omega) (by rw [turn_len, HS.out.2.2.1]; omega) (fun x hx => by have := HG.out.2.1 x hx; omega))
            have HGH := Lib.hid hGH
            clear hT hGH hsame sH x2 x3 x4 x5 x7 hB hbx hcs hcz hdone
            go_wp2_with fail
            refine CS.out.mono ?_
            rintro e9 w9 ⟨rfl, hB9⟩
            rw [HSM.out]
            clear CS x0 x1 x6 h0 h1
            have s9 := hB9.size
            obtain ⟨hB, hbx, cs, hcs, hcz, hdone⟩ := HTU.out
            obtain ⟨kk, hkk⟩ : ∃ k, t % n = k := ⟨_, rfl⟩
            have hkn : kk < n := by rw [← hkk]; exact Nat.mod_lt _ hn0
            obtain ⟨i0', z, hz0, hz1, hz2⟩ := turn_has (b := b) (G := G) (j := kk) (by rw [HS.out.2.2.1]; exact hkn)
            obtain ⟨va, vl, e1, e2, e3, e4, e5, e6, e7⟩ := hdone i0' z (by have := (List.getElem?_eq_some_iff.1 hz0).1; have := HS.out.2.2.1; omega) hz0
            rw [HS.out.2.2.1] at hz1 hz2
            rw [← hz1] at e3 e4 e5 e6 e7
            have hcs9 := (hB9.block tn htr).trans hcs
            have hbx9 := (hB9.block hb hbr).trans hbx
            have hB93 : Below W3.heap.size W3 w9 := hB.trans (hB9.mono (by have := hB.size; omega))
            have hc : ∀ c, w9.cell? ⟨tn, kk * 5 + c, none⟩ = cs[kk * 5 + c]? := fun c => Lib.cell_of_heap hcs9 _
            have c0 := (hc 0).trans e3
            have c1 := (hc 1).trans e4
            have c2 := (hc 2).trans e5
            have c3 := (hc 3).trans e6
            have c4 := (hc 4).trans e7
            rw [Nat.add_zero] at c0
            obtain ⟨xa, na, ca, rfl⟩ : ∃ x n c, va = .slice x n c := by obtain ⟨x, c, g, o, h, _⟩ := e1.open_; exact ⟨x, _, c, h⟩
            obtain ⟨xl, nl, cl, rfl⟩ : ∃ x n c, vl = .slice x n c := by obtain ⟨x, c, g, o, h, _⟩ := e2.open_; exact ⟨x, _, c, h⟩
            have h0 := Lib.cell_of_heap hbx9 0
            have fb0 := Lib.frozen_of_heap hbx9 0
            simp only [List.getElem?_toArray, List.getElem?_cons_zero, List.getElem?_cons_succ] at h0
            obtain ⟨zk, hzk⟩ : ∃ k, z.k = k := ⟨_, rfl⟩
            obtain ⟨znm, hznm⟩ : ∃ k, z.nm = k := ⟨_, rfl⟩
            obtain ⟨zop, hzop⟩ : ∃ k, z.op = k := ⟨_, rfl⟩
            rw [hzk] at c0
            rw [hznm] at c1
            rw [hzop] at c4
            have hrem3 : ((t : Int)).tmod (n : Int) = (kk : Int) := by rw [tmod_nat, hkk]
            have wt : IntKind.i64.wrap (t : Int) = (t : Int) := IntWalk.i64_in _ (by omega)
            have nz : ¬ n = 0 := by omega
            have hknI : (kk : Int) < (n : Int) := by omega
            have ht9 : tn < w9.heap.size := by omega
            have hb9 : hb < w9.heap.size := by omega
            have HQ := Lib.hid (And.intro hB93 (And.intro hbx9 (And.intro hcs9 (And.intro hcz (And.intro hdone (And.intro e1 (And.intro e2 (And.intro hz2 (And.intro hzk (And.intro hznm (And.intro hzop hB9)))))))))))
            have HQ2 := Lib.hid (And.intro e3 (And.intro e4 (And.intro e5 (And.intro e6 e7))))
            have hBF : Below w.heap.size w w9 := B3.out.trans (hB93.mono (by omega))
            have HBF := Lib.hid hBF
            clear hB93 hbx9 hcs9 hcz hdone e1 e2 e3 e4 e5 e6 e7 hz0 hz1 hz2 hzk hznm hzop hB9 hc hkk hB hbx hcs hBF
            by_cases k1 : zk = 1
            · subst k1
              go_wp2_with fail
              go_ret
              exact ⟨rfl, HBF.out⟩
            have k1' : (zk == 1) = false := by simpa using k1
            have K1 := Lib.hid k1
            cases zop with
            | true =>
              go_wp2_with fail
              go_ret
              exact ⟨rfl, HBF.out⟩
            | false =>
              go_upto_region 23 with (fail)
              go_cut [] from 110 to 119 (fun wx => ∃ g2 cap2, wx.heap[hb]? = some (.cells #[.slice (some ⟨g2, 0, none⟩) (n + 1) cap2, .int .i64 (rt : Int)] 24) ∧ Tv g2 hb kk n (turnG b G ++ [turnN b n z]) 0 wx ∧ Below W3.heap.size W3 wx ∧ g2 ≠ hb ∧ g2 < wx.heap.size ∧ hb < wx.heap.size ∧ n + 1 ≤ cap2 ∧ cap2 ≤ maxLen ∧ W3.heap.size ≤ g2)
              case first =>
                obtain ⟨hB93, hbx9, hcs9, hcz, hdone, e1, e2, hz2, hzk, hznm, hzop, hB9⟩ := HQ.out
                have hown : w9.ownsRow tn 36 5 (.slice (some ⟨tn, 0, none⟩) n n) n cs.toList := ⟨by simp [hcz], .inr ⟨tn, n, cs, rfl, Nat.le_refl _, hcs9, Nat.le_refl _, by unfold maxLen; omega, hcz, by rw [List.take_of_length_le (by simp [hcz])]⟩⟩
                have HOA := Lib.hid (World.ownsRow.drew (hown.alloc (.cells #[.int .i64 zk, .string znm, .slice xa na ca, .slice xl nl cl, .bool false] 36)))
                have HNA : Hid (∀ i u, ([.int .i64 zk, .string znm, .slice xa na ca, .slice xl nl cl, .bool false] : List Value)[i]? = some u → ((w9.alloc (.cells #[.int .i64 zk, .string znm, .slice xa na ca, .slice xl nl cl, .bool false] 36)).drew).cell? ((⟨w9.heap.size, 0, none⟩ : Addr).add i) = some u) := Lib.hid (new_cells w9 [.int .i64 zk, .string znm, .slice xa na ca, .slice xl nl cl, .bool false] 36)
                have H1A : Hid (∀ u ∈ ([.int .i64 zk, .string znm, .slice xa na ca, .slice xl nl cl, .bool false] : List Value), u.oneCell' = true) := Lib.hid fun u hu => by
                  simp only [List.mem_cons, List.not_mem_nil, or_false] at hu
                  rcases hu with rfl | rfl | rfl | rfl | rfl <;> rfl
                have HMA := Lib.hid (show ((w9.alloc (.cells #[.int .i64 zk, .string znm, .slice xa na ca, .slice xl nl cl, .bool false] 36)).drew).heap[hb]? = some (.cells #[.slice (some ⟨tn, 0, none⟩) n n, .int .i64 (rt : Int)] 24) by rw [drew_heap, heap_old hb9]; exact hbx9)
                have HSA := Lib.hid (show hb < ((w9.alloc (.cells #[.int .i64 zk, .string znm, .slice xa na ca, .slice xl nl cl, .bool false] 36)).drew).heap.size by rw [World.size_drew, World.size_alloc]; omega)
                have HOW := Lib.hid hown
                clear hown hB93 hbx9 hcs9 hcz hdone e1 e2 hz2 hzk hznm hzop hB9 hrem3 wt k1' fb0
                go_region_law (first | (refine step_append_lies _ rfl (.tmp 111) (.tmp 117) 22 rfl tn 36 i0 _ 5 80 Tryd.underlying22 HI.out.1 HI.out.2.1 HI.out.2.2.1 HI.out.2.2.2 rfl (by decide) (.slice (some ⟨tn, 0, none⟩) n n) n cs.toList (by simp [Act.eval]) HOA.out ⟨w9.heap.size, 0, none⟩ 1 1 [.int .i64 zk, .string znm, .slice xa na ca, .slice xl nl cl, .bool false] (by simp [Act.eval]) rfl HNA.out H1A.out (by decide) (by unfold maxLen; omega) (by omega) (by simp; omega) _ rfl ?_; intro g2 cap2 w5 hown5 hg5 hat5 hlt5; have hM5 := (hg5.block hb HSA.out (fun h => hth (Option.some.inj h).symm)).trans HMA.out; have m5 := Lib.cell_of_heap hM5 0; have f5 := Lib.frozen_of_heap hM5 0; simp only [List.getElem?_toArray, List.getElem?_cons_zero, List.getElem?_cons_succ] at m5; have hob5 : hb < w5.heap.size := Nat.lt_of_lt_of_le HSA.out hg5.size; have H5 := Lib.hid (And.intro hown5 (And.intro hg5 (And.intro hM5 hat5))); clear hown5 hg5 hM5 hat5))
                all_goals
                  go_wp2_with fail
                  go_meet
                  case rel =>
                    obtain ⟨hB93, hbx9, hcs9, hcz, hdone, e1, e2, hz2, hzk, hznm, hzop, hB9⟩ := HQ.out
                    obtain ⟨e3, e4, e5, e6, e7⟩ := HQ2.out
                    obtain ⟨hown5, hg5, hM5, hat5⟩ := H5.out
                    have h9 := heap_setCell_same _ _ 0 _ _ (.slice (some ⟨g2, 0, none⟩) (n + 1) cap2) hM5
                    simp only [List.setIfInBounds_toArray, List.set_cons_zero, List.set_cons_succ] at h9
                    have hgn : g2 = tn ∨ w9.heap.size < g2 := by
                      rcases hat5 with h | h
                      · exact .inl (Option.some.inj h).symm
                      · refine .inr ?_
                        rw [h, World.size_drew, World.size_alloc]; omega
                    have hgb : g2 ≠ hb := by omega
                    obtain ⟨gq, cq, cur, hv, hbq, hgq, hnq, hmq, hsq, htq⟩ : ∃ gq cq cur, Value.slice (some ⟨g2, 0, none⟩) (n + 1) cap2 = .slice (some ⟨gq, 0, none⟩) (n + 1) cq ∧ tn ≤ gq ∧ w5.heap[gq]? = some (.cells cur 36) ∧ n + 1 ≤ cq ∧ cq ≤ maxLen ∧ cur.size = cq * 5 ∧ cur.toList.take ((n + 1) * 5) = cs.toList ++ [.int .i64 zk, .string znm, .slice xa na ca, .slice xl nl cl, .bool false] := by
                      rcases hown5.2 with ⟨h, _⟩ | ⟨gq, cq, cur, h1, h2, h3, h4, h5, h6, h7⟩
                      · cases h
                      · exact ⟨gq, cq, cur, h1, h2, h3, h4, h5, h6, h7⟩
                    cases hv
                    obtain ⟨W10, hW10⟩ : ∃ W10, w5.setCell ⟨hb, 0, none⟩ (.slice (some ⟨g2, 0, none⟩) (n + 1) cap2) = W10 := ⟨_, rfl⟩
                    rw [hW10] at h9 ⊢
                    have hk10 : ∀ q, q ≠ hb → W10.heap[q]? = w5.heap[q]? := fun q hq => by rw [← hW10]; exact heap_setCell_other _ ⟨hb, 0, none⟩ q _ hq
                    have hs10 : W10.heap.size = w5.heap.size := by rw [← hW10]; simp
                    have hg10 : W10.heap[g2]? = some (.cells cur 36) := (hk10 g2 hgb).trans hgq
                    have hs95 : w9.heap.size < w5.heap.size := by
                      have := hg5.size
                      rw [World.size_drew, World.size_alloc] at this
                      omega
                    have hK : ∀ q, Rw tn hb wp q → Rw g2 hb W10 q ∧ W10.heap[q]? = wp.heap[q]? := fun q hq => by
                      obtain ⟨q1, q2, q3⟩ := hq
                      refine ⟨⟨by omega, by omega, q3⟩, ?_⟩
                      rw [hk10 q q3, hg5.block q (by rw [World.size_drew, World.size_alloc]; omega) (fun h => q2 (Option.some.inj h)), drew_heap, heap_old (by omega)]
                      exact hB9.block q q1
                    have hcells : ∀ c, c < (n + 1) * 5 → cur[c]? = (cs.toList ++ [.int .i64 zk, .string znm, .slice xa na ca, .slice xl nl cl, .bool false])[c]? := fun c hc => by
                      rw [← htq, List.getElem?_take_of_lt hc, Array.getElem?_toList]
                    have hold : ∀ c, c < n * 5 → cur[c]? = cs[c]? := fun c hc => by
                      rw [hcells c (by omega), List.getElem?_append_left (by simp [hcz]; omega), Array.getElem?_toList]
                    have hnew : ∀ c, c < 5 → cur[n * 5 + c]? = ([.int .i64 zk, .string znm, .slice xa na ca, .slice xl nl cl, .bool false] : List Value)[c]? := fun c hc => by
                      rw [hcells _ (by omega), List.getElem?_append_right (by simp [hcz])]
                      congr 1
                      simp [hcz]
                    have hTv : Tv g2 hb kk n (turnG b G ++ [turnN b n z]) 0 W10 := by
                      refine ⟨cur, hg10, by rw [List.length_append, turn_len, HS.out.2.2.1, hsq]; simp; omega, fun m x hx => ?_⟩
                      rcases Nat.lt_or_ge m n with hm | hm
                      · rw [List.getElem?_append_left (by rw [turn_len, HS.out.2.2.1]; exact hm)] at hx
                        obtain ⟨i, y, hy, hmi, hyz⟩ := turn_has (b := b) (G := G) (j := m) (by rw [HS.out.2.2.1]; exact hm)
                        rw [HS.out.2.2.1] at hmi hyz
                        rw [hyz] at hx
                        cases hx
                        obtain ⟨ua, ul, h1, h2, h3, h4, h5, h6, h7⟩ := hdone i y (by have := (List.getElem?_eq_some_iff.1 hy).1; have := HS.out.2.2.1; omega) hy
                        rw [← hmi] at h3 h4 h5 h6 h7
                        rw [if_neg (Nat.not_lt_zero _)]
                        exact ⟨ua, ul, h1.carry (fun q hq => (hK q hq).2) (fun q hq => (hK q hq).1), h2.carry (fun q hq => (hK q hq).2) (fun q hq => (hK q hq).1), (hold _ (by omega)).trans h3, (hold _ (by omega)).trans h4, (hold _ (by omega)).trans h5, (hold _ (by omega)).trans h6, (hold _ (by omega)).trans h7⟩
                      · have hmn : m = n := by
                          have := (List.getElem?_eq_some_iff.1 hx).1
                          simp [turn_len, HS.out.2.2.1] at this
                          omega
                        subst hmn
                        rw [List.getElem?_append_right (by rw [turn_len, HS.out.2.2.1]; exact Nat.le_refl _), turn_len, HS.out.2.2.1, Nat.sub_self] at hx
                        cases hx
                        rw [if_neg (Nat.not_lt_zero _)]
                        refine ⟨_, _, e1.carry (fun q hq => (hK q hq).2) (fun q hq => (hK q hq).1), e2.carry (fun q hq => (hK q hq).2) (fun q hq => (hK q hq).1), ?_, ?_, ?_, ?_, ?_⟩
                        · show _ = some (Value.int .i64 z.k)
                          rw [hzk]; exact hnew 0 (by omega)
                        · show _ = some (Value.string z.nm)
                          rw [hznm]; exact hnew 1 (by omega)
                        · exact hnew 2 (by omega)
                        · exact hnew 3 (by omega)
                        · show _ = some (Value.bool z.op)
                          rw [hzop]; exact hnew 4 (by omega)
                    have hB10 : Below W3.heap.size W3 W10 := by
                      have B5 := (((hB93.alloc (by omega) (.cells #[.int .i64 zk, .string znm, .slice xa na ca, .slice xl nl cl, .bool false] 36))).drew).grown hg5 (by rw [World.size_drew, World.size_alloc]; omega) (fun q hq => by rw [← Option.some.inj hq]; exact htn)
                      rw [← hW10]
                      exact B5.setCell (p := ⟨hb, 0, none⟩) hhb _
                    exact ⟨g2, cap2, h9, hTv, hB10, hgb, by rw [hs10]; exact hlt5, by rw [hs10]; omega, hnq, hmq, by omega⟩
              case rest =>
                obtain ⟨wx, rfl⟩ : ∃ wx, wx = wc := ⟨_, rfl⟩
                obtain ⟨g2, cap2, hbx, hTv, hB, hgb, hgw, hbw2, hc1, hc2, hg3⟩ := hcut
                have h0 := Lib.cell_of_heap hbx 0
                simp only [List.getElem?_toArray, List.getElem?_cons_zero, List.getElem?_cons_succ] at h0
                have HX1 := Lib.hid (And.intro hbx (And.intro hTv hB))
                obtain ⟨i1, hi, hj0, hj1, hj2⟩ := info_parts intInfo
                have HI1 := Lib.hid (And.intro hi (And.intro hj0 (And.intro hj1 hj2)))
                unfold maxLen at hc2
                clear hbx hTv hB hi hj0 hj1 hj2 c0 c1 c2 c3 c4 hrem3 wt k1' fb0 k1
                obtain ⟨HH, hHH⟩ : ∃ HH, turnG b G ++ [turnN b n z] = HH := ⟨_, rfl⟩
                have hHl : HH.length = n + 1 := by rw [← hHH, List.length_append, turn_len, HS.out.2.2.1]; rfl
                have hHa : ∀ x ∈ HH, x.args.length ≤ 2000 := fun x hx => by
                  have key : ∀ y ∈ turnG b G, y.args.length ≤ 2000 := fun y hy => by
                    obtain ⟨q, hq, e⟩ := List.mem_iff_getElem.1 hy
                    rw [turn_len] at hq
                    obtain ⟨i, u, hu, _, hz⟩ := turn_has (b := b) (G := G) hq
                    rw [List.getElem?_eq_getElem (by rw [turn_len]; exact hq), e] at hz
                    cases hz
                    have := HG.out.2.1 u (List.mem_of_getElem? hu)
                    simp only [turnN, List.length_map]
                    omega
                  rw [← hHH] at hx
                  rcases List.mem_append.1 hx with hx | hx
                  · exact key x hx
                  · rw [List.mem_singleton.1 hx]
                    exact key _ (List.mem_of_getElem? HQ.out.2.2.2.2.2.2.2.1)
                have HHH := Lib.hid (And.intro hHH (And.intro hHl hHa))
                rw [hHH] at HX1
                clear hHH hHl hHa
                go_wp2_with fail
                go_loopg [123] (n + 1) (fun gk i wr => ∃ j : Nat, gk = n + 1 - j ∧ i = .int .i64 (j : Int) ∧ j ≤ n + 1 ∧ wr.heap[hb]? = some (.cells #[.slice (some ⟨g2, 0, none⟩) (n + 1) cap2, .int .i64 (rt : Int)] 24) ∧ Tv g2 hb kk n HH j wr ∧ Below W3.heap.size W3 wr ∧ g2 < wr.heap.size ∧ hb < wr.heap.size)
                case atStart => exact ⟨0, by simp, by first | rfl | simp, Nat.zero_le _, HX1.out.1, HX1.out.2.1, HX1.out.2.2, hgw, hbw2⟩
                case round => as_aux_lemma =>
                  obtain ⟨j, rfl, rfl, hj, hbx, hTv, hB, hgr, hbr⟩ := hrel
                  obtain ⟨wy, rfl⟩ : ∃ wy, wy = wr := ⟨_, rfl⟩
                  by_cases hlt : j < n + 1
                  · have hi' : (j : Int) < (n : Int) + 1 := by omega
                    have hcs := hTv
                    obtain ⟨cs2, hcs2, hcz2, hd2⟩ := hTv
                    obtain ⟨x, hx⟩ : ∃ x, HH[j]? = some x := ⟨_, List.getElem?_eq_getElem (by rw [HHH.out.2.1]; exact hlt)⟩
                    obtain ⟨va, vl, e1, e2, e3, e4, e5, e6, e7⟩ := hd2 j x hx
                    rw [if_neg (Nat.lt_irrefl _)] at e1
                    have hal := HHH.out.2.2 x (List.mem_of_getElem? hx)
                    obtain ⟨ga, oa, hsl, hcell⟩ := nums_sl e1
                    obtain ⟨xa2, ca2, ga2, oa2, rfl, -, -⟩ := e1.open_
                    obtain ⟨al, hal2⟩ : ∃ l, x.args = l := ⟨_, rfl⟩
                    rw [hal2] at hsl hcell hal e5
                    obtain ⟨na2, hna3⟩ : ∃ n, al.length = n := ⟨_, rfl⟩
                    rw [hna3] at hsl hal e5
                    have m0 := Lib.cell_of_heap hbx 0
                    simp only [List.getElem?_toArray, List.getElem?_cons_zero, List.getElem?_cons_succ] at m0
                    have m1 : wy.cell? ⟨g2, j * 5 + 2, none⟩ = some (.slice xa2 na2 ca2) := (Lib.cell_of_heap hcs2 _).trans e5
                    have f1 := Lib.frozen_of_heap hcs2 (j * 5 + 2)
                    have hcell2 : Hid (∀ q u, (numsI al)[q]? = some u → (wy.alloc (.cells #[] 3)).cell? ⟨ga, oa + q, none⟩ = some u) := Lib.hid (cells_carry hcell ((Below.refl _ _).alloc (Nat.le_refl _) _))
                    have hOL := Lib.hid (own_lit0 wy 3 1)
                    have hone : Hid (∀ u ∈ numsI al, u.oneCell' = true) := Lib.hid fun u hu => by
                      obtain ⟨a, _, rfl⟩ := List.mem_map.1 (show u ∈ al.map (Value.int .i64) from hu)
                      rfl
                    have HE5x := e5
                    have HR := Lib.hid (And.intro hbx (And.intro hcs2 (And.intro hcz2 (And.intro hd2 (And.intro hx (And.intro hB (And.intro hal2 (And.intro hna3 hsl))))))))
                    clear hbx hcs2 hcz2 hd2 hx hB hal2 hna3 hsl hcs e1 e2 e3 e4 e5 e6 e7 hcell
                    have HLEN : Hid ((numsI al).length = na2 * 1) := Lib.hid (by have := HR.out.2.2.2.2.2.2.2.1; unfold numsI; rw [List.length_map]; omega)
                    have HE5 := Lib.hid HE5x
                    clear HE5x
                    cases al with
                    | nil =>
                      have hna0 : na2 = 0 := by rw [← HR.out.2.2.2.2.2.2.2.1]; rfl
                      have hnz : ¬ 0 < na2 := by omega
                      have hnzI : ¬ (0 : Int) < (na2 : Int) := by omega
                      clear hna0
                      go_wp2_with (at_builtin; (refine wpList_append_sl rfl (.tmp 126) (.tmp 132) _ rfl wy.heap.size 3 i1 _ 1 8 Tryd.underlying31 HI1.out.1 HI1.out.2.1 HI1.out.2.2.1 HI1.out.2.2.2 rfl (by decide) (.slice (some ⟨wy.heap.size, 0, none⟩) 0 0) 0 [] rfl hOL.out _ (.slice xa2 na2 ca2) na2 ga oa rfl HR.out.2.2.2.2.2.2.2.2 (numsI []) HLEN.out hcell2.out hone.out (by unfold maxLen; omega) (by omega) (by simp) ?_); (intro v4 w4 hown4 hg4 hat4); (rw [List.nil_append, Nat.zero_add] at hown4); (obtain ⟨x4, c4, v4e⟩ : ∃ x c, v4 = .slice x na2 c := own_shape hown4); subst v4e; (have hs4 := hg4.size); (rw [World.size_alloc] at hs4); (have hb4 := (hg4.block hb (by rw [World.size_alloc]; omega) (fun h => by have e : hb = wy.heap.size := Option.some.inj h; omega)).trans ((heap_old hbr).trans HR.out.1)); (have hg24 := (hg4.block g2 (by rw [World.size_alloc]; omega) (fun h => by have e : g2 = wy.heap.size := Option.some.inj h; omega)).trans ((heap_old hgr).trans HR.out.2.1)); (have k0 := Lib.cell_of_heap hb4 0); (simp only [List.getElem?_toArray, List.getElem?_cons_zero, List.getElem?_cons_succ] at k0); (have kk1 := (Lib.cell_of_heap hg24 (j * 5 + 2)).trans HE5.out); (have fk1 := Lib.frozen_of_heap hg24 (j * 5 + 2)); (have kh : hb < w4.heap.size := by omega); (have kg : g2 < w4.heap.size := by omega); (have H4 := Lib.hid (And.intro hown4 (And.intro hg4 (And.intro hat4 hg24)))); clear hown4 hg4 hat4 hb4 hg24 hs4)
                      go_roundg (n + 1 - (j + 1))
                      case measure => omega
                      case rel =>
                        obtain ⟨WF, hWF⟩ : ∃ WF, (w4.setCell ⟨g2, j * 5 + 2, none⟩ (.slice x4 na2 c4)) = WF := ⟨_, rfl⟩
                        rw [hWF]
                        obtain ⟨hown4, hg4, hat4, hg24⟩ := H4.out
                        obtain ⟨hbx, hcs2, hcz2, hd2, hx, hB, hal2, hna3, hsl⟩ := HR.out
                        have F : Free (fun q => q = g2) wy WF := by rw [← hWF]; exact free_step (g := g2) (i := j * 5 + 2) (v := .slice x4 na2 c4) hg4 (fun _ _ => rfl) rfl rfl rfl rfl
                        have hF9 := F.block hb hbr (fun h => hgb h.symm)
                        have hbig := F.size
                        have hcs9 : WF.heap[g2]? = some (.cells (cs2.setIfInBounds (j * 5 + 2) (.slice x4 na2 c4)) 36) := by rw [← hWF]; exact heap_setCell_same w4 g2 (j * 5 + 2) _ _ (.slice x4 na2 c4) hg24
                        have hrow : Nums WF (Rw g2 hb WF) (.slice x4 na2 c4) (fstI kk n x.args) := by
                          rw [hal2]
                          show Nums _ _ _ []
                          have hna0 : na2 = 0 := by rw [← hna3]; rfl
                          subst hna0
                          exact ⟨0, 0, .inl ⟨(by rcases hown4.2 with ⟨h, _⟩ | ⟨g, cap, cur, h, _⟩ <;> cases h <;> first | exact .inl rfl | exact .inr ⟨_, _, rfl⟩), rfl⟩, fun i hi => by simp at hi⟩
                        exact ⟨j + 1, rfl, by first | rfl | simp, hlt, hF9.trans hbx, Tv.next hcz2 hd2 F hcs9 hx hrow, hB.trans (free_below F (by have := hB.size; omega) (fun q hq => by rw [hq]; exact hg3)), by omega, by omega⟩
                    | cons a l =>
                      have hnal : na2 = l.length + 1 := by rw [← HR.out.2.2.2.2.2.2.2.1]; rfl
                      have hnp : 0 < na2 := by omega
                      have hnpI : (0 : Int) < (na2 : Int) := by omega
                      have HNL := Lib.hid hnal
                      clear hnal
                      by_cases ea : a = (kk : Int)
                      · subst ea
                        go_wp2_with (at_builtin; (refine wpList_append_sl rfl (.tmp 126) (.tmp 132) _ rfl wy.heap.size 3 i1 _ 1 8 Tryd.underlying31 HI1.out.1 HI1.out.2.1 HI1.out.2.2.1 HI1.out.2.2.2 rfl (by decide) (.slice (some ⟨wy.heap.size, 0, none⟩) 0 0) 0 [] rfl hOL.out _ (.slice xa2 na2 ca2) na2 ga oa rfl HR.out.2.2.2.2.2.2.2.2 (numsI ((kk : Int) :: l)) HLEN.out hcell2.out hone.out (by unfold maxLen; omega) (by omega) (by simp) ?_); (intro v4 w4 hown4 hg4 hat4); (rw [List.nil_append, Nat.zero_add] at hown4); (obtain ⟨g4, c4, v4e, u1, u2, u3, u4⟩ := own_has hown4 hnp); subst v4e; (unfold maxLen at u2); (have hs4 := hg4.size); (rw [World.size_alloc] at hs4); (have hb4 := (hg4.block hb (by rw [World.size_alloc]; omega) (fun h => by have e : hb = wy.heap.size := Option.some.inj h; omega)).trans ((heap_old hbr).trans HR.out.1)); (have hg24 := (hg4.block g2 (by rw [World.size_alloc]; omega) (fun h => by have e : g2 = wy.heap.size := Option.some.inj h; omega)).trans ((heap_old hgr).trans HR.out.2.1)); (have k0 := Lib.cell_of_heap hb4 0); (simp only [List.getElem?_toArray, List.getElem?_cons_zero, List.getElem?_cons_succ] at k0); (have kk1 := (Lib.cell_of_heap hg24 (j * 5 + 2)).trans HE5.out); (have fk1 := Lib.frozen_of_heap hg24 (j * 5 + 2)); (have kh : hb < w4.heap.size := by omega); (have kg : g2 < w4.heap.size := by omega); (have r0 := (hown4.cellAt 0 (by omega)).trans (show (numsI ((kk : Int) :: l))[0]? = some (.int .i64 (kk : Int)) from rfl)); (have fr0 := hown4.frozenAt 0); (have H4 := Lib.hid (And.intro hown4 (And.intro hg4 (And.intro hat4 hg24)))); clear hown4 hg4 hat4 hb4 hg24 hs4)
                        go_roundg (n + 1 - (j + 1))
                        case measure => omega
                        case rel =>
                          obtain ⟨WF, hWF⟩ : ∃ WF, ((w4.setCell ⟨g4, 0, none⟩ (.int .i64 (n : Int))).setCell ⟨g2, j * 5 + 2, none⟩ (.slice (some ⟨g4, 0, none⟩) na2 c4)) = WF := ⟨_, rfl⟩
                          rw [hWF]
                          obtain ⟨hown4, hg4, hat4, hg24⟩ := H4.out
                          obtain ⟨hbx, hcs2, hcz2, hd2, hx, hB, hal2, hna3, hsl⟩ := HR.out
                          have F : Free (fun q => q = g2) wy WF := by rw [← hWF]; exact free_step (w5 := w4.setCell ⟨g4, 0, none⟩ (.int .i64 (n : Int))) (g := g2) (i := j * 5 + 2) (v := .slice (some ⟨g4, 0, none⟩) na2 c4) hg4 (fun q hq => heap_setCell_other _ ⟨g4, 0, none⟩ q _ (show q ≠ g4 by omega)) (by simp) rfl rfl rfl
                          have hF9 := F.block hb hbr (fun h => hgb h.symm)
                          have hbig := F.size
                          have hcs9 : WF.heap[g2]? = some (.cells (cs2.setIfInBounds (j * 5 + 2) (.slice (some ⟨g4, 0, none⟩) na2 c4)) 36) := by rw [← hWF]; exact heap_setCell_same _ g2 (j * 5 + 2) _ _ (.slice (some ⟨g4, 0, none⟩) na2 c4) ((heap_setCell_other w4 ⟨g4, 0, none⟩ g2 (.int .i64 (n : Int)) (show g2 ≠ g4 by omega)).trans hg24)
                          have hrow : Nums WF (Rw g2 hb WF) (.slice (some ⟨g4, 0, none⟩) na2 c4) (fstI kk n x.args) := by
                            rw [hal2]
                            show Nums _ _ _ ((if (kk : Int) = (kk : Int) then (n : Int) else (kk : Int)) :: l)
                            rw [if_pos rfl]
                            have hl1 : l.length + 1 = na2 := by rw [← hna3]; rfl
                            subst hl1
                            have h2 : WF.heap.size = w4.heap.size := by rw [← hWF]; simp
                            exact nums_put hown4 (by rw [← hWF]; exact heap_setCell_other _ ⟨g2, j * 5 + 2, none⟩ g4 _ (show g4 ≠ g2 by omega)) ⟨by omega, by omega, by omega⟩
                          exact ⟨j + 1, rfl, by first | rfl | simp, hlt, hF9.trans hbx, Tv.next hcz2 hd2 F hcs9 hx hrow, hB.trans (free_below F (by have := hB.size; omega) (fun q hq => by rw [hq]; exact hg3)), by omega, by omega⟩
                      · have z1 : (a == (kk : Int)) = false := by simpa using ea
                        have EA := Lib.hid ea
                        clear ea
                        go_wp2_with (at_builtin; (refine wpList_append_sl rfl (.tmp 126) (.tmp 132) _ rfl wy.heap.size 3 i1 _ 1 8 Tryd.underlying31 HI1.out.1 HI1.out.2.1 HI1.out.2.2.1 HI1.out.2.2.2 rfl (by decide) (.slice (some ⟨wy.heap.size, 0, none⟩) 0 0) 0 [] rfl hOL.out _ (.slice xa2 na2 ca2) na2 ga oa rfl HR.out.2.2.2.2.2.2.2.2 (numsI (a :: l)) HLEN.out hcell2.out hone.out (by unfold maxLen; omega) (by omega) (by simp) ?_); (intro v4 w4 hown4 hg4 hat4); (rw [List.nil_append, Nat.zero_add] at hown4); (obtain ⟨g4, c4, v4e, u1, u2, u3, u4⟩ := own_has hown4 hnp); subst v4e; (unfold maxLen at u2); (have hs4 := hg4.size); (rw [World.size_alloc] at hs4); (have hb4 := (hg4.block hb (by rw [World.size_alloc]; omega) (fun h => by have e : hb = wy.heap.size := Option.some.inj h; omega)).trans ((heap_old hbr).trans HR.out.1)); (have hg24 := (hg4.block g2 (by rw [World.size_alloc]; omega) (fun h => by have e : g2 = wy.heap.size := Option.some.inj h; omega)).trans ((heap_old hgr).trans HR.out.2.1)); (have k0 := Lib.cell_of_heap hb4 0); (simp only [List.getElem?_toArray, List.getElem?_cons_zero, List.getElem?_cons_succ] at k0); (have kk1 := (Lib.cell_of_heap hg24 (j * 5 + 2)).trans HE5.out); (have fk1 := Lib.frozen_of_heap hg24 (j * 5 + 2)); (have kh : hb < w4.heap.size := by omega); (have kg : g2 < w4.heap.size := by omega); (have r0 := (hown4.cellAt 0 (by omega)).trans (show (numsI (a :: l))[0]? = some (.int .i64 a) from rfl)); (have fr0 := hown4.frozenAt 0); (have H4 := Lib.hid (And.intro hown4 (And.intro hg4 (And.intro hat4 hg24)))); clear hown4 hg4 hat4 hb4 hg24 hs4)
                        go_roundg (n + 1 - (j + 1))
                        case measure => omega
                        case rel =>
                          obtain ⟨WF, hWF⟩ : ∃ WF, (w4.setCell ⟨g2, j * 5 + 2, none⟩ (.slice (some ⟨g4, 0, none⟩) na2 c4)) = WF := ⟨_, rfl⟩
                          rw [hWF]
                          obtain ⟨hown4, hg4, hat4, hg24⟩ := H4.out
                          obtain ⟨hbx, hcs2, hcz2, hd2, hx, hB, hal2, hna3, hsl⟩ := HR.out
                          have F : Free (fun q => q = g2) wy WF := by rw [← hWF]; exact free_step (g := g2) (i := j * 5 + 2) (v := .slice (some ⟨g4, 0, none⟩) na2 c4) hg4 (fun _ _ => rfl) rfl rfl rfl rfl
                          have hF9 := F.block hb hbr (fun h => hgb h.symm)
                          have hbig := F.size
                          have hcs9 : WF.heap[g2]? = some (.cells (cs2.setIfInBounds (j * 5 + 2) (.slice (some ⟨g4, 0, none⟩) na2 c4)) 36) := by rw [← hWF]; exact heap_setCell_same w4 g2 (j * 5 + 2) _ _ (.slice (some ⟨g4, 0, none⟩) na2 c4) hg24
                          have hrow : Nums WF (Rw g2 hb WF) (.slice (some ⟨g4, 0, none⟩) na2 c4) (fstI kk n x.args) := by
                            rw [hal2]
                            show Nums _ _ _ ((if a = (kk : Int) then (n : Int) else a) :: l)
                            rw [if_neg EA.out]
                            have hl1 : l.length + 1 = na2 := by rw [← hna3]; rfl
                            subst hl1
                            have h2 : WF.heap.size = w4.heap.size := by rw [← hWF]; simp
                            have h8 := own_same (W' := WF) hown4 (fun q hq => by
                              have e : g4 = q := Option.some.inj hq
                              rw [← hWF]
                              exact heap_setCell_other _ ⟨g2, j * 5 + 2, none⟩ q _ (show q ≠ g2 by omega))
                            exact nums_own (l := a :: l) h8 (fun q hq => by
                              have e : g4 = q := Option.some.inj hq
                              exact ⟨by omega, by omega, by omega⟩)
                          exact ⟨j + 1, rfl, by first | rfl | simp, hlt, hF9.trans hbx, Tv.next hcz2 hd2 F hcs9 hx hrow, hB.trans (free_below F (by have := hB.size; omega) (fun q hq => by rw [hq]; exact hg3)), by omega, by omega⟩
                  · have hi' : ¬ (j : Int) < (n : Int) + 1 := by omega
                    obtain rfl : j = n + 1 := by omega
                    obtain ⟨x0, x1, x2, x3, x4, x5, x6, x7⟩ := X.out wy hB
                    have hTn : (turnG b G).length = n := by rw [turn_len, HS.out.2.2.1]
                    have hHk := HQ.out.2.2.2.2.2.2.2.1
                    have hgd : (turnG b G).getD kk noN = turnN b n z := by rw [List.getD_eq_getElem?_getD, hHk]; rfl
                    rw [← HHH.out.1] at hTv
                    have hGT := hTv.graph hTn hgd hgr hc1 (by unfold maxLen; omega)
                    have hck : checkG (turnG b G) (rt : Int) = 0 := (sameGr_iff.1 HSM.out).2.1
                    have hcl : ¬ (turnN b n z).freeB = true := by
                      unfold GN.freeB turnN
                      simp only [HQ.out.2.2.2.2.2.2.2.2.1, HQ.out.2.2.2.2.2.2.2.2.2.2.1]
                      simp [K1.out]
                    have hs2 := (sameGr_iff.1 HSM.out).trans (sameGr_iff.1 (twice_same hck hHk (by omega) hcl))
                    have hs3 := sameGr_iff.2 hs2
                    have HS3 := Lib.hid hs3
                    have sT : Sized (twiceG kk (turnG b G)) := twice_sized (turn_sized HS.out.1) (by omega)
                    have h0' := Lib.cell_of_heap hbx 0
                    have h1' := Lib.cell_of_heap hbx 1
                    simp only [List.getElem?_toArray, List.getElem?_cons_zero, List.getElem?_cons_succ] at h0' h1'
                    have CS := Lib.hid (gsame_any (fun q => q < wy.heap.size) (.slice xg n cg) (.slice (some ⟨g2, 0, none⟩) (n + 1) cap2) (rn : Int) (rt : Int) G (twiceG kk (turnG b G)) wy T ev x4 x5 (x2.carry (fun _ _ => rfl) x3) hGT (fun _ h => h) HS.out.1 sT (by rw [HS.out.2.2.1]; omega) (by rw [twice_len, hTn]; omega) (fun x hx => by have := HG.out.2.1 x hx; omega))
                    have HB := Lib.hid x7
                    clear x2 x3 x4 x5 x7 hTn hHk hgd hTv hGT hck hcl hs2 hs3 sT hB hbx
                    go_wp2_with fail
                    refine CS.out.mono ?_
                    rintro e8 w8 ⟨rfl, hB8⟩
                    rw [HS3.out]
                    have HB8 := Lib.hid (HB.out.trans (hB8.mono HB.out.size))
                    clear CS hB8
                    go_wp2_with fail
                    go_ret
                    exact ⟨rfl, HB8.out⟩
end Go.Proofs.YtelmigkbofnicaaDoor
