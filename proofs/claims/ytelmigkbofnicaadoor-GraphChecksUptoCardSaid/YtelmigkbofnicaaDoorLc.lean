/- trefoillaw06.GraphChecks. -/
import Derived.Test.YtelmigkbofnicaaDoorVt
import Derived.Test.YtelmigkbofnicaaDoorVf
import Derived.Test.YtelmigkbofnicaaDoorTg
import Derived.Test.YtelmigkbofnicaaDoorTn
import Derived.Test.YtelmigkbofnicaaDoorRe
import Derived.Test.YtelmigkbofnicaaDoorGg
import Derived.Test.YtelmigkbofnicaaDoorGv
import Derived.Test.YtelmigkbofnicaaDoorGj
namespace Go.Proofs.YtelmigkbofnicaaDoor
open Go.ChangeShapes Go.WideShapes Go.ChangeAt Go.RowKit

/-- The graph as it was: its nodes in a row of their own. -/
def Was (W : World) (r : Int) (G : List GN) (s3 : Value) (wx : World) : Prop := ∃ wb x c, s3 = .pointer (some ⟨wb, 0, none⟩) ∧ W.heap.size ≤ wb ∧ wx.heap[wb]? = some (.cells #[.slice x G.length c, .int .i64 r] 24) ∧ GrAt wx (fun b => b < wx.heap.size) (.slice x G.length c) G ∧ Below W.heap.size W wx
theorem was_of {W w7 wx : World} {S : Nat → Prop} {r : Int} {G : List GN} {news : List Value} {x7 : Option Addr} {n c7 base wb : Nat} {e : TypeId} (hO : w7.ownsRow base e 5 (.slice x7 n c7) n news) (hnc : NC W S G news) (hS : ∀ b, S b → b < W.heap.size) (hn : G.length = n) (hne : ∀ q, (Value.slice x7 n c7).ownBlock = some q → q ≠ wb) (hx : ∀ q, q ≠ wb → q < w7.heap.size → wx.heap[q]? = w7.heap[q]?)
    (hM : wx.heap[wb]? = some (.cells #[.slice x7 n c7, .int .i64 r] 24)) (hob : W.heap.size ≤ wb) (hB : Below W.heap.size W wx) : Was W r G (.pointer (some ⟨wb, 0, none⟩)) wx := by
  subst hn
  refine ⟨wb, x7, c7, rfl, hob, hM, ?_, hB⟩
  have hO' := own_same (W' := wx) hO fun q hq => hx q (hne q hq) (hO.lt q hq).2
  exact gr_own hO' (hnc.carry (keeps_of hB hS) fun b hb => Nat.lt_of_lt_of_le (hS b hb) hB.size) (fun _ h => h) fun q hq => (hO'.lt q hq).2
theorem heap_put2 {W : World} {b : Nat} {u0 u1 v0 v1 : Value} {T : TypeId} (h : W.heap[b]? = some (.cells #[u0, u1] T)) : ((W.setCell ⟨b, 0, none⟩ v0).setCell ⟨b, 1, none⟩ v1).heap[b]? = some (.cells #[v0, v1] T) := by
  have h := heap_setCell_same _ b 1 _ _ v1 (heap_setCell_same _ b 0 _ _ v0 h)
  simpa using h
theorem heap_put2_ne {W : World} {b q : Nat} (v0 v1 : Value) (h : q ≠ b) : ((W.setCell ⟨b, 0, none⟩ v0).setCell ⟨b, 1, none⟩ v1).heap[q]? = W.heap[q]? := by
  rw [heap_setCell_other _ ⟨b, 1, none⟩ q _ h, heap_setCell_other _ ⟨b, 0, none⟩ q _ h]
theorem below_put2 {C : Nat} {A W : World} {b : Nat} (h : Below C A W) (hb : C ≤ b) (v0 v1 : Value) : Below C A ((W.setCell ⟨b, 0, none⟩ v0).setCell ⟨b, 1, none⟩ v1) :=
  (h.setCell (p := ⟨b, 0, none⟩) hb _).setCell (p := ⟨b, 1, none⟩) hb _
theorem was_set {W w7 : World} {S : Nat → Prop} {r : Int} {G : List GN} {news : List Value} {x7 : Option Addr} {n c7 base wb : Nat} {e : TypeId} (hM : w7.heap[wb]? = some (.cells #[.slice none 0 0, .int .i64 0] 24)) (hO : w7.ownsRow base e 5 (.slice x7 n c7) n news) (hnc : NC W S G news) (hS : ∀ b, S b → b < W.heap.size) (hn : G.length = n) (hne : ∀ q, (Value.slice x7 n c7).ownBlock = some q → q ≠ wb) (hob : W.heap.size ≤ wb) (hB : Below W.heap.size W w7) :
    Was W r G (.pointer (some ⟨wb, 0, none⟩)) ((w7.setCell ⟨wb, 0, none⟩ (.slice x7 n c7)).setCell ⟨wb, 1, none⟩ (.int .i64 r)) :=
  was_of hO hnc hS hn hne (fun _ hq _ => heap_put2_ne _ _ hq) (heap_put2 hM) hob (below_put2 hB hob _ _)

/-- Of nodes: where each one's Args lie, in plain cells. -/
def Ap (W : World) (K : Nat → Prop) (v : Value) (l : List GN) : Prop := ∀ i, i < l.length → ∃ tn c xa na ca, v = .slice (some ⟨tn, 0, none⟩) l.length c ∧ l.length ≤ c ∧ c ≤ maxLen ∧ K tn ∧ tn < W.heap.size ∧ W.cell? ⟨tn, i * 5 + 2, none⟩ = some (.slice xa na ca) ∧ na ≤ 9223372036854775807 ∧
  (0 < na → ∃ ga oa cs T, xa = some ⟨ga, oa, none⟩ ∧ na ≤ ca ∧ ca ≤ maxLen ∧ K ga ∧ ga ≠ tn ∧ W.heap[ga]? = some (.cells cs T) ∧ oa + na ≤ cs.size)
theorem Ap.carry {W W' : World} {K K' : Nat → Prop} {v : Value} {l : List GN} (h : Ap W K v l) (hk : ∀ b, K b → b < W.heap.size → W'.heap[b]? = W.heap[b]?) (hs : W.heap.size ≤ W'.heap.size) (hK : ∀ b, b < W.heap.size → K b → K' b) : Ap W' K' v l := fun i hi => by
  obtain ⟨tn, c, xa, na, ca, h1, h2, h3, h4, h5, h6, h7, h8⟩ := h i hi
  refine ⟨tn, c, xa, na, ca, h1, h2, h3, hK tn h5 h4, by omega, (World.cell?_of_block (a := ⟨tn, i * 5 + 2, none⟩) (hk tn h4 h5)).trans h6, h7, fun hn => ?_⟩
  obtain ⟨ga, oa, cs, T, g1, g2, g3, g4, g5, g6, g7⟩ := h8 hn
  have hg := (Array.getElem?_eq_some_iff.1 g6).1
  exact ⟨ga, oa, cs, T, g1, g2, g3, hK ga hg g4, g5, (hk ga g4 hg).trans g6, g7⟩
theorem GrApart.ap {W : World} {B : Nat} {v : Value} {l : List GN} (h : GrApart W B v l) : Ap W (fun b => B ≤ b) v l := fun i hi => by
  obtain ⟨tn, rfl, h1, h2, h3, h4⟩ := h
  obtain ⟨va, vl, a0, a1, a2, a3, a4, a5, a6, a7⟩ := h4 i hi
  have hlen := a5.len
  obtain ⟨xa, ca, ga, oa, rfl, hx, hc⟩ := a5.open_
  refine ⟨tn, _, xa, _, ca, rfl, Nat.le_refl _, h3, h1, h2, a2, by unfold maxLen at hlen; omega, fun hn => ?_⟩
  obtain ⟨rfl, g1, g2, g3⟩ := hx hn
  obtain ⟨cs, T, hcs⟩ := a7 _ _ _ rfl hn
  have hl := hc (l[i].args.length - 1) (by omega)
  have hcs' : W.heap[ga]? = some (.cells cs T) := hcs
  rw [Lib.cell_of_heap hcs'] at hl
  have := (Array.getElem?_eq_some_iff.1 hl).1
  exact ⟨ga, oa, cs, T, rfl, g1, g2, g3.1, g3.2.2, hcs, by omega⟩
/-- What both make of the graph. -/
def Both (W : World) (l : List GN) (s4 s5 : Value) (wx : World) : Prop := ∃ ta tb x c y d, s4 = .pointer (some ⟨ta, 0, none⟩) ∧ s5 = .pointer (some ⟨tb, 0, none⟩) ∧ wx.heap[ta]? = some (.cells #[.slice x l.length c, .int .i64 0] 24) ∧ wx.heap[tb]? = some (.cells #[.slice y l.length d, .int .i64 0] 24) ∧ W.heap.size ≤ ta ∧
  GrAt wx (fun b => b < wx.heap.size) (.slice x l.length c) l ∧ GrAt wx (fun b => b < wx.heap.size) (.slice y l.length d) l ∧ Ap wx (fun b => W.heap.size ≤ b ∧ b ≠ ta) (.slice x l.length c) l ∧ Below W.heap.size W wx

theorem box1 {W w6 : World} {o : Obj} (h : Below ((W.alloc o).drew).heap.size (W.alloc o).drew w6) : w6.heap[W.heap.size]? = some o := (h.block _ (by simp)).trans (heap_last rfl)
theorem box2 {W w6 : World} {o o' : Obj} (h : Below (((W.alloc o).alloc o').drew).heap.size ((W.alloc o).alloc o').drew w6) : w6.heap[W.heap.size]? = some o ∧ w6.heap[W.heap.size + 1]? = some o' := ⟨(h.block _ (by simp; omega)).trans ((heap_old (by simp)).trans (heap_last rfl)), (h.block _ (by simp)).trans (heap_last (by simp))⟩
theorem box3 {W w6 : World} {o : Obj} (h : Below ((W.alloc o)).heap.size (W.alloc o) w6) : w6.heap[W.heap.size]? = some o := (h.block _ (by simp)).trans (heap_last rfl)
theorem box4 {W w6 : World} {o o' : Obj} (h : Below (((W.alloc o).alloc o')).heap.size ((W.alloc o).alloc o') w6) : w6.heap[W.heap.size]? = some o ∧ w6.heap[W.heap.size + 1]? = some o' := ⟨(h.block _ (by simp; omega)).trans ((heap_old (by simp)).trans (heap_last rfl)), (h.block _ (by simp)).trans (heap_last (by simp))⟩
theorem bel1 {W w6 : World} {o : Obj} (h : Below ((W.alloc o)).heap.size (W.alloc o) w6) : Below W.heap.size W w6 := ((Below.refl _ _).alloc (Nat.le_refl _) _).trans (h.mono (by simp))
theorem bel2 {W w6 : World} {o o' : Obj} (h : Below (((W.alloc o).alloc o')).heap.size ((W.alloc o).alloc o') w6) : Below W.heap.size W w6 := (((Below.refl _ _).alloc (Nat.le_refl _) _).alloc (by simp) _).trans (h.mono (by simp; omega))
theorem both_of {Wb w6 w7 wx : World} {l : List GN} {x6 x7 : Option Addr} {m c6 c7 ta tb v1 v2 : Nat} (hm : l.length = m) (hG6 : GrAt w6 (fun b => v1 ≤ b ∧ b < w6.heap.size) (.slice x6 m c6) l) (hA6 : Ap w6 (fun b => v1 ≤ b) (.slice x6 m c6) l) (hG7 : GrAt w7 (fun b => v2 ≤ b ∧ b < w7.heap.size) (.slice x7 m c7) l) (h67 : Below w6.heap.size w6 w7)
    (hx : ∀ q, q < w7.heap.size → q ≠ ta → q ≠ tb → wx.heap[q]? = w7.heap[q]?) (hs : w7.heap.size ≤ wx.heap.size) (h1 : ta < v1 ∨ w6.heap.size ≤ ta) (h2 : tb < v1 ∨ w6.heap.size ≤ tb) (h3 : ta < v2 ∨ w7.heap.size ≤ ta) (h4 : tb < v2 ∨ w7.heap.size ≤ tb) (hMa : wx.heap[ta]? = some (.cells #[.slice x6 m c6, .int .i64 0] 24)) (hMb : wx.heap[tb]? = some (.cells #[.slice x7 m c7, .int .i64 0] 24)) (hv1 : Wb.heap.size ≤ v1) (hta : Wb.heap.size ≤ ta) (hB : Below Wb.heap.size Wb wx) :
    Both Wb l (.pointer (some ⟨ta, 0, none⟩)) (.pointer (some ⟨tb, 0, none⟩)) wx := by
  subst hm
  have s67 := h67.size
  have k6 : ∀ b, v1 ≤ b → b < w6.heap.size → wx.heap[b]? = w6.heap[b]? := fun b h hb => (hx b (by omega) (by omega) (by omega)).trans (h67.block b hb)
  refine ⟨ta, tb, x6, c6, x7, c7, rfl, rfl, hMa, hMb, hta, hG6.carry (fun b hb => k6 b hb.1 hb.2) (fun b hb => by omega), hG7.carry (fun b hb => hx b hb.2 (by omega) (by omega)) (fun b hb => by omega), hA6.carry k6 (by omega) (fun b h hb => by omega), hB⟩

theorem nums_reach {W : World} {S : Nat → Prop} {base : Nat} {e : TypeId} {v : Value} {L : List Nat} (h : W.ownsRow base e 1 v L.length (nums L)) (hS : ∀ b, v.ownBlock = some b → S b) : Nums W S v (L.map fun i : Nat => (i : Int)) := by
  refine nums_own (base := base) (e := e) ?_ hS
  have e1 : numsI (L.map fun i : Nat => (i : Int)) = nums L := by unfold numsI nums; rw [List.map_map]; rfl
  rw [e1, List.length_map]
  exact h
/-- Blocks of plain cells are such, of the same size, later. -/
def Shp (A B : World) : Prop := ∀ (b : Nat) (cs : Array Value) (T : TypeId), A.heap[b]? = some (.cells cs T) → ∃ cs' : Array Value, B.heap[b]? = some (.cells cs' T) ∧ cs'.size = cs.size
theorem Shp.refl (A : World) : Shp A A := fun _ cs _ h => ⟨cs, h, rfl⟩
theorem Shp.set {A B : World} (h : Shp A B) (b o : Nat) (v : Value) : Shp A (B.setCell ⟨b, o, none⟩ v) := fun q cs T hq => by
  obtain ⟨cs', h1, h2⟩ := h q cs T hq
  by_cases e : q = b
  · subst e
    exact ⟨_, heap_setCell_same _ _ _ _ _ _ h1, by simpa using h2⟩
  · exact ⟨cs', (heap_setCell_other _ ⟨b, o, none⟩ q _ e).trans h1, h2⟩
/-- Where the Args of what is trimmed lie. -/
def MM (B ta : Nat) (v : Value) (b : Nat) : Prop := B ≤ b ∧ b ≠ ta ∧ ∀ tn n c, v = .slice (some ⟨tn, 0, none⟩) n c → b ≠ tn

set_option linter.unusedSimpArgs false in
set_option maxHeartbeats 8000000 in
set_option maxRecDepth 100000 in
theorem checkslaw_any (S : Nat → Prop) (vg : Value) (r : Int) (G : List GN) (w : World) (T : TypeId) (ev : Value) (hg : w.cell? ⟨0, 0, none⟩ = some (.iface T ev)) (hgl : 0 < w.heap.size) (hG : GrAt w S vg G) (hS : ∀ b, S b → b < w.heap.size) (sG : Sized G) (hb : greatN G ≤ 4611686018427387904) :
    Calls Tryd.prog 3 #[.agg #[vg, .int .i64 r]] w fun e w' => e = .returned (.bool true) ∧ Below w.heap.size w w' := by
  obtain ⟨xg, cg, gg, og, rfl, hxg, hng⟩ := hG.open_
  obtain ⟨i0, hi0, hz0, hz1, hz2⟩ := info_parts nodeInfoT
  obtain ⟨n, en⟩ : ∃ n, G.length = n := ⟨_, rfl⟩
  clear hxg hng
  rw [en] at hG ⊢
  have HX : Hid (∀ V, Below w.heap.size w V → GrAt V S (.slice xg n cg) G ∧ (∀ b, S b → b < V.heap.size) ∧ V.cell? ⟨0, 0, none⟩ = some (.iface T ev) ∧ 0 < V.heap.size) := Lib.hid fun V hV =>
    ⟨hG.carry (keeps_of hV hS) fun _ h => h, fun b hb => Nat.lt_of_lt_of_le (hS b hb) hV.size, (hV.cell (p := ⟨_, 0, none⟩) hgl).trans hg, Nat.lt_of_lt_of_le hgl hV.size⟩
  have HS := Lib.hid (And.intro sG (And.intro hb (And.intro en hS)))
  clear hg hgl hG hS sG hb
  go_enter Tryd.func3, Tryd.ntmps3
  have B0 : Hid (Below w.heap.size w (w.alloc (.cells #[.slice xg n cg, .int .i64 r] 24))) := Lib.hid ((Below.refl _ _).alloc (Nat.le_refl _) _)
  have b0 : Hid ((w.alloc (.cells #[.slice xg n cg, .int .i64 r] 24)).heap[w.heap.size]? = some (.cells #[.slice xg n cg, .int .i64 r] 24)) := Lib.hid (heap_last rfl)
  have C0 := Lib.hid (alive_any _ T ev (HX.out _ B0.out).2.2.1 (HX.out _ B0.out).2.2.2)
  go_wp2_with fail
  refine C0.out.mono ?_
  rintro e1 W1 ⟨rfl, hB1⟩
  clear C0
  have s1 : w.heap.size + 1 ≤ W1.heap.size := by have := hB1.size; simpa using this
  have B1 : Hid (Below w.heap.size w W1) := Lib.hid (B0.out.trans (hB1.mono (by simp)))
  have b1 := Lib.hid ((hB1.block w.heap.size (by simp)).trans b0.out)
  clear hB1 B0 b0
  have a0 := Lib.cell_of_heap b1.out 0
  have a1 := Lib.cell_of_heap b1.out 1
  simp only [List.getElem?_toArray, List.getElem?_cons_zero, List.getElem?_cons_succ] at a0 a1
  have C1 := Lib.hid (great_any S (.slice xg n cg) r G W1 (HX.out _ B1.out).1 (HX.out _ B1.out).2.1 HS.out.2.1)
  go_wp2_with fail
  refine C1.out.mono ?_
  rintro e2 W2 ⟨rfl, hB2⟩
  clear C1 a0 a1
  have s2 := hB2.size
  have B2 : Hid (Below w.heap.size w W2) := Lib.hid (B1.out.trans (hB2.mono (by omega)))
  have b2 := Lib.hid ((hB2.block w.heap.size (by omega)).trans b1.out)
  clear hB2 b1
  have a0 := Lib.cell_of_heap b2.out 0
  have a1 := Lib.cell_of_heap b2.out 1
  simp only [List.getElem?_toArray, List.getElem?_cons_zero, List.getElem?_cons_succ] at a0 a1
  by_cases hgt : (1000 : Int) < (greatN G : Int)
  · go_wp2_with fail
    go_ret
    exact ⟨rfl, B2.out⟩
  · have hgr := great_len (l := G) (k := 1000) (by omega)
    rw [en] at hgr
    have hn3 := hgr.1
    have HG := Lib.hid hgr
    have egt : decide ((1000 : Int) < (greatN G : Int)) = false := by simp [hgt]
    obtain ⟨gs, os, news, hsl, hnc, hcell⟩ := nc_of (HX.out _ B2.out).1
    rw [en] at hsl
    have HN := Lib.hid (And.intro hsl (And.intro hnc hcell))
    have HI := Lib.hid (And.intro hi0 (And.intro hz0 (And.intro hz1 hz2)))
    have HLEN : Hid (news.length = n * 5) := Lib.hid (by rw [HN.out.2.1.len, HS.out.2.2.1])
    have hlt2 : w.heap.size < W2.heap.size := by omega
    have SO : Hid (∀ V, Below W2.heap.size W2 V → V.cell? ⟨w.heap.size, 0, none⟩ = some (.slice xg n cg) ∧ V.cell? ⟨w.heap.size, 1, none⟩ = some (.int .i64 r) ∧ w.heap.size < V.heap.size ∧ Below W2.heap.size W2 V) := Lib.hid fun V hV =>
      ⟨(World.cell?_of_block (hV.block w.heap.size hlt2)).trans a0, (World.cell?_of_block (hV.block w.heap.size hlt2)).trans a1, Nat.lt_of_lt_of_le hlt2 hV.size, hV⟩
    have HHA := Lib.hid (own_lit0 W2 36 5).drew
    have HHB := Lib.hid ((own_lit0 W2 36 5).alloc (.cells #[.slice none 0 0, .int .i64 0] 24)).drew
    have HHC : Hid ((((W2.alloc (.cells #[.slice none 0 0, .int .i64 0] 24)).alloc (.cells #[] 36)).drew).ownsRow (W2.heap.size + 1) 36 5 (.slice (some ⟨W2.heap.size + 1, 0, none⟩) 0 0) 0 []) := Lib.hid (by
      have h := (own_lit0 (W2.alloc (.cells #[.slice none 0 0, .int .i64 0] 24)) 36 5).drew
      simpa using h)
    have HDD : Hid (Below W2.heap.size W2 W2.drew) := Lib.hid (Below.refl _ _).drew
    have HBD : Hid (Below W2.heap.size W2 (W2.alloc (.cells #[.slice none 0 0, .int .i64 0] 24)).drew) := Lib.hid (((Below.refl _ _).alloc (Nat.le_refl _) _).drew)
    have HBA : Hid (Below W2.heap.size W2 (W2.alloc (.cells #[] 36)).drew) := Lib.hid (((Below.refl _ _).alloc (Nat.le_refl _) _).drew)
    have HBB : Hid (Below W2.heap.size W2 ((W2.alloc (.cells #[] 36)).alloc (.cells #[.slice none 0 0, .int .i64 0] 24)).drew) := Lib.hid ((((Below.refl _ _).alloc (Nat.le_refl _) _).alloc (by simp) _).drew)
    have HBC : Hid (Below W2.heap.size W2 ((W2.alloc (.cells #[.slice none 0 0, .int .i64 0] 24)).alloc (.cells #[] 36)).drew) := Lib.hid ((((Below.refl _ _).alloc (Nat.le_refl _) _).alloc (by simp) _).drew)
    clear hgr hsl hnc hcell hi0 hz0 hz1 hz2 s1 s2
    go_upto_region 5 with (fail)
    go_cut [3] from 13 to 19 (fun s3 wx => Was W2 r G s3 wx)
    case first =>
      clear a0 a1
      go_region_held3 (fun V => V.cell? ⟨w.heap.size, 0, none⟩ = some (.slice xg n cg) ∧ V.cell? ⟨w.heap.size, 1, none⟩ = some (.int .i64 r) ∧ w.heap.size < V.heap.size ∧ Below W2.heap.size W2 V)
        (first
          | with_reducible exact SO.out _ ((hB7.setCell (p := ⟨W2.heap.size + 1, 0, none⟩) (Nat.le_succ _) _).setCell (p := ⟨W2.heap.size + 1, 1, none⟩) (Nat.le_succ _) _)
          | with_reducible exact SO.out _ ((hB7.setCell (p := ⟨W2.heap.size, 0, none⟩) (Nat.le_refl _) _).setCell (p := ⟨W2.heap.size, 1, none⟩) (Nat.le_refl _) _)
          | with_reducible exact SO.out _ hB7
          | with_reducible exact SO.out _ (hB7.alloc HS7.out _)
          | with_reducible exact SO.out _ HDD.out
          | with_reducible exact SO.out _ HBA.out
          | with_reducible exact SO.out _ HBB.out
          | with_reducible exact SO.out _ HBC.out
          | with_reducible exact SO.out _ HBD.out)
        (first
          | (refine step_append_sl rfl (.tmp 15) (.tmp 17) 22 rfl W2.heap.size 36 i0 _ 5 80 Tryd.underlying22 HI.out.1 HI.out.2.1 HI.out.2.2.1 HI.out.2.2.2 rfl (by decide) (.slice (some ⟨W2.heap.size, 0, none⟩) 0 0) 0 [] rfl (by with_reducible exact HHA.out) S (.slice xg n cg) n gs os rfl HN.out.1 news HLEN.out (cells_carry HN.out.2.2 (by with_reducible exact HBA.out)) HN.out.2.1.one (by unfold maxLen; omega) (by omega) (by simp <;> omega) ?_; intro v7 w7 hown7 hg7 hat7; rw [List.nil_append, Nat.zero_add] at hown7; obtain ⟨x7, c7, v7e⟩ : ∃ x c, v7 = .slice x n c := own_shape hown7; subst v7e; have hB7 : Below W2.heap.size W2 w7 := HBA.out.grown hg7 (by simp <;> omega) (fun b hb => by simp only [Value.ownBlock, Option.some.injEq] at hb; omega); have hs7 := hg7.size; (simp only [World.size_drew, World.size_alloc] at hs7); have HO7 := Lib.hid hown7; have HS7 : Hid (W2.heap.size ≤ w7.heap.size) := Lib.hid (by omega); have HAT7 := Lib.hid hat7; clear hown7 hat7; clear hg7)
          | (refine step_append_sl rfl (.tmp 15) (.tmp 17) 22 rfl W2.heap.size 36 i0 _ 5 80 Tryd.underlying22 HI.out.1 HI.out.2.1 HI.out.2.2.1 HI.out.2.2.2 rfl (by decide) (.slice (some ⟨W2.heap.size, 0, none⟩) 0 0) 0 [] rfl (by with_reducible exact HHB.out) S (.slice xg n cg) n gs os rfl HN.out.1 news HLEN.out (cells_carry HN.out.2.2 (by with_reducible exact HBB.out)) HN.out.2.1.one (by unfold maxLen; omega) (by omega) (by simp <;> omega) ?_; intro v7 w7 hown7 hg7 hat7; rw [List.nil_append, Nat.zero_add] at hown7; obtain ⟨x7, c7, v7e⟩ : ∃ x c, v7 = .slice x n c := own_shape hown7; subst v7e; have hB7 : Below W2.heap.size W2 w7 := HBB.out.grown hg7 (by simp <;> omega) (fun b hb => by simp only [Value.ownBlock, Option.some.injEq] at hb; omega); have hs7 := hg7.size; (simp only [World.size_drew, World.size_alloc] at hs7); have HO7 := Lib.hid hown7; have HS7 : Hid (W2.heap.size ≤ w7.heap.size) := Lib.hid (by omega); have HAT7 := Lib.hid hat7; clear hown7 hat7; have hM7 := (hg7.block (W2.heap.size + 1) (by simp <;> omega) (fun h => by simp only [Value.ownBlock, Option.some.injEq] at h <;> omega)).trans (heap_last (by simp)); have m0 := Lib.cell_of_heap hM7 0; have m1 := Lib.cell_of_heap hM7 1; have f0 := Lib.frozen_of_heap hM7 0; have f1 := Lib.frozen_of_heap hM7 1; (simp only [List.getElem?_toArray, List.getElem?_cons_zero, List.getElem?_cons_succ] at m0 m1); have hbw : W2.heap.size + 1 < w7.heap.size := (by omega); have HM7 := Lib.hid hM7; clear hM7; clear hg7)
          | (refine step_append_sl rfl (.tmp 15) (.tmp 17) 22 rfl (W2.heap.size + 1) 36 i0 _ 5 80 Tryd.underlying22 HI.out.1 HI.out.2.1 HI.out.2.2.1 HI.out.2.2.2 rfl (by decide) (.slice (some ⟨W2.heap.size + 1, 0, none⟩) 0 0) 0 [] rfl (by with_reducible exact HHC.out) S (.slice xg n cg) n gs os rfl HN.out.1 news HLEN.out (cells_carry HN.out.2.2 (by with_reducible exact HBC.out)) HN.out.2.1.one (by unfold maxLen; omega) (by omega) (by simp <;> omega) ?_; intro v7 w7 hown7 hg7 hat7; rw [List.nil_append, Nat.zero_add] at hown7; obtain ⟨x7, c7, v7e⟩ : ∃ x c, v7 = .slice x n c := own_shape hown7; subst v7e; have hB7 : Below W2.heap.size W2 w7 := HBC.out.grown hg7 (by simp <;> omega) (fun b hb => by simp only [Value.ownBlock, Option.some.injEq] at hb; omega); have hs7 := hg7.size; (simp only [World.size_drew, World.size_alloc] at hs7); have HO7 := Lib.hid hown7; have HS7 : Hid (W2.heap.size ≤ w7.heap.size) := Lib.hid (by omega); have HAT7 := Lib.hid hat7; clear hown7 hat7; have hM7 := (hg7.block (W2.heap.size) (by simp <;> omega) (fun h => by simp only [Value.ownBlock, Option.some.injEq] at h <;> omega)).trans ((heap_old (by simp)).trans (heap_last rfl)); have m0 := Lib.cell_of_heap hM7 0; have m1 := Lib.cell_of_heap hM7 1; have f0 := Lib.frozen_of_heap hM7 0; have f1 := Lib.frozen_of_heap hM7 1; (simp only [List.getElem?_toArray, List.getElem?_cons_zero, List.getElem?_cons_succ] at m0 m1); have hbw : W2.heap.size < w7.heap.size := (by omega); have HM7 := Lib.hid hM7; clear hM7; clear hg7))
      all_goals
        go_wp2_with fail
        go_meet
        case rel =>
          first
            | (with_reducible refine was_of HO7.out HN.out.2.1 (HX.out _ B2.out).2.1 HS.out.2.2.1 ?_ ?_ (heap_last rfl) HS7.out (hB7.alloc HS7.out _))
              · exact fun q hq => Nat.ne_of_lt (HO7.out.lt q hq).2
              · exact fun q _ hq => heap_old hq
            | (with_reducible refine was_set HM7.out HO7.out HN.out.2.1 (HX.out _ B2.out).2.1 HS.out.2.2.1 ?_ ?_ hB7)
              · intro q hq
                rcases HAT7.out with h | h
                · rw [h] at hq
                  simp only [Value.ownBlock, Option.some.injEq] at hq
                  omega
                · rw [h] at hq
                  simp only [World.size_drew, World.size_alloc, Option.some.injEq] at hq
                  omega
              · omega
    case rest =>
      obtain ⟨Wb, rfl⟩ : ∃ W, W = wc := ⟨_, rfl⟩
      obtain ⟨wb, xw, cw, rfl, hwb, hMw, hGw, hBb⟩ := hcut
      rw [HS.out.2.2.1] at hMw hGw
      have hBw : Below w.heap.size w Wb := B2.out.trans (hBb.mono (by omega))
      have sb := hBb.size
      have hwbs : wb < Wb.heap.size := (Array.getElem?_eq_some_iff.1 hMw).1
      have hbg := (hBb.block w.heap.size hlt2).trans b2.out
      have X : Hid (∀ V, Below Wb.heap.size Wb V → GrAt V (fun b => b < Wb.heap.size) (.slice xg n cg) G ∧ GrAt V (fun b => b < Wb.heap.size) (.slice xw n cw) G ∧ V.cell? ⟨0, 0, none⟩ = some (.iface T ev) ∧ 0 < V.heap.size ∧ V.heap[w.heap.size]? = some (.cells #[.slice xg n cg, .int .i64 r] 24) ∧ V.heap[wb]? = some (.cells #[.slice xw n cw, .int .i64 r] 24) ∧ Below w.heap.size w V ∧ Wb.heap.size ≤ V.heap.size) := Lib.hid fun V hV => by
        have hw := hBw.trans (hV.mono hBw.size)
        have hx := HX.out V hw
        have hy := HX.out Wb hBw
        exact ⟨hy.1.carry (fun b hb => hV.block b (hy.2.1 b hb)) hy.2.1, hGw.carry (keeps_of hV fun _ h => h) (fun _ h => h), hx.2.2.1, hx.2.2.2, (hV.block _ (by omega)).trans hbg, (hV.block _ hwbs).trans hMw, hw, hV.size⟩
      have hwbI := hwb
      clear a0 a1 hMw hGw hBb hbg SO HHA HHB HHC HDD HBD HBA HBB HBC hBw
      obtain ⟨TL, hTL⟩ : ∃ TL, trimL G (reachG G r) = TL := ⟨_, rfl⟩
      obtain ⟨m, hm⟩ : ∃ m, TL.length = m := ⟨_, rfl⟩
      have aG : ∀ x ∈ G, x.args.length ≤ 2000 := fun x hx => by have := HG.out.2.1 x hx; omega
      have CT : Hid (∀ V, (V.cell? ⟨w.heap.size, 0, none⟩ = some (.slice xg n cg) ∧ V.cell? ⟨w.heap.size, 1, none⟩ = some (.int .i64 r) ∧ w.heap.size < V.heap.size ∧ Below Wb.heap.size Wb V) → Calls Tryd.prog 11 #[.agg #[.slice xg n cg, .int .i64 r]] V fun e w' => ∃ x c, e = .returned (.agg #[.slice x m c, .int .i64 0]) ∧ GrAt w' (fun b => V.heap.size ≤ b ∧ b < w'.heap.size) (.slice x m c) TL ∧ Ap w' (fun b => V.heap.size ≤ b) (.slice x m c) TL ∧ Below V.heap.size V w' ∧ Below Wb.heap.size Wb w') := Lib.hid fun V hV => by
        obtain ⟨_, _, _, hVB⟩ := hV
        have x := X.out V hVB
        by_cases hok : checkG G r = 0
        · refine (trim_apart (fun b => b < Wb.heap.size) _ r G V T ev x.2.2.1 x.2.2.2.1 x.1 (fun b hb => Nat.lt_of_lt_of_le hb hVB.size) HS.out.1 (by omega) aG hok).mono ?_
          rintro e w' ⟨x3, m3, c3, rfl, hm3, hr3, hB3⟩
          have hTe : trimL G (reachL G r.toNat) = TL := by rw [← hTL]; unfold reachG; rw [if_pos hok]
          rw [hTe] at hm3 hr3
          rw [hm] at hm3
          subst hm3
          exact ⟨x3, c3, rfl, hr3.gr, hr3.ap, hB3, hVB.trans (hB3.mono hVB.size)⟩
        · refine (trim_no (fun b => b < Wb.heap.size) _ r G V T ev x.2.2.1 x.2.2.2.1 x.1 (fun b hb => Nat.lt_of_lt_of_le hb hVB.size) HS.out.1 hok).mono ?_
          rintro e w' ⟨rfl, hB3⟩
          have hTe : TL = [] := by rw [← hTL]; unfold reachG; rw [if_neg hok]; rfl
          subst hTe
          subst hm
          exact ⟨none, 0, rfl, ⟨0, 0, .inl ⟨.inl rfl, rfl⟩, fun i hi => absurd hi (by simp)⟩, fun i hi => absurd hi (by simp), hB3, hVB.trans (hB3.mono hVB.size)⟩
      have CU : Hid (∀ V, (V.cell? ⟨w.heap.size, 0, none⟩ = some (.slice xg n cg) ∧ V.cell? ⟨w.heap.size, 1, none⟩ = some (.int .i64 r) ∧ w.heap.size < V.heap.size ∧ Below Wb.heap.size Wb V) → Calls Tryd.prog 12 #[.agg #[.slice xg n cg, .int .i64 r]] V fun e w' => ∃ x c, e = .returned (.agg #[.slice x m c, .int .i64 0]) ∧ GrAt w' (fun b => V.heap.size ≤ b ∧ b < w'.heap.size) (.slice x m c) TL ∧ Below V.heap.size V w' ∧ Below Wb.heap.size Wb w') := Lib.hid fun V hV => by
        obtain ⟨_, _, _, hVB⟩ := hV
        have x := X.out V hVB
        refine (reftrim_any (fun b => b < Wb.heap.size) _ r G V x.1 (fun b hb => Nat.lt_of_lt_of_le hb hVB.size) HS.out.1 (by omega) aG).mono ?_
        rintro e w' ⟨x3, m3, c3, rfl, hm3, hr3, hB3⟩
        rw [hTL] at hm3 hr3
        rw [hm] at hm3
        subst hm3
        exact ⟨x3, c3, rfl, hr3, hB3, hVB.trans (hB3.mono hVB.size)⟩
      have HM := Lib.hid (And.intro hTL hm)
      have HA := Lib.hid aG
      have x := X.out Wb (Below.refl _ _)
      have a0 := Lib.cell_of_heap x.2.2.2.2.1 0
      have a1 := Lib.cell_of_heap x.2.2.2.2.1 1
      simp only [List.getElem?_toArray, List.getElem?_cons_zero, List.getElem?_cons_succ] at a0 a1
      have hltb : w.heap.size < Wb.heap.size := by omega
      have SO : Hid (∀ V, Below Wb.heap.size Wb V → V.cell? ⟨w.heap.size, 0, none⟩ = some (.slice xg n cg) ∧ V.cell? ⟨w.heap.size, 1, none⟩ = some (.int .i64 r) ∧ w.heap.size < V.heap.size ∧ Below Wb.heap.size Wb V) := Lib.hid fun V hV =>
        ⟨(World.cell?_of_block (hV.block w.heap.size hltb)).trans a0, (World.cell?_of_block (hV.block w.heap.size hltb)).trans a1, Nat.lt_of_lt_of_le hltb hV.size, hV⟩
      clear hTL hm aG x a0 a1 hwbs sb hwb
      go_wp2_with fail
      go_cut [4, 5] from 20 to 23 (fun s4 s5 wx => Both Wb TL s4 s5 wx)
      case first =>
        go_region_held3 (fun V => V.cell? ⟨w.heap.size, 0, none⟩ = some (.slice xg n cg) ∧ V.cell? ⟨w.heap.size, 1, none⟩ = some (.int .i64 r) ∧ w.heap.size < V.heap.size ∧ Below Wb.heap.size Wb V)
          (first
            | (refine SO.out _ ?_; repeat' (first | with_reducible exact hB7 | with_reducible exact hB6 | with_reducible exact Below.refl _ _ | with_reducible refine Below.drew ?_ | with_reducible refine Below.alloc ?_ ?_ _ | with_reducible refine Below.setCell ?_ ?_ _ | (simp only [World.size_alloc, World.size_drew, World.size_setCell]; omega) | omega)))
          (first
            | (go_at_call 11; (with_reducible refine (CT.out _ (by with_reducible assumption)).mono ?_); (rintro e6 w6 ⟨x6, c6, rfl, hG6, hA6, hB06, hB6⟩); (have s6 := hB6.size); (have s06 := hB06.size); (try simp only [World.size_alloc, World.size_drew] at s06); (try (have hz := (by with_reducible exact box2 hB06 : w6.heap[Wb.heap.size]? = some (.cells #[.slice none 0 0, .int .i64 0] 24) ∧ w6.heap[Wb.heap.size + 1]? = some (.cells #[.slice none 0 0, .int .i64 0] 24)); have Z0 := Lib.hid hz.1; have Z1 := Lib.hid hz.2; clear hz)); (try (have Z0 : Hid (w6.heap[Wb.heap.size]? = some (.cells #[.slice none 0 0, .int .i64 0] 24)) := Lib.hid (by with_reducible exact box1 hB06))); (have HG6 := Lib.hid (And.intro hG6 hA6)); clear hG6 hA6)
            | (go_at_call 12; (with_reducible refine (CU.out _ (by with_reducible assumption)).mono ?_); (rintro e7 w7 ⟨x7, c7, rfl, hG7, hB07, hB7⟩); (have s7 := hB7.size); (have s07 := hB07.size); (try simp only [World.size_alloc] at s07); (have hB67 : Below w6.heap.size w6 w7 := by with_reducible first | exact hB07 | exact bel1 hB07 | exact bel2 hB07);
                (try (have Y0 : Hid (w7.heap[Wb.heap.size]? = some (.cells #[.slice none 0 0, .int .i64 0] 24)) := Lib.hid ((hB67.block _ (Array.getElem?_eq_some_iff.1 Z0.out).1).trans Z0.out); have p0 := Lib.cell_of_heap Y0.out 0; have p1 := Lib.cell_of_heap Y0.out 1; have pf0 := Lib.frozen_of_heap Y0.out 0; have pf1 := Lib.frozen_of_heap Y0.out 1; have pl := (Array.getElem?_eq_some_iff.1 Y0.out).1; simp only [List.getElem?_toArray, List.getElem?_cons_zero, List.getElem?_cons_succ] at p0 p1));
                (try (have Y1 : Hid (w7.heap[Wb.heap.size + 1]? = some (.cells #[.slice none 0 0, .int .i64 0] 24)) := Lib.hid ((hB67.block _ (Array.getElem?_eq_some_iff.1 Z1.out).1).trans Z1.out); have q0 := Lib.cell_of_heap Y1.out 0; have q1 := Lib.cell_of_heap Y1.out 1; have qf0 := Lib.frozen_of_heap Y1.out 0; have qf1 := Lib.frozen_of_heap Y1.out 1; have ql := (Array.getElem?_eq_some_iff.1 Y1.out).1; simp only [List.getElem?_toArray, List.getElem?_cons_zero, List.getElem?_cons_succ] at q0 q1));
                (try (have hz := (by with_reducible exact box4 hB07 : w7.heap[w6.heap.size]? = some (.cells #[.slice none 0 0, .int .i64 0] 24) ∧ w7.heap[w6.heap.size + 1]? = some (.cells #[.slice none 0 0, .int .i64 0] 24)); have Y2 := Lib.hid hz.1; have Y3 := Lib.hid hz.2; clear hz));
                (try (have Y2 : Hid (w7.heap[w6.heap.size]? = some (.cells #[.slice none 0 0, .int .i64 0] 24)) := Lib.hid (by with_reducible exact box3 hB07)));
                (try (have r0 := Lib.cell_of_heap Y2.out 0; have r1 := Lib.cell_of_heap Y2.out 1; have rf0 := Lib.frozen_of_heap Y2.out 0; have rf1 := Lib.frozen_of_heap Y2.out 1; have rl := (Array.getElem?_eq_some_iff.1 Y2.out).1; simp only [List.getElem?_toArray, List.getElem?_cons_zero, List.getElem?_cons_succ] at r0 r1));
                (try (have t0 := Lib.cell_of_heap Y3.out 0; have t1 := Lib.cell_of_heap Y3.out 1; have tf0 := Lib.frozen_of_heap Y3.out 0; have tf1 := Lib.frozen_of_heap Y3.out 1; have tl := (Array.getElem?_eq_some_iff.1 Y3.out).1; simp only [List.getElem?_toArray, List.getElem?_cons_zero, List.getElem?_cons_succ] at t0 t1));
                (have HG7 := Lib.hid (And.intro hG7 hB67)); clear hG7 hB07 hB67))
        all_goals
          go_wp2_with fail
          go_meet
          case rel =>
            with_reducible refine both_of HM.out.2 HG6.out.1 HG6.out.2 HG7.out.1 HG7.out.2 ?_ ?_ ?_ ?_ ?_ ?_ ?_ ?_ ?_ ?_ ?_
            · intro q hq e1 e2
              first
                | with_reducible exact (heap_old (by simp; omega)).trans (heap_old hq)
                | with_reducible exact (heap_old (by simp; omega)).trans (heap_put2_ne _ _ e1)
                | with_reducible exact (heap_old (by simp; omega)).trans (heap_put2_ne _ _ e2)
                | with_reducible exact (heap_put2_ne _ _ e2).trans (heap_put2_ne _ _ e1)
            · simp only [World.size_alloc, World.size_setCell]; omega
            · (try simp only [World.size_alloc, World.size_drew]); omega
            · (try simp only [World.size_alloc, World.size_drew]); omega
            · (try simp only [World.size_alloc, World.size_drew]); omega
            · (try simp only [World.size_alloc, World.size_drew]); omega
            · first | with_reducible exact (heap_old (by simp)).trans (heap_last rfl) | with_reducible exact heap_last (by simp) | with_reducible exact (heap_old (by simp; omega)).trans (heap_put2 Y0.out) | with_reducible exact (heap_old (by simp; omega)).trans (heap_put2 Y1.out) | with_reducible exact (heap_old (by simp; omega)).trans (heap_put2 Y2.out) | with_reducible exact (heap_old (by simp; omega)).trans (heap_put2 Y3.out) | with_reducible exact (heap_put2_ne _ _ (by omega)).trans (heap_put2 Y0.out) | with_reducible exact (heap_put2_ne _ _ (by omega)).trans (heap_put2 Y1.out) | with_reducible exact (heap_put2_ne _ _ (by omega)).trans (heap_put2 Y2.out) | with_reducible exact (heap_put2_ne _ _ (by omega)).trans (heap_put2 Y3.out) | with_reducible exact heap_put2 ((heap_put2_ne _ _ (by omega)).trans Y0.out) | with_reducible exact heap_put2 ((heap_put2_ne _ _ (by omega)).trans Y1.out) | with_reducible exact heap_put2 ((heap_put2_ne _ _ (by omega)).trans Y2.out) | with_reducible exact heap_put2 ((heap_put2_ne _ _ (by omega)).trans Y3.out)
            · first | with_reducible exact (heap_old (by simp)).trans (heap_last rfl) | with_reducible exact heap_last (by simp) | with_reducible exact (heap_old (by simp; omega)).trans (heap_put2 Y0.out) | with_reducible exact (heap_old (by simp; omega)).trans (heap_put2 Y1.out) | with_reducible exact (heap_old (by simp; omega)).trans (heap_put2 Y2.out) | with_reducible exact (heap_old (by simp; omega)).trans (heap_put2 Y3.out) | with_reducible exact (heap_put2_ne _ _ (by omega)).trans (heap_put2 Y0.out) | with_reducible exact (heap_put2_ne _ _ (by omega)).trans (heap_put2 Y1.out) | with_reducible exact (heap_put2_ne _ _ (by omega)).trans (heap_put2 Y2.out) | with_reducible exact (heap_put2_ne _ _ (by omega)).trans (heap_put2 Y3.out) | with_reducible exact heap_put2 ((heap_put2_ne _ _ (by omega)).trans Y0.out) | with_reducible exact heap_put2 ((heap_put2_ne _ _ (by omega)).trans Y1.out) | with_reducible exact heap_put2 ((heap_put2_ne _ _ (by omega)).trans Y2.out) | with_reducible exact heap_put2 ((heap_put2_ne _ _ (by omega)).trans Y3.out)
            · (try simp only [World.size_alloc, World.size_drew]); omega
            · omega
            · repeat' (first | with_reducible exact hB7 | with_reducible refine Below.alloc ?_ ?_ _ | with_reducible refine Below.setCell ?_ ?_ _ | (simp only [World.size_alloc, World.size_drew, World.size_setCell]; omega) | omega)
      case rest =>
        obtain ⟨Wc, rfl⟩ : ∃ W, W = wc := ⟨_, rfl⟩
        obtain ⟨ta, tb, x4, c4, x5, c5, rfl, rfl, hMa, hMb, hta, hG4, hG5, hAp, hBc⟩ := hcut
        rw [HM.out.2] at hMa hMb hG4 hG5 hAp
        clear SO CT CU
        have hxc := X.out Wc hBc
        have sc := hxc.2.2.2.2.2.2.2
        have hlw : w.heap.size < Wc.heap.size := by omega
        have hla : ta < Wc.heap.size := (Array.getElem?_eq_some_iff.1 hMa).1
        have hlb : tb < Wc.heap.size := (Array.getElem?_eq_some_iff.1 hMb).1
        have b0 := Lib.cell_of_heap hxc.2.2.2.2.1 0
        have b1 := Lib.cell_of_heap hxc.2.2.2.2.1 1
        have b2' := Lib.cell_of_heap hMa 0
        have b3 := Lib.cell_of_heap hMa 1
        have b4 := Lib.cell_of_heap hMb 0
        have b5 := Lib.cell_of_heap hMb 1
        simp only [List.getElem?_toArray, List.getElem?_cons_zero, List.getElem?_cons_succ] at b0 b1 b2' b3 b4 b5
        have SO : Hid (∀ V, Below Wc.heap.size Wc V → V.cell? ⟨w.heap.size, 0, none⟩ = some (.slice xg n cg) ∧ V.cell? ⟨w.heap.size, 1, none⟩ = some (.int .i64 r) ∧ V.cell? ⟨ta, 0, none⟩ = some (.slice x4 m c4) ∧ V.cell? ⟨ta, 1, none⟩ = some (.int .i64 0) ∧ V.cell? ⟨tb, 0, none⟩ = some (.slice x5 m c5) ∧ V.cell? ⟨tb, 1, none⟩ = some (.int .i64 0) ∧ w.heap.size < V.heap.size ∧ ta < V.heap.size ∧ tb < V.heap.size ∧ Below Wc.heap.size Wc V) := Lib.hid fun V hV =>
          ⟨(World.cell?_of_block (hV.block w.heap.size hlw)).trans b0, (World.cell?_of_block (hV.block w.heap.size hlw)).trans b1, (World.cell?_of_block (hV.block ta hla)).trans b2', (World.cell?_of_block (hV.block ta hla)).trans b3, (World.cell?_of_block (hV.block tb hlb)).trans b4, (World.cell?_of_block (hV.block tb hlb)).trans b5, Nat.lt_of_lt_of_le hlw hV.size, Nat.lt_of_lt_of_le hla hV.size, Nat.lt_of_lt_of_le hlb hV.size, hV⟩
        have XX : Hid (∀ V, Below Wc.heap.size Wc V → GrAt V (fun b => b < Wc.heap.size) (.slice xg n cg) G ∧ GrAt V (fun b => b < Wc.heap.size) (.slice x4 m c4) TL ∧ GrAt V (fun b => b < Wc.heap.size) (.slice x5 m c5) TL ∧ V.cell? ⟨0, 0, none⟩ = some (.iface T ev) ∧ 0 < V.heap.size ∧ (∀ b, b < Wc.heap.size → b < V.heap.size)) := Lib.hid fun V hV => by
          have hx := X.out V (hBc.trans (hV.mono sc))
          exact ⟨hx.1.carry (fun _ _ => rfl) (fun b hb => by omega), hG4.carry (keeps_of hV fun _ h => h) (fun _ h => h), hG5.carry (keeps_of hV fun _ h => h) (fun _ h => h), hx.2.2.1, hx.2.2.2.1, fun b hb => Nat.lt_of_lt_of_le hb hV.size⟩
        obtain ⟨ck, hck⟩ : ∃ c, checkG G r = c := ⟨_, rfl⟩
        obtain ⟨LR, hLR⟩ : ∃ L, (reachG G r).map (fun i : Nat => (i : Int)) = L := ⟨_, rfl⟩
        obtain ⟨LF, hLF⟩ : ∃ L, (freeG G r).map (fun i : Nat => (i : Int)) = L := ⟨_, rfl⟩
        have K1 : Hid (∀ V, (V.cell? ⟨w.heap.size, 0, none⟩ = some (.slice xg n cg) ∧ V.cell? ⟨w.heap.size, 1, none⟩ = some (.int .i64 r) ∧ V.cell? ⟨ta, 0, none⟩ = some (.slice x4 m c4) ∧ V.cell? ⟨ta, 1, none⟩ = some (.int .i64 0) ∧ V.cell? ⟨tb, 0, none⟩ = some (.slice x5 m c5) ∧ V.cell? ⟨tb, 1, none⟩ = some (.int .i64 0) ∧ w.heap.size < V.heap.size ∧ ta < V.heap.size ∧ tb < V.heap.size ∧ Below Wc.heap.size Wc V) → Calls Tryd.prog 13 #[.agg #[.slice xg n cg, .int .i64 r]] V fun e w' => e = .returned (.int .i64 ck) ∧ Below Wc.heap.size Wc w') := Lib.hid fun V hV => by
          obtain ⟨_, _, _, _, _, _, _, _, _, hB⟩ := hV
          have x := XX.out V hB
          refine (check_any _ _ r G V T ev x.2.2.2.1 x.2.2.2.2.1 x.1 x.2.2.2.2.2 HS.out.1).mono ?_
          rintro e w' ⟨rfl, h⟩
          rw [hck]
          exact ⟨rfl, hB.trans (h.mono hB.size)⟩
        have K2 : Hid (∀ V, (V.cell? ⟨w.heap.size, 0, none⟩ = some (.slice xg n cg) ∧ V.cell? ⟨w.heap.size, 1, none⟩ = some (.int .i64 r) ∧ V.cell? ⟨ta, 0, none⟩ = some (.slice x4 m c4) ∧ V.cell? ⟨ta, 1, none⟩ = some (.int .i64 0) ∧ V.cell? ⟨tb, 0, none⟩ = some (.slice x5 m c5) ∧ V.cell? ⟨tb, 1, none⟩ = some (.int .i64 0) ∧ w.heap.size < V.heap.size ∧ ta < V.heap.size ∧ tb < V.heap.size ∧ Below Wc.heap.size Wc V) → Calls Tryd.prog 14 #[.agg #[.slice xg n cg, .int .i64 r]] V fun e w' => e = .returned (.int .i64 ck) ∧ Below Wc.heap.size Wc w') := Lib.hid fun V hV => by
          obtain ⟨_, _, _, _, _, _, _, _, _, hB⟩ := hV
          have x := XX.out V hB
          refine (refcheck_any _ _ r G V x.1 x.2.2.2.2.2 HS.out.1).mono ?_
          rintro e w' ⟨rfl, h⟩
          rw [hck]
          exact ⟨rfl, hB.trans (h.mono hB.size)⟩
        have K3 : Hid (∀ V, (V.cell? ⟨w.heap.size, 0, none⟩ = some (.slice xg n cg) ∧ V.cell? ⟨w.heap.size, 1, none⟩ = some (.int .i64 r) ∧ V.cell? ⟨ta, 0, none⟩ = some (.slice x4 m c4) ∧ V.cell? ⟨ta, 1, none⟩ = some (.int .i64 0) ∧ V.cell? ⟨tb, 0, none⟩ = some (.slice x5 m c5) ∧ V.cell? ⟨tb, 1, none⟩ = some (.int .i64 0) ∧ w.heap.size < V.heap.size ∧ ta < V.heap.size ∧ tb < V.heap.size ∧ Below Wc.heap.size Wc V) → Calls Tryd.prog 16 #[.agg #[.slice xg n cg, .int .i64 r]] V fun e w' => ∃ v, e = .returned v ∧ Nums w' (fun b => b < w'.heap.size) v LR ∧ Below V.heap.size V w' ∧ Below Wc.heap.size Wc w') := Lib.hid fun V hV => by
          obtain ⟨_, _, _, _, _, _, _, _, _, hB⟩ := hV
          have x := XX.out V hB
          refine (reach_any _ _ r G V T ev x.2.2.2.1 x.2.2.2.2.1 x.1 x.2.2.2.2.2 HS.out.1 (by omega) HA.out).mono ?_
          rintro e w' ⟨v, rfl, h1, h⟩
          refine ⟨v, rfl, ?_, h, hB.trans (h.mono hB.size)⟩
          rw [← hLR]
          exact nums_reach h1 fun b hb => (h1.lt b hb).2
        have K4 : Hid (∀ V, (V.cell? ⟨w.heap.size, 0, none⟩ = some (.slice xg n cg) ∧ V.cell? ⟨w.heap.size, 1, none⟩ = some (.int .i64 r) ∧ V.cell? ⟨ta, 0, none⟩ = some (.slice x4 m c4) ∧ V.cell? ⟨ta, 1, none⟩ = some (.int .i64 0) ∧ V.cell? ⟨tb, 0, none⟩ = some (.slice x5 m c5) ∧ V.cell? ⟨tb, 1, none⟩ = some (.int .i64 0) ∧ w.heap.size < V.heap.size ∧ ta < V.heap.size ∧ tb < V.heap.size ∧ Below Wc.heap.size Wc V) → Calls Tryd.prog 17 #[.agg #[.slice xg n cg, .int .i64 r]] V fun e w' => ∃ v, e = .returned v ∧ Nums w' (fun b => b < w'.heap.size) v LR ∧ Below V.heap.size V w' ∧ Below Wc.heap.size Wc w') := Lib.hid fun V hV => by
          obtain ⟨_, _, _, _, _, _, _, _, _, hB⟩ := hV
          have x := XX.out V hB
          refine (refreach_any _ _ r G V x.1 x.2.2.2.2.2 HS.out.1 (by omega) HA.out).mono ?_
          rintro e w' ⟨v, rfl, h1, h⟩
          refine ⟨v, rfl, ?_, h, hB.trans (h.mono hB.size)⟩
          rw [← hLR]
          exact nums_reach h1 fun b hb => (h1.lt b hb).2
        have K5 : Hid (∀ V, (V.cell? ⟨w.heap.size, 0, none⟩ = some (.slice xg n cg) ∧ V.cell? ⟨w.heap.size, 1, none⟩ = some (.int .i64 r) ∧ V.cell? ⟨ta, 0, none⟩ = some (.slice x4 m c4) ∧ V.cell? ⟨ta, 1, none⟩ = some (.int .i64 0) ∧ V.cell? ⟨tb, 0, none⟩ = some (.slice x5 m c5) ∧ V.cell? ⟨tb, 1, none⟩ = some (.int .i64 0) ∧ w.heap.size < V.heap.size ∧ ta < V.heap.size ∧ tb < V.heap.size ∧ Below Wc.heap.size Wc V) → Calls Tryd.prog 18 #[.agg #[.slice xg n cg, .int .i64 r]] V fun e w' => ∃ v, e = .returned v ∧ Nums w' (fun b => b < w'.heap.size) v LF ∧ Below V.heap.size V w' ∧ Below Wc.heap.size Wc w') := Lib.hid fun V hV => by
          obtain ⟨_, _, _, _, _, _, _, _, _, hB⟩ := hV
          have x := XX.out V hB
          refine (free_any _ _ r G V T ev x.2.2.2.1 x.2.2.2.2.1 x.1 x.2.2.2.2.2 HS.out.1 (by omega) HA.out).mono ?_
          rintro e w' ⟨v, rfl, h1, h⟩
          refine ⟨v, rfl, ?_, h, hB.trans (h.mono hB.size)⟩
          rw [← hLF]
          exact nums_reach h1 fun b hb => (h1.lt b hb).2
        have K6 : Hid (∀ V, (V.cell? ⟨w.heap.size, 0, none⟩ = some (.slice xg n cg) ∧ V.cell? ⟨w.heap.size, 1, none⟩ = some (.int .i64 r) ∧ V.cell? ⟨ta, 0, none⟩ = some (.slice x4 m c4) ∧ V.cell? ⟨ta, 1, none⟩ = some (.int .i64 0) ∧ V.cell? ⟨tb, 0, none⟩ = some (.slice x5 m c5) ∧ V.cell? ⟨tb, 1, none⟩ = some (.int .i64 0) ∧ w.heap.size < V.heap.size ∧ ta < V.heap.size ∧ tb < V.heap.size ∧ Below Wc.heap.size Wc V) → Calls Tryd.prog 19 #[.agg #[.slice xg n cg, .int .i64 r]] V fun e w' => ∃ v, e = .returned v ∧ Nums w' (fun b => b < w'.heap.size) v LF ∧ Below V.heap.size V w' ∧ Below Wc.heap.size Wc w') := Lib.hid fun V hV => by
          obtain ⟨_, _, _, _, _, _, _, _, _, hB⟩ := hV
          have x := XX.out V hB
          refine (reffree_any _ _ r G V x.1 x.2.2.2.2.2 HS.out.1 (by omega) HA.out).mono ?_
          rintro e w' ⟨v, rfl, h1, h⟩
          refine ⟨v, rfl, ?_, h, hB.trans (h.mono hB.size)⟩
          rw [← hLF]
          exact nums_reach h1 fun b hb => (h1.lt b hb).2
        have K7 : Hid (∀ V v u l, (V.cell? ⟨w.heap.size, 0, none⟩ = some (.slice xg n cg) ∧ V.cell? ⟨w.heap.size, 1, none⟩ = some (.int .i64 r) ∧ V.cell? ⟨ta, 0, none⟩ = some (.slice x4 m c4) ∧ V.cell? ⟨ta, 1, none⟩ = some (.int .i64 0) ∧ V.cell? ⟨tb, 0, none⟩ = some (.slice x5 m c5) ∧ V.cell? ⟨tb, 1, none⟩ = some (.int .i64 0) ∧ w.heap.size < V.heap.size ∧ ta < V.heap.size ∧ tb < V.heap.size ∧ Below Wc.heap.size Wc V) → Nums V (fun b => b < V.heap.size) v l → Nums V (fun b => b < V.heap.size) u l → Calls Tryd.prog 15 #[v, u] V fun e w' => e = .returned (.bool true) ∧ Below Wc.heap.size Wc w') := Lib.hid fun V v u l hV h1 h2 => by
          obtain ⟨_, _, _, _, _, _, _, _, _, hB⟩ := hV
          exact (ints_yes _ _ v u l V h1 h2 (fun _ h => h) (fun _ h => h)).mono fun e w' ⟨he, h⟩ => ⟨he, hB.trans (h.mono hB.size)⟩
        have K8 : Hid (∀ V, (V.cell? ⟨w.heap.size, 0, none⟩ = some (.slice xg n cg) ∧ V.cell? ⟨w.heap.size, 1, none⟩ = some (.int .i64 r) ∧ V.cell? ⟨ta, 0, none⟩ = some (.slice x4 m c4) ∧ V.cell? ⟨ta, 1, none⟩ = some (.int .i64 0) ∧ V.cell? ⟨tb, 0, none⟩ = some (.slice x5 m c5) ∧ V.cell? ⟨tb, 1, none⟩ = some (.int .i64 0) ∧ w.heap.size < V.heap.size ∧ ta < V.heap.size ∧ tb < V.heap.size ∧ Below Wc.heap.size Wc V) → Calls Tryd.prog 20 #[.agg #[.slice x4 m c4, .int .i64 0], .agg #[.slice x5 m c5, .int .i64 0]] V fun e w' => e = .returned (.bool true) ∧ Below Wc.heap.size Wc w') := Lib.hid fun V hV => by
          obtain ⟨_, _, _, _, _, _, _, _, _, hB⟩ := hV
          have x := XX.out V hB
          exact (equal_yes _ _ _ _ 0 TL V x.2.1 x.2.2.1 x.2.2.2.2.2 x.2.2.2.2.2).mono fun e w' ⟨he, h⟩ => ⟨he, hB.trans (h.mono hB.size)⟩
        have z : (ck != ck) = false := by simp
        have HC := Lib.hid (And.intro hMa (And.intro hMb (And.intro hta (And.intro hAp hBc))))
        clear hMa hMb hG4 hG5 hAp hBc hxc b0 b1 b2' b3 b4 b5 hck hLR hLF
        go_wp2_with fail
        go_region_held3 (fun V => V.cell? ⟨w.heap.size, 0, none⟩ = some (.slice xg n cg) ∧ V.cell? ⟨w.heap.size, 1, none⟩ = some (.int .i64 r) ∧ V.cell? ⟨ta, 0, none⟩ = some (.slice x4 m c4) ∧ V.cell? ⟨ta, 1, none⟩ = some (.int .i64 0) ∧ V.cell? ⟨tb, 0, none⟩ = some (.slice x5 m c5) ∧ V.cell? ⟨tb, 1, none⟩ = some (.int .i64 0) ∧ w.heap.size < V.heap.size ∧ ta < V.heap.size ∧ tb < V.heap.size ∧ Below Wc.heap.size Wc V)
          (first
            | with_reducible exact SO.out _ hU8 | with_reducible exact SO.out _ hU7 | with_reducible exact SO.out _ hU6 | with_reducible exact SO.out _ hU5 | with_reducible exact SO.out _ hU4 | with_reducible exact SO.out _ hU3 | with_reducible exact SO.out _ hU2 | with_reducible exact SO.out _ hU1 | with_reducible exact SO.out _ hU9
            | with_reducible exact SO.out _ (Below.refl _ _).drew)
          (first
            | (go_at_call 13; (with_reducible refine (K1.out _ (by with_reducible assumption)).mono ?_); (rintro e1 u1 ⟨rfl, hU1⟩))
            | (go_at_call 14; (with_reducible refine (K2.out _ (by with_reducible assumption)).mono ?_); (rintro e2 u2 ⟨rfl, hU2⟩))
            | (go_at_call 16; (with_reducible refine (K3.out _ (by with_reducible assumption)).mono ?_); (rintro e3 u3 ⟨v3, rfl, hN3, hU03, hU3⟩); (have HN3 := Lib.hid hN3); clear hN3 hU03)
            | (go_at_call 17; (with_reducible refine (K4.out _ (by with_reducible assumption)).mono ?_); (rintro e4 u4 ⟨v4, rfl, hN4, hU04, hU4⟩); (have HN4 := Lib.hid (And.intro hN4 (HN3.out.carry (keeps_of hU04 fun _ h => h) (S' := fun b => b < u4.heap.size) fun b hb => Nat.lt_of_lt_of_le hb hU04.size))); clear hN4 hU04)
            | (go_at_call 15; (with_reducible refine (K7.out _ _ _ LR (by with_reducible assumption) HN4.out.2 HN4.out.1).mono ?_); (rintro e5 u5 ⟨rfl, hU5⟩))
            | (go_at_call 18; (with_reducible refine (K5.out _ (by with_reducible assumption)).mono ?_); (rintro e6 u6 ⟨v6, rfl, hN6, hU06, hU6⟩); (have HN6 := Lib.hid hN6); clear hN6 hU06)
            | (go_at_call 19; (with_reducible refine (K6.out _ (by with_reducible assumption)).mono ?_); (rintro e7 u7 ⟨v7, rfl, hN7, hU07, hU7⟩); (have HN7 := Lib.hid (And.intro hN7 (HN6.out.carry (keeps_of hU07 fun _ h => h) (S' := fun b => b < u7.heap.size) fun b hb => Nat.lt_of_lt_of_le hb hU07.size))); clear hN7 hU07)
            | (go_at_call 15; (with_reducible refine (K7.out _ _ _ LF (by with_reducible assumption) HN7.out.2 HN7.out.1).mono ?_); (rintro e8 u8 ⟨rfl, hU8⟩))
            | (go_at_call 20; (with_reducible refine (K8.out _ (by with_reducible assumption)).mono ?_); (rintro e9 u9 ⟨rfl, hU9⟩)))
        obtain ⟨Wd, rfl⟩ : ∃ W, W = u9 := ⟨_, rfl⟩
        obtain ⟨hMa, hMb, hta, hAp, hBc⟩ := HC.out
        have hMaD := (hU9.block ta hla).trans hMa
        have sd := hU9.size
        have hApD : Ap Wd (fun b => Wb.heap.size ≤ b ∧ b ≠ ta) (.slice x4 m c4) TL := hAp.carry (fun b _ hb => hU9.block b hb) sd (fun _ _ h => h)
        have hBD : Below Wb.heap.size Wb Wd := hBc.trans (hU9.mono sc)
        have HD := Lib.hid (And.intro hMaD (And.intro hApD hBD))
        have XD : Hid (∀ V, Free (MM Wb.heap.size ta (.slice x4 m c4)) Wd V → Below Wb.heap.size Wb V ∧ V.heap[ta]? = some (.cells #[.slice x4 m c4, .int .i64 0] 24) ∧ w.heap.size < V.heap.size ∧ wb < V.heap.size) := Lib.hid fun V hV => by
          have hB := hBD.trans (free_below hV (by omega) (fun k hk => hk.1))
          have hs := hV.size
          have hx := X.out V hB
          have := (Array.getElem?_eq_some_iff.1 hx.2.2.2.2.2.1).1
          exact ⟨hB, (hV.block ta (by omega) (fun h => h.2.1 rfl)).trans hMaD, by omega, this⟩
        have a0 := Lib.cell_of_heap hMaD 0
        simp only [List.getElem?_toArray, List.getElem?_cons_zero, List.getElem?_cons_succ] at a0
        have hlaD : ta < Wd.heap.size := by omega
        have hm3 : m ≤ 9223372036854775807 := by
          have h1 := hAp
          rcases Nat.eq_zero_or_pos m with h | h
          · omega
          · obtain ⟨tn, c, xa, na, ca, _, h2, h3, _⟩ := h1 0 (by rw [HM.out.2]; exact h)
            rw [HM.out.2] at h2
            unfold maxLen at h3
            omega
        clear hMa hMb hta hAp hBc hMaD hApD hBD hU9 SO K1 K2 K3 K4 K5 K6 K7 K8 z
        go_wp2_with fail
        clear a0
        go_loopg [54] m (fun gk i wr => ∃ j : Nat, gk = m - j ∧ i = .int .i64 (j : Int) ∧ j ≤ m ∧ Free (MM Wb.heap.size ta (.slice x4 m c4)) Wd wr ∧ Shp Wd wr)
        case atStart => exact ⟨0, by simp, by first | rfl | simp, Nat.zero_le _, Free.refl _ _, Shp.refl _⟩
        case round =>
          obtain ⟨j, rfl, rfl, hj, hF, hSh⟩ := hrel
          obtain ⟨wy, rfl⟩ : ∃ wy, wy = wr := ⟨_, rfl⟩
          obtain ⟨hBy, hMy, hly, hlwb⟩ := XD.out wy hF
          by_cases hlt : j < m
          · have hi' : (j : Int) < (m : Int) := by omega
            obtain ⟨tn, c, xa, na, ca, hv, h2, h3, h4, h5, h6, h7, h8⟩ := HD.out.2.1 j (by rw [HM.out.2]; exact hlt)
            rw [HM.out.2] at hv h2
            injection hv with e1 e2 e3
            subst e1
            subst e3
            unfold maxLen at h3
            have hnM : ¬ MM Wb.heap.size ta (.slice (some ⟨tn, 0, none⟩) m c4) tn := fun h => h.2.2 tn m c4 rfl rfl
            have c2 : wy.cell? ⟨tn, j * 5 + 2, none⟩ = some (.slice xa na ca) := (World.cell?_of_block (a := ⟨tn, j * 5 + 2, none⟩) (hF.block tn h5 hnM)).trans h6
            have a0 := Lib.cell_of_heap hMy 0
            simp only [List.getElem?_toArray, List.getElem?_cons_zero, List.getElem?_cons_succ] at a0
            have hsy := hF.size
            have hlt1 : tn < wy.heap.size := by omega
            have hlt2 : ta < wy.heap.size := by omega
            have HJ := Lib.hid (And.intro h4 (And.intro h5 (And.intro h6 (And.intro h8 (And.intro hF hSh)))))
            have HNM := Lib.hid hnM
            clear h4 h5 h6 h8 hF hSh hBy hMy hnM
            go_wp2_with fail
            clear c2 a0
            go_loopg [64] na (fun gk i wz => ∃ k : Nat, gk = na - k ∧ i = .int .i64 (k : Int) ∧ k ≤ na ∧ Free (MM Wb.heap.size ta (.slice (some ⟨tn, 0, none⟩) m c4)) Wd wz ∧ Shp Wd wz)
            case atStart => exact ⟨0, by simp, by first | rfl | simp, Nat.zero_le _, HJ.out.2.2.2.2.1, HJ.out.2.2.2.2.2⟩
            case round =>
              obtain ⟨k, rfl, rfl, hk, hF, hSh⟩ := hrel
              obtain ⟨wz, rfl⟩ : ∃ wz, wz = wr := ⟨_, rfl⟩
              by_cases hlk : k < na
              · have hi2 : (k : Int) < (na : Int) := by omega
                obtain ⟨h4, h5, h6, h8, -, -⟩ := HJ.out
                obtain ⟨ga, oa, cs, TT, rfl, g1, g2, g3, g4, g5, g6⟩ := h8 (by omega)
                unfold maxLen at g2
                have hsz := hF.size
                obtain ⟨hBz, hMz, hlz, -⟩ := XD.out wz hF
                have c2 : wz.cell? ⟨tn, j * 5 + 2, none⟩ = some (.slice (some ⟨ga, oa, none⟩) na ca) := (World.cell?_of_block (a := ⟨tn, j * 5 + 2, none⟩) (hF.block tn h5 HNM.out)).trans h6
                have a0 := Lib.cell_of_heap hMz 0
                simp only [List.getElem?_toArray, List.getElem?_cons_zero, List.getElem?_cons_succ] at a0
                obtain ⟨cs', q1, q2⟩ := hSh ga cs TT g5
                have hgz := (Array.getElem?_eq_some_iff.1 q1).1
                obtain ⟨u, hu⟩ : ∃ u, cs'[oa + k]? = some u := ⟨_, Array.getElem?_eq_getElem (by omega)⟩
                have c3 := (Lib.cell_of_heap q1 (oa + k)).trans hu
                have f3 := Lib.frozen_of_heap q1 (oa + k)
                have hlt1 : tn < wz.heap.size := by omega
                have hlt2 : ta < wz.heap.size := by omega
                have hMM : MM Wb.heap.size ta (.slice (some ⟨tn, 0, none⟩) m c4) ga := ⟨g3.1, g3.2, fun tn' n' c' hv' => by
                  injection hv' with e1 _ _
                  have := Option.some.inj e1
                  injection this with e2 _ _
                  rw [← e2]; exact g4⟩
                have HK := Lib.hid (And.intro hF (And.intro hSh hMM))
                clear h4 h5 h6 h8 g3 g5 g6 hF hSh hBz hMz q1 q2 hu hMM
                go_wp2_with fail
                go_roundg (na - (k + 1))
                case measure => omega
                case rel =>
                  obtain ⟨hF, hSh, hMM⟩ := HK.out
                  exact ⟨k + 1, rfl, by first | rfl | simp, hlk, free_setCell hF (p := ⟨ga, oa + k, none⟩) hMM _, hSh.set ga (oa + k) _⟩
              · have hi2 : ¬ (k : Int) < (na : Int) := by omega
                have HK := Lib.hid (And.intro hF hSh)
                clear hF hSh
                go_wp2_with fail
                go_roundg (m - (j + 1))
                case measure => omega
                case rel => exact ⟨j + 1, rfl, by first | rfl | simp, hlt, HK.out.1, HK.out.2⟩
          · have hi' : ¬ (j : Int) < (m : Int) := by omega
            have x := X.out wy hBy
            have a0 := Lib.cell_of_heap x.2.2.2.2.1 0
            have a1 := Lib.cell_of_heap x.2.2.2.2.1 1
            have a2 := Lib.cell_of_heap x.2.2.2.2.2.1 0
            have a3 := Lib.cell_of_heap x.2.2.2.2.2.1 1
            simp only [List.getElem?_toArray, List.getElem?_cons_zero, List.getElem?_cons_succ] at a0 a1 a2 a3
            have CE := Lib.hid (equal_yes (fun b => b < Wb.heap.size) (fun b => b < Wb.heap.size) _ _ r G wy x.1 x.2.1 (fun b hb => Nat.lt_of_lt_of_le hb x.2.2.2.2.2.2.2) (fun b hb => Nat.lt_of_lt_of_le hb x.2.2.2.2.2.2.2))
            have HBy := Lib.hid x.2.2.2.2.2.2.1
            clear x hF hSh hBy hMy
            go_wp2_with fail
            refine CE.out.mono ?_
            rintro e10 w10 ⟨rfl, hB10⟩
            have HB10 := Lib.hid (HBy.out.trans (hB10.mono HBy.out.size))
            clear hB10 CE a0 a1 a2 a3
            go_wp2_with fail
            go_ret
            exact ⟨rfl, HB10.out⟩
end Go.Proofs.YtelmigkbofnicaaDoor
