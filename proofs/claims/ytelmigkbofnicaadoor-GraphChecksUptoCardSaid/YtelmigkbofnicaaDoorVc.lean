/- trefoilref06.Copy told. -/
import Derived.Test.YtelmigkbofnicaaDoorGz
import Derived.Test.YtelmigkbofnicaaDoorZn
import Derived.Test.YtelmigkbofnicaaDoorTm
import Derived.BigRegion
import Derived.Deep.Cut
import Derived.Deep.CutRange
import Derived.Deep.RegionHeld3
namespace Go.Proofs.YtelmigkbofnicaaDoor
open Go.ChangeShapes Go.WideShapes Go.ChangeAt Go.RowKit

theorem strInfo : (Tryd.prog.info? 9).map (fun i => (i.zero, i.size, i.bytes)) = some (some (.string ⟨#[]⟩), 1, 16) := by kernel_rfl
def strsV (l : List ByteArray) : List Value := l.map Value.string
theorem strs_sl {W : World} {S : Nat → Prop} {v : Value} {l : List ByteArray} (h : Strs W S v l) : ∃ g o, Sl S v l.length g o ∧ ∀ j u, (strsV l)[j]? = some u → W.cell? ⟨g, o + j, none⟩ = some u := by
  obtain ⟨g, o, h1, h2⟩ := h
  refine ⟨g, o, h1, fun j u hj => ?_⟩
  unfold strsV at hj
  rw [List.getElem?_map, Option.map_eq_some_iff] at hj
  obtain ⟨a, ha, rfl⟩ := hj
  obtain ⟨hj, rfl⟩ := List.getElem?_eq_some_iff.1 ha
  exact h2 j hj
/-- The node that is made: what it has but its Args. -/
def Made (W : World) (k0 : Int) (k1 : ByteArray) (k4 : Bool) (L : List ByteArray) (s5 : Value) (wx : World) : Prop := ∃ ob v, s5 = .pointer (some ⟨ob, 0, none⟩) ∧ W.heap.size ≤ ob ∧ wx.heap[ob]? = some (.cells #[.int .i64 k0, .string k1, .slice none 0 0, v, .bool k4] 36) ∧ Strs wx (fun b => W.heap.size ≤ b ∧ b < wx.heap.size ∧ b ≠ ob) v L ∧ Below W.heap.size W wx
theorem results_node {fn : Func} {k : Nat} (hr : fn.results = #[.cell k 36]) (tmps : Array Value) (w : World) (b : Nat) (v0 v1 v2 v3 v4 : Value) (ht : tmps[k]? = some (.pointer (some ⟨b, 0, none⟩))) (c0 : w.cell? ⟨b, 0, none⟩ = some v0) (c1 : w.cell? ⟨b, 1, none⟩ = some v1) (c2 : w.cell? ⟨b, 2, none⟩ = some v2) (c3 : w.cell? ⟨b, 3, none⟩ = some v3) (c4 : w.cell? ⟨b, 4, none⟩ = some v4) : (results fn tmps).run Tryd.prog w = .ok (.agg #[v0, v1, v2, v3, v4]) w := by
  simp [results, hr, go_sem, ht, c0, c1, c2, c3, c4]
/-- Five cells stored: the block then. -/
theorem heap_put5 {W : World} {b : Nat} {u0 u1 u2 u3 u4 v0 v1 v2 v3 v4 : Value} {T : TypeId} (h : W.heap[b]? = some (.cells #[u0, u1, u2, u3, u4] T)) : (((((W.setCell ⟨b, 0, none⟩ v0).setCell ⟨b, 1, none⟩ v1).setCell ⟨b, 2, none⟩ v2).setCell ⟨b, 3, none⟩ v3).setCell ⟨b, 4, none⟩ v4).heap[b]? = some (.cells #[v0, v1, v2, v3, v4] T) := by
  have h := heap_setCell_same _ b 4 _ _ v4 (heap_setCell_same _ b 3 _ _ v3 (heap_setCell_same _ b 2 _ _ v2 (heap_setCell_same _ b 1 _ _ v1 (heap_setCell_same _ b 0 _ _ v0 h))))
  simpa using h
theorem heap_put5_ne {W : World} {b q : Nat} (v0 v1 v2 v3 v4 : Value) (h : q ≠ b) : (((((W.setCell ⟨b, 0, none⟩ v0).setCell ⟨b, 1, none⟩ v1).setCell ⟨b, 2, none⟩ v2).setCell ⟨b, 3, none⟩ v3).setCell ⟨b, 4, none⟩ v4).heap[q]? = W.heap[q]? := by
  rw [heap_setCell_other _ ⟨b, 4, none⟩ q _ h, heap_setCell_other _ ⟨b, 3, none⟩ q _ h, heap_setCell_other _ ⟨b, 2, none⟩ q _ h, heap_setCell_other _ ⟨b, 1, none⟩ q _ h, heap_setCell_other _ ⟨b, 0, none⟩ q _ h]
theorem below_put5 {C : Nat} {A W : World} {b : Nat} (h : Below C A W) (hb : C ≤ b) (v0 v1 v2 v3 v4 : Value) : Below C A (((((W.setCell ⟨b, 0, none⟩ v0).setCell ⟨b, 1, none⟩ v1).setCell ⟨b, 2, none⟩ v2).setCell ⟨b, 3, none⟩ v3).setCell ⟨b, 4, none⟩ v4) :=
  ((((h.setCell (p := ⟨b, 0, none⟩) hb _).setCell (p := ⟨b, 1, none⟩) hb _).setCell (p := ⟨b, 2, none⟩) hb _).setCell (p := ⟨b, 3, none⟩) hb _).setCell (p := ⟨b, 4, none⟩) hb _
theorem made_of {W1 w7 wx : World} {k0 : Int} {k1 : ByteArray} {k4 : Bool} {L : List ByteArray} {x7 : Option Addr} {nl c7 base ob : Nat} {e : TypeId} (hO : w7.ownsRow base e 1 (.slice x7 nl c7) nl (strsV L)) (hb : W1.heap.size ≤ base) (hL : L.length = nl) (hne : ∀ q, (Value.slice x7 nl c7).ownBlock = some q → q ≠ ob) (hx : ∀ q, q ≠ ob → q < w7.heap.size → wx.heap[q]? = w7.heap[q]?) 
    (hM : wx.heap[ob]? = some (.cells #[.int .i64 k0, .string k1, .slice none 0 0, .slice x7 nl c7, .bool k4] 36)) (hob : W1.heap.size ≤ ob) (hB : Below W1.heap.size W1 wx) : Made W1 k0 k1 k4 L (.pointer (some ⟨ob, 0, none⟩)) wx := by
  refine ⟨ob, .slice x7 nl c7, rfl, hob, hM, ?_, hB⟩
  have hO' := own_same (W' := wx) hO fun q hq => hx q (hne q hq) (hO.lt q hq).2
  refine strs_own (base := base) (e := e) (by rw [hL]; exact hO') fun q hq => ?_
  have := hO'.lt q hq
  exact ⟨by omega, this.2, hne q hq⟩
theorem made_set {W1 w7 : World} {k0 : Int} {k1 : ByteArray} {k4 : Bool} {L : List ByteArray} {x7 : Option Addr} {nl c7 base ob : Nat} {e : TypeId} (hM : w7.heap[ob]? = some (.cells #[.int .i64 0, .string ⟨#[]⟩, .slice none 0 0, .slice none 0 0, .bool false] 36)) (hO : w7.ownsRow base e 1 (.slice x7 nl c7) nl (strsV L)) (hb : W1.heap.size ≤ base) (hL : L.length = nl) (hne : ∀ q, (Value.slice x7 nl c7).ownBlock = some q → q ≠ ob) (hob : W1.heap.size ≤ ob) (hB : Below W1.heap.size W1 w7) :
    Made W1 k0 k1 k4 L (.pointer (some ⟨ob, 0, none⟩)) (((((w7.setCell ⟨ob, 0, none⟩ (.int .i64 k0)).setCell ⟨ob, 1, none⟩ (.string k1)).setCell ⟨ob, 2, none⟩ (.slice none 0 0)).setCell ⟨ob, 3, none⟩ (.slice x7 nl c7)).setCell ⟨ob, 4, none⟩ (.bool k4)) := by
  refine made_of hO hb hL hne (fun q hq _ => ?_) ?_ hob (((((hB.setCell (p := ⟨ob, 0, none⟩) hob _).setCell (p := ⟨ob, 1, none⟩) hob _).setCell (p := ⟨ob, 2, none⟩) hob _).setCell (p := ⟨ob, 3, none⟩) hob _).setCell (p := ⟨ob, 4, none⟩) hob _)
  · rw [heap_setCell_other _ ⟨ob, 4, none⟩ q _ hq, heap_setCell_other _ ⟨ob, 3, none⟩ q _ hq, heap_setCell_other _ ⟨ob, 2, none⟩ q _ hq, heap_setCell_other _ ⟨ob, 1, none⟩ q _ hq, heap_setCell_other _ ⟨ob, 0, none⟩ q _ hq]
  · have h := heap_setCell_same _ ob 4 _ _ (.bool k4) (heap_setCell_same _ ob 3 _ _ (.slice x7 nl c7) (heap_setCell_same _ ob 2 _ _ (.slice none 0 0) (heap_setCell_same _ ob 1 _ _ (.string k1) (heap_setCell_same _ ob 0 _ _ (.int .i64 k0) hM))))
    simpa using h
set_option linter.unusedSimpArgs false in
set_option maxHeartbeats 4000000 in
set_option maxRecDepth 100000 in
theorem copy_any (S : Nat → Prop) (x : GN) (va vl : Value) (tb n ct : Nat) (f : Nat → Nat) (w : World) (ha : Nums w S va x.args) (hl : Strs w S vl x.labels) (hS : ∀ b, S b → b < w.heap.size) (hA : Arr w tb n f) (hr : ∀ a ∈ x.args, 0 ≤ a ∧ a < n) (la : x.args.length ≤ 2000) (ll : x.labels.length ≤ 2000) :
    Calls Tryd.prog 24 #[.agg #[.int .i64 x.k, .string x.nm, va, vl, .bool x.op], .slice (some ⟨tb, 0, none⟩) n ct] w fun e w' => ∃ va' vl', e = .returned (.agg #[.int .i64 x.k, .string x.nm, va', vl', .bool x.op]) ∧ Nums w' (fun b => w.heap.size ≤ b ∧ b < w'.heap.size) va' (x.args.map fun a => (f a.toNat : Int)) ∧ Strs w' (fun b => w.heap.size ≤ b ∧ b < w'.heap.size) vl' x.labels ∧ Below w.heap.size w w' := by
  obtain ⟨gl, ol, hsl, hcl⟩ := strs_sl hl
  obtain ⟨xa, ca, ga, oa, rfl, hxa, hna⟩ := ha.open_
  obtain ⟨xl, cl, gl', ol', rfl, -, -⟩ := hl.open_
  obtain ⟨i0, hi0, hz0, hz1, hz2⟩ := info_parts strInfo
  obtain ⟨na, hna2⟩ : ∃ n, x.args.length = n := ⟨_, rfl⟩
  obtain ⟨nl, hnl⟩ : ∃ n, x.labels.length = n := ⟨_, rfl⟩
  obtain ⟨k0, hk0⟩ : ∃ n, x.k = n := ⟨_, rfl⟩
  obtain ⟨k1, hk1⟩ : ∃ n, x.nm = n := ⟨_, rfl⟩
  obtain ⟨k4, hk4⟩ : ∃ n, x.op = n := ⟨_, rfl⟩
  rw [hna2] at ha hxa la ⊢
  rw [hnl] at hl hsl ll ⊢
  rw [hk0, hk1, hk4]
  obtain ⟨W1, hW1⟩ : ∃ W1, (w.alloc (.cells #[.int .i64 k0, .string k1, .slice xa na ca, .slice xl nl cl, .bool k4] 36)).alloc (.cells #[.int .i64 0, .string ⟨#[]⟩, .slice none 0 0, .slice none 0 0, .bool false] 36) = W1 := ⟨_, rfl⟩
  have B1 : Below w.heap.size w W1 := by rw [← hW1]; exact ((Below.refl _ _).alloc (Nat.le_refl _) _).alloc (by simp) _
  have s1 : W1.heap.size = w.heap.size + 2 := by rw [← hW1]; simp
  have b0 : W1.heap[w.heap.size]? = some (.cells #[.int .i64 k0, .string k1, .slice xa na ca, .slice xl nl cl, .bool k4] 36) := by rw [← hW1, heap_old (by simp)]; exact heap_last rfl
  have b1 : W1.heap[w.heap.size + 1]? = some (.cells #[.int .i64 0, .string ⟨#[]⟩, .slice none 0 0, .slice none 0 0, .bool false] 36) := by rw [← hW1]; exact heap_last (by simp)
  have HX := Lib.hid (And.intro hxa (And.intro hna (And.intro hS (And.intro hA (And.intro hr (And.intro hna2 hnl))))))
  have HW1 := Lib.hid hW1
  have HB1 := Lib.hid (And.intro B1 (And.intro b0 (And.intro b1 s1)))
  have HSL := Lib.hid (And.intro hsl (And.intro (cells_carry hcl B1) hl))
  have HI := Lib.hid (And.intro hi0 (And.intro hz0 (And.intro hz1 hz2)))
  clear hxa hna hS hA hr hna2 hnl hk0 hk1 hk4 ha hl hsl hcl hW1 B1 b0 b1 hi0 hz0 hz1 hz2
  go_enter Tryd.func24, Tryd.ntmps24
  have c0 := Lib.cell_of_heap HB1.out.2.1 0
  have c1 := Lib.cell_of_heap HB1.out.2.1 1
  have c2 := Lib.cell_of_heap HB1.out.2.1 2
  have c3 := Lib.cell_of_heap HB1.out.2.1 3
  have c4 := Lib.cell_of_heap HB1.out.2.1 4
  simp only [List.getElem?_toArray, List.getElem?_cons_zero, List.getElem?_cons_succ] at c0 c1 c2 c3 c4
  have hlt1 : w.heap.size < W1.heap.size := by have := HB1.out.2.2.2; omega
  clear s1
  obtain ⟨N5, hN5⟩ : ∃ N5 : Obj, N5 = .cells #[.int .i64 0, .string ⟨#[]⟩, .slice none 0 0, .slice none 0 0, .bool false] 36 := ⟨_, rfl⟩
  have HN5 := Lib.hid hN5
  have HA := Lib.hid (own_lit0 W1 9 1).drew
  have HB := Lib.hid ((own_lit0 W1 9 1).alloc (.cells #[.int .i64 0, .string ⟨#[]⟩, .slice none 0 0, .slice none 0 0, .bool false] 36)).drew
  have HC : Hid ((((W1.alloc (.cells #[.int .i64 0, .string ⟨#[]⟩, .slice none 0 0, .slice none 0 0, .bool false] 36)).alloc (.cells #[] 9)).drew).ownsRow (W1.heap.size + 1) 9 1 (.slice (some ⟨W1.heap.size + 1, 0, none⟩) 0 0) 0 []) := Lib.hid (by
    have h := (own_lit0 (W1.alloc (.cells #[.int .i64 0, .string ⟨#[]⟩, .slice none 0 0, .slice none 0 0, .bool false] 36)) 9 1).drew
    simpa using h)
  have HBA : Hid (Below W1.heap.size W1 (W1.alloc (.cells #[] 9)).drew) := Lib.hid (((Below.refl _ _).alloc (Nat.le_refl _) _).drew)
  have HBB : Hid (Below W1.heap.size W1 ((W1.alloc (.cells #[] 9)).alloc (.cells #[.int .i64 0, .string ⟨#[]⟩, .slice none 0 0, .slice none 0 0, .bool false] 36)).drew) := Lib.hid ((((Below.refl _ _).alloc (Nat.le_refl _) _).alloc (by simp) _).drew)
  have HBC : Hid (Below W1.heap.size W1 ((W1.alloc (.cells #[.int .i64 0, .string ⟨#[]⟩, .slice none 0 0, .slice none 0 0, .bool false] 36)).alloc (.cells #[] 9)).drew) := Lib.hid ((((Below.refl _ _).alloc (Nat.le_refl _) _).alloc (by simp) _).drew)
  have HDD : Hid (Below W1.heap.size W1 W1.drew) := Lib.hid (Below.refl _ _).drew
  have HBD : Hid (Below W1.heap.size W1 (W1.alloc (.cells #[.int .i64 0, .string ⟨#[]⟩, .slice none 0 0, .slice none 0 0, .bool false] 36)).drew) := Lib.hid (((Below.refl _ _).alloc (Nat.le_refl _) _).drew)
  clear hN5
  go_upto_region 1 with (fail)
  rw [HW1.out]
  go_cut [5] from 8 to 18 (fun s5 wx => Made W1 k0 k1 k4 x.labels s5 wx)
  case first =>
    have SO : Hid (∀ V, Below W1.heap.size W1 V → V.cell? ⟨w.heap.size, 0, none⟩ = some (.int .i64 k0) ∧ V.cell? ⟨w.heap.size, 1, none⟩ = some (.string k1) ∧ V.cell? ⟨w.heap.size, 3, none⟩ = some (.slice xl nl cl) ∧ V.cell? ⟨w.heap.size, 4, none⟩ = some (.bool k4) ∧ w.heap.size < V.heap.size ∧ Below W1.heap.size W1 V) := Lib.hid fun V hV =>
      ⟨(World.cell?_of_block (hV.block w.heap.size hlt1)).trans c0, (World.cell?_of_block (hV.block w.heap.size hlt1)).trans c1, (World.cell?_of_block (hV.block w.heap.size hlt1)).trans c3, (World.cell?_of_block (hV.block w.heap.size hlt1)).trans c4, Nat.lt_of_lt_of_le hlt1 hV.size, hV⟩
    clear c0 c1 c2 c3 c4
    have HLEN : Hid ((strsV x.labels).length = nl * 1) := Lib.hid (by unfold strsV; rw [List.length_map, HX.out.2.2.2.2.2.2]; omega)
    have HONE : Hid (∀ u ∈ strsV x.labels, u.oneCell' = true) := Lib.hid fun u hu => by
      obtain ⟨a, _, rfl⟩ := List.mem_map.1 (show u ∈ x.labels.map Value.string from hu)
      rfl
    go_region_held3 (fun V => V.cell? ⟨w.heap.size, 0, none⟩ = some (.int .i64 k0) ∧ V.cell? ⟨w.heap.size, 1, none⟩ = some (.string k1) ∧ V.cell? ⟨w.heap.size, 3, none⟩ = some (.slice xl nl cl) ∧ V.cell? ⟨w.heap.size, 4, none⟩ = some (.bool k4) ∧ w.heap.size < V.heap.size ∧ Below W1.heap.size W1 V)
      (first
        | with_reducible exact SO.out _ (((((hB7.setCell (p := ⟨W1.heap.size + 1, 0, none⟩) (Nat.le_succ _) _).setCell (p := ⟨W1.heap.size + 1, 1, none⟩) (Nat.le_succ _) _).setCell (p := ⟨W1.heap.size + 1, 2, none⟩) (Nat.le_succ _) _).setCell (p := ⟨W1.heap.size + 1, 3, none⟩) (Nat.le_succ _) _).setCell (p := ⟨W1.heap.size + 1, 4, none⟩) (Nat.le_succ _) _)
        | with_reducible exact SO.out _ (((((hB7.setCell (p := ⟨W1.heap.size, 0, none⟩) (Nat.le_refl _) _).setCell (p := ⟨W1.heap.size, 1, none⟩) (Nat.le_refl _) _).setCell (p := ⟨W1.heap.size, 2, none⟩) (Nat.le_refl _) _).setCell (p := ⟨W1.heap.size, 3, none⟩) (Nat.le_refl _) _).setCell (p := ⟨W1.heap.size, 4, none⟩) (Nat.le_refl _) _)
        | with_reducible exact SO.out _ hB7
        | with_reducible exact SO.out _ (hB7.alloc HS7.out _)
        | with_reducible exact SO.out _ HDD.out
        | with_reducible exact SO.out _ HBA.out
        | with_reducible exact SO.out _ HBB.out
        | with_reducible exact SO.out _ HBC.out
        | with_reducible exact SO.out _ HBD.out)
      (first
        | (refine step_append_sl rfl (.tmp 14) (.tmp 16) 34 rfl W1.heap.size 9 i0 _ 1 16 Tryd.underlying34 HI.out.1 HI.out.2.1 HI.out.2.2.1 HI.out.2.2.2 rfl (by decide) (.slice (some ⟨W1.heap.size, 0, none⟩) 0 0) 0 [] rfl (by with_reducible exact HA.out) S (.slice xl nl cl) nl gl ol rfl HSL.out.1 (strsV x.labels) HLEN.out (cells_carry HSL.out.2.1 (by with_reducible exact HBA.out)) HONE.out (by unfold maxLen; omega) (by omega) (by simp <;> omega) ?_; intro v7 w7 hown7 hg7 hat7; rw [List.nil_append, Nat.zero_add] at hown7; obtain ⟨x7, c7, v7e⟩ : ∃ x c, v7 = .slice x nl c := own_shape hown7; subst v7e; have hB7 : Below W1.heap.size W1 w7 := HBA.out.grown hg7 (by simp <;> omega) (fun b hb => by simp only [Value.ownBlock, Option.some.injEq] at hb; omega); have hs7 := hg7.size; (simp only [World.size_drew, World.size_alloc] at hs7); have HO7 := Lib.hid hown7; have HS7 : Hid (W1.heap.size ≤ w7.heap.size) := Lib.hid (by omega); have HAT7 := Lib.hid hat7; clear hown7 hat7; clear hg7)
        | (refine step_append_sl rfl (.tmp 14) (.tmp 16) 34 rfl (W1.heap.size + 1) 9 i0 _ 1 16 Tryd.underlying34 HI.out.1 HI.out.2.1 HI.out.2.2.1 HI.out.2.2.2 rfl (by decide) (.slice (some ⟨W1.heap.size + 1, 0, none⟩) 0 0) 0 [] rfl (by with_reducible exact HC.out) S (.slice xl nl cl) nl gl ol rfl HSL.out.1 (strsV x.labels) HLEN.out (cells_carry HSL.out.2.1 (by with_reducible exact HBC.out)) HONE.out (by unfold maxLen; omega) (by omega) (by simp <;> omega) ?_; intro v7 w7 hown7 hg7 hat7; rw [List.nil_append, Nat.zero_add] at hown7; obtain ⟨x7, c7, v7e⟩ : ∃ x c, v7 = .slice x nl c := own_shape hown7; subst v7e; have hB7 : Below W1.heap.size W1 w7 := HBC.out.grown hg7 (by simp <;> omega) (fun b hb => by simp only [Value.ownBlock, Option.some.injEq] at hb; omega); have hs7 := hg7.size; (simp only [World.size_drew, World.size_alloc] at hs7); have HO7 := Lib.hid hown7; have HS7 : Hid (W1.heap.size ≤ w7.heap.size) := Lib.hid (by omega); have HAT7 := Lib.hid hat7; clear hown7 hat7; have hM7 := (hg7.block (W1.heap.size) (by simp <;> omega) (fun h => by simp only [Value.ownBlock, Option.some.injEq] at h <;> omega)).trans ((heap_old (by simp <;> omega)).trans (heap_last rfl)); have m0 := Lib.cell_of_heap hM7 0; have m1 := Lib.cell_of_heap hM7 1; have m2 := Lib.cell_of_heap hM7 2; have m3 := Lib.cell_of_heap hM7 3; have m4 := Lib.cell_of_heap hM7 4; have f0 := Lib.frozen_of_heap hM7 0; have f1 := Lib.frozen_of_heap hM7 1; have f2 := Lib.frozen_of_heap hM7 2; have f3 := Lib.frozen_of_heap hM7 3; have f4 := Lib.frozen_of_heap hM7 4; (simp only [List.getElem?_toArray, List.getElem?_cons_zero, List.getElem?_cons_succ] at m0 m1 m2 m3 m4); have hbw : W1.heap.size < w7.heap.size := (by omega); have HM7 := Lib.hid hM7; clear hM7; clear hg7)
        | (refine step_append_sl rfl (.tmp 14) (.tmp 16) 34 rfl W1.heap.size 9 i0 _ 1 16 Tryd.underlying34 HI.out.1 HI.out.2.1 HI.out.2.2.1 HI.out.2.2.2 rfl (by decide) (.slice (some ⟨W1.heap.size, 0, none⟩) 0 0) 0 [] rfl (by with_reducible exact HB.out) S (.slice xl nl cl) nl gl ol rfl HSL.out.1 (strsV x.labels) HLEN.out (cells_carry HSL.out.2.1 (by with_reducible exact HBB.out)) HONE.out (by unfold maxLen; omega) (by omega) (by simp <;> omega) ?_; intro v7 w7 hown7 hg7 hat7; rw [List.nil_append, Nat.zero_add] at hown7; obtain ⟨x7, c7, v7e⟩ : ∃ x c, v7 = .slice x nl c := own_shape hown7; subst v7e; have hB7 : Below W1.heap.size W1 w7 := HBB.out.grown hg7 (by simp <;> omega) (fun b hb => by simp only [Value.ownBlock, Option.some.injEq] at hb; omega); have hs7 := hg7.size; (simp only [World.size_drew, World.size_alloc] at hs7); have HO7 := Lib.hid hown7; have HS7 : Hid (W1.heap.size ≤ w7.heap.size) := Lib.hid (by omega); have HAT7 := Lib.hid hat7; clear hown7 hat7; have hM7 := (hg7.block (W1.heap.size + 1) (by simp <;> omega) (fun h => by simp only [Value.ownBlock, Option.some.injEq] at h <;> omega)).trans (heap_last (by simp <;> omega)); have m0 := Lib.cell_of_heap hM7 0; have m1 := Lib.cell_of_heap hM7 1; have m2 := Lib.cell_of_heap hM7 2; have m3 := Lib.cell_of_heap hM7 3; have m4 := Lib.cell_of_heap hM7 4; have f0 := Lib.frozen_of_heap hM7 0; have f1 := Lib.frozen_of_heap hM7 1; have f2 := Lib.frozen_of_heap hM7 2; have f3 := Lib.frozen_of_heap hM7 3; have f4 := Lib.frozen_of_heap hM7 4; (simp only [List.getElem?_toArray, List.getElem?_cons_zero, List.getElem?_cons_succ] at m0 m1 m2 m3 m4); have hbw : W1.heap.size + 1 < w7.heap.size := (by omega); have HM7 := Lib.hid hM7; clear hM7; clear hg7))
    all_goals
      go_wp2_with fail
      go_meet
      case rel =>
        first
          | (with_reducible refine made_of HO7.out ?_ HX.out.2.2.2.2.2.2 ?_ ?_ (heap_last rfl) HS7.out (hB7.alloc HS7.out _))
            · exact Nat.le_refl _
            · exact fun q hq => Nat.ne_of_lt (HO7.out.lt q hq).2
            · exact fun q _ hq => heap_old hq
          | (with_reducible refine made_set HM7.out HO7.out ?_ HX.out.2.2.2.2.2.2 ?_ ?_ hB7)
            · omega
            · intro q hq
              rcases HAT7.out with h | h
              · rw [h] at hq
                simp only [Value.ownBlock, Option.some.injEq] at hq
                omega
              · rw [h] at hq
                simp only [World.size_drew, World.size_alloc, Option.some.injEq] at hq
                omega
            · omega
  case rest =>
    obtain ⟨wx, rfl⟩ : ∃ wx, wx = wc := ⟨_, rfl⟩
    obtain ⟨ob, vL, rfl, hob, hM, hST, hBx⟩ := hcut
    obtain ⟨xL, cL, gL, oL, rfl, -, -⟩ := hST.open_
    obtain ⟨nL, hnL⟩ : ∃ n, x.labels.length = n := ⟨_, rfl⟩
    rw [hnL] at hM hST
    clear hnL
    have hobx : ob < wx.heap.size := (Array.getElem?_eq_some_iff.1 hM).1
    have B1x : Below w.heap.size w wx := HB1.out.1.trans (hBx.mono HB1.out.1.size)
    obtain ⟨hxa, hna, hS, hA, hr, hna2, hnl⟩ := HX.out
    have X : Hid (∀ V, Free (fun q => q = ob) wx V → V.heap[w.heap.size]? = some (.cells #[.int .i64 k0, .string k1, .slice xa na ca, .slice xl nl cl, .bool k4] 36) ∧ V.heap[w.heap.size + 1]? = some (.cells #[.int .i64 0, .string ⟨#[]⟩, .slice none 0 0, .slice none 0 0, .bool false] 36) ∧ w.heap.size + 1 < V.heap.size ∧ Arr V tb n f ∧ (∀ q, q < w.heap.size → V.heap[q]? = w.heap[q]?)) := Lib.hid fun V hV => by
      have s1 := HB1.out.2.2.2
      have s2 := hBx.size
      have k : ∀ q, q < W1.heap.size → V.heap[q]? = W1.heap[q]? := fun q hq => (hV.block q (by omega) (by omega)).trans (hBx.block q hq)
      have k2 : ∀ q, q < w.heap.size → V.heap[q]? = w.heap[q]? := fun q hq => (k q (by omega)).trans (HB1.out.1.block q hq)
      exact ⟨(k _ (by omega)).trans HB1.out.2.1, (k _ (by omega)).trans HB1.out.2.2.1, by have := hV.size; omega, hA.of (k2 tb hA.lt), k2⟩
    have HM := Lib.hid (And.intro hob (And.intro hM (And.intro hST (And.intro hBx (And.intro hobx B1x)))))
    have x0 := (X.out wx (Free.refl _ _)).1
    have c2 := Lib.cell_of_heap x0 2
    simp only [List.getElem?_toArray, List.getElem?_cons_zero, List.getElem?_cons_succ] at c2
    have hwx : w.heap.size < wx.heap.size := by have := (X.out wx (Free.refl _ _)).2.2.1; omega
    obtain ⟨i1, hi1, hj0, hj1, hj2⟩ := info_parts intInfo
    have HI1 := Lib.hid (And.intro hi1 (And.intro hj0 (And.intro hj1 hj2)))
    clear hi1 hj0 hj1 hj2 hxa hna hS hA hr hna2 hnl hob hM hST hBx B1x x0 c0 c1 c3 c4
    go_wp2_with fail
    clear c2
    go_loopg [22] na (fun gk i wz => ∃ (m : Nat) (v : Value), gk = na - m ∧ i = .int .i64 (m : Int) ∧ m ≤ na ∧ wz.heap[ob]? = some (.cells #[.int .i64 k0, .string k1, v, .slice xL nL cL, .bool k4] 36) ∧ wz.ownsRow wx.heap.size 3 1 v m (numsI ((x.args.take m).map fun a => (f a.toNat : Int))) ∧ Free (fun q => q = ob) wx wz)
    case atStart => exact ⟨0, _, by simp, by first | rfl | simp, Nat.zero_le _, HM.out.2.1, World.ownsRow_nil _ _ _ _, Free.refl _ _⟩
    case round =>
      obtain ⟨m, v, rfl, rfl, hm, hM, hO, hF⟩ := hrel
      obtain ⟨wz, rfl⟩ : ∃ wz, wz = wr := ⟨_, rfl⟩
      have sz := hF.size
      by_cases hlt2 : m < na
      · have hi2' : (m : Int) < (na : Int) := by omega
        obtain ⟨hxa, hna, hS, hA, hr, hna2, hnl⟩ := HX.out
        have hmx : m < x.args.length := by rw [hna2]; exact hlt2
        obtain ⟨rfl, u1, u2, u3⟩ := hxa (by omega)
        unfold maxLen at u2
        obtain ⟨y0, y1, y2, y3, y4⟩ := X.out wz hF
        have hgaw := hS ga u3
        have e1 := (World.cell?_of_block (a := ⟨ga, oa + m, none⟩) (y4 ga hgaw)).trans (hna m hmx)
        have hf := hr _ (List.getElem_mem hmx)
        obtain ⟨ai, hai⟩ : ∃ a, x.args[m] = a := ⟨_, rfl⟩
        rw [hai] at e1 hf
        obtain ⟨an, rfl⟩ : ∃ n : Nat, ai = (n : Int) := ⟨ai.toNat, by omega⟩
        have han : an < n := by omega
        have han' : (an : Int) < (n : Int) := by omega
        have e2 := y3.cell han
        have htb := y3.lt
        obtain ⟨fa, hfa⟩ : ∃ k, f an = k := ⟨_, rfl⟩
        rw [hfa] at e2
        have hgaw2 : ga < wz.heap.size := by omega
        have hobw : ob < wz.heap.size := (Array.getElem?_eq_some_iff.1 hM).1
        obtain ⟨xv, cv, rfl⟩ := own_shape hO
        have m2 := Lib.cell_of_heap hM 2
        have f2 := Lib.frozen_of_heap hM 2
        simp only [List.getElem?_toArray, List.getElem?_cons_zero, List.getElem?_cons_succ] at m2
        have hstep : (x.args.take (m + 1)).map (fun a => (f a.toNat : Int)) = (x.args.take m).map (fun a => (f a.toNat : Int)) ++ [(fa : Int)] := by
          rw [List.take_add_one, List.getElem?_eq_getElem hmx, hai, List.map_append, ← hfa]
          rfl
        have HOA := Lib.hid (World.ownsRow.drew (hO.alloc (.cells #[.int .i64 (fa : Int)] 3)))
        have HNA : Hid (∀ i u, ([.int .i64 (fa : Int)] : List Value)[i]? = some u → ((wz.alloc (.cells #[.int .i64 (fa : Int)] 3)).drew).cell? ((⟨wz.heap.size, 0, none⟩ : Addr).add i) = some u) := Lib.hid (new_cells wz [.int .i64 (fa : Int)] 3)
        have H1A : Hid (∀ u ∈ ([.int .i64 (fa : Int)] : List Value), u.oneCell' = true) := Lib.hid fun u hu => by rw [List.mem_singleton.1 hu]; rfl
        have HMA := Lib.hid (show ((wz.alloc (.cells #[.int .i64 (fa : Int)] 3)).drew).heap[ob]? = some (.cells #[.int .i64 k0, .string k1, .slice xv m cv, .slice xL nL cL, .bool k4] 36) by rw [drew_heap, heap_old hobw]; exact hM)
        have HSA := Lib.hid (show ob < ((wz.alloc (.cells #[.int .i64 (fa : Int)] 3)).drew).heap.size by rw [World.size_drew, World.size_alloc]; omega)
        have HR := Lib.hid (And.intro hM (And.intro hO (And.intro hF hstep)))
        clear hM hO hF hstep hai hfa hf hxa hna hS hA hr hna2 hnl y0 y1 y2 y3 y4 han
        go_wp2_with fail
        go_region_law (first | (refine step_append_lies _ rfl (.tmp 27) (.tmp 32) 31 rfl wx.heap.size 3 i1 _ 1 8 Tryd.underlying31 HI1.out.1 HI1.out.2.1 HI1.out.2.2.1 HI1.out.2.2.2 rfl (by decide) (.slice xv m cv) m (numsI ((x.args.take m).map fun a => (f a.toNat : Int))) (by simp [Act.eval]) HOA.out ⟨wz.heap.size, 0, none⟩ 1 1 [.int .i64 (fa : Int)] (by simp [Act.eval]) rfl HNA.out H1A.out (by decide) (by unfold maxLen; omega) (by omega) (by simp; omega) _ rfl ?_; intro g2 cap2 w5 hown5 hg5 hat5 hlt5; have hM5 := (hg5.block ob HSA.out (fun h => by have := HOA.out.lt ob h.symm; omega)).trans HMA.out; have m5 := Lib.cell_of_heap hM5 2; have f5 := Lib.frozen_of_heap hM5 2; simp only [List.getElem?_toArray, List.getElem?_cons_zero, List.getElem?_cons_succ] at m5; have hob5 : ob < w5.heap.size := Nat.lt_of_lt_of_le HSA.out hg5.size; have H5 := Lib.hid (And.intro hown5 (And.intro hg5 hM5)); clear hown5 hg5 hat5 hM5))
        all_goals
          go_wp2_with fail
          go_roundg (na - (m + 1))
          case measure => omega
          case rel =>
            obtain ⟨hM, hO, hF, hstep⟩ := HR.out
            obtain ⟨hown5, hg5, hM5⟩ := H5.out
            have h9 := heap_setCell_same _ _ 2 _ _ (.slice (some ⟨g2, 0, none⟩) (m + 1) cap2) hM5
            simp only [List.setIfInBounds_toArray, List.set_cons_zero, List.set_cons_succ] at h9
            refine ⟨m + 1, .slice (some ⟨g2, 0, none⟩) (m + 1) cap2, rfl, by first | rfl | simp, hlt2, h9, ?_, ?_⟩
            · rw [hstep, numsI_append]
              refine own_same hown5 fun q hq => ?_
              have h := hown5.lt q hq
              rw [RowKit.Below.heap_setCell _ _ _ _ (show q ≠ ob by omega)]
            · have s5 := hg5.size
              rw [World.size_drew, World.size_alloc] at s5
              have F5 : Free (fun q => q = ob) wx w5 := ⟨hg5.os.trans hF.os, hg5.tape.trans hF.tape, hg5.output.trans hF.output, by omega, fun q hq hn => by
                rw [hg5.block q (by rw [World.size_drew, World.size_alloc]; omega) (fun h => by have := (HOA.out.lt q h.symm).1; omega), drew_heap, heap_old (by omega)]
                exact hF.block q hq hn⟩
              exact free_setCell F5 (p := ⟨ob, 2, none⟩) rfl _
      · have hi2' : ¬ (m : Int) < (na : Int) := by omega
        obtain rfl : na = m := by omega
        obtain ⟨hxa, hna, hS, hA, hr, hna2, hnl⟩ := HX.out
        have hall : x.args.take na = x.args := List.take_of_length_le (by rw [hna2]; exact Nat.le_refl _)
        rw [hall] at hO
        obtain ⟨y0, y1, y2, y3, y4⟩ := X.out wz hF
        obtain ⟨xv, cv, rfl⟩ := own_shape hO
        have o0 := Lib.cell_of_heap hM 0
        have o1 := Lib.cell_of_heap hM 1
        have o2 := Lib.cell_of_heap hM 2
        have o3 := Lib.cell_of_heap hM 3
        have o4 := Lib.cell_of_heap hM 4
        have p0 := Lib.cell_of_heap y1 0
        have p1 := Lib.cell_of_heap y1 1
        have p2 := Lib.cell_of_heap y1 2
        have p3 := Lib.cell_of_heap y1 3
        have p4 := Lib.cell_of_heap y1 4
        have f0 := Lib.frozen_of_heap y1 0
        have f1 := Lib.frozen_of_heap y1 1
        have f2 := Lib.frozen_of_heap y1 2
        have f3 := Lib.frozen_of_heap y1 3
        have f4 := Lib.frozen_of_heap y1 4
        simp only [List.getElem?_toArray, List.getElem?_cons_zero, List.getElem?_cons_succ] at o0 o1 o2 o3 o4 p0 p1 p2 p3 p4
        have hobw : ob < wz.heap.size := (Array.getElem?_eq_some_iff.1 hM).1
        have HR := Lib.hid (And.intro hO (And.intro hF (And.intro hM (And.intro y1 y2))))
        clear hM hO hF hxa hna hS hA hr hna2 hnl hall y0 y1 y3 y4
        go_wp2_with fail
        obtain ⟨hO, hF, hM, y1, y2⟩ := HR.out
        have hP := heap_put5 (v0 := .int .i64 k0) (v1 := .string k1) (v2 := .slice xv na cv) (v3 := .slice xL nL cL) (v4 := .bool k4) y1
        obtain ⟨W9, hW9⟩ : ∃ W9, ((((wz.setCell ⟨w.heap.size + 1, 0, none⟩ (.int .i64 k0)).setCell ⟨w.heap.size + 1, 1, none⟩ (.string k1)).setCell ⟨w.heap.size + 1, 2, none⟩ (.slice xv na cv)).setCell ⟨w.heap.size + 1, 3, none⟩ (.slice xL nL cL)).setCell ⟨w.heap.size + 1, 4, none⟩ (.bool k4) = W9 := ⟨_, rfl⟩
        have hB9 : Below w.heap.size w W9 := by
          rw [← hW9]
          exact below_put5 (HM.out.2.2.2.2.2.trans (free_below hF HM.out.2.2.2.2.2.size (fun q hq => by have := HM.out.1; have := HB1.out.2.2.2; omega))) (Nat.le_succ _) _ _ _ _ _
        have hk : ∀ q, q ≠ w.heap.size + 1 → W9.heap[q]? = wz.heap[q]? := fun q hq => by rw [← hW9]; exact heap_put5_ne _ _ _ _ _ hq
        have hs9 : W9.heap.size = wz.heap.size := by rw [← hW9]; simp
        rw [hW9] at hP ⊢
        have hob := HM.out.1
        have h12 := HB1.out.2.2.2
        refine bodyPost_ret (results_node rfl _ _ (w.heap.size + 1) (.int .i64 k0) (.string k1) (.slice xv na cv) (.slice xL nL cL) (.bool k4) rfl (by rw [Lib.cell_of_heap hP]; rfl) (by rw [Lib.cell_of_heap hP]; rfl) (by rw [Lib.cell_of_heap hP]; rfl) (by rw [Lib.cell_of_heap hP]; rfl) (by rw [Lib.cell_of_heap hP]; rfl)) rfl ⟨_, _, rfl, ?_, ?_, hB9⟩
        · have hlen : ((x.args.map fun a => (f a.toNat : Int))).length = na := by rw [List.length_map]; exact HX.out.2.2.2.2.2.1
          have hO9 := own_same (W' := W9) hO fun q hq => hk q (by have := (hO.lt q hq).1; have := HM.out.2.2.2.2.1; omega)
          refine nums_own (base := wx.heap.size) (e := 3) (by rw [hlen]; exact hO9) fun q hq => ?_
          have := hO9.lt q hq
          have := HM.out.2.2.2.2.1
          exact ⟨by omega, by omega⟩
        · refine HM.out.2.2.1.carry (fun q hq => ?_) fun q hq => ?_
          · rw [hk q (by omega)]
            exact hF.block q hq.2.1 hq.2.2
          · have := hF.size
            exact ⟨by omega, by omega⟩
end Go.Proofs.YtelmigkbofnicaaDoor
