/- graph.Same: the beginning, up to the loop over pairs. -/
import Derived.Test.YtkbmkmpoapafaaaDoorGt
import Derived.Test.YtkbmkmpoapafaaaDoorGp
import Derived.Test.YtkbmkmpoapafaaaDoorGq
namespace Go.Proofs.YtkbmkmpoapafaaaDoor
open Go.ChangeShapes Go.WideShapes Go.ChangeAt Go.RowKit
open Go.Maps

theorem intInfo : (Tryd.prog.info? 3).map (fun i => (i.zero, i.size, i.bytes)) = some (some (.int .i64 0), 1, 8) := by kernel_rfl
theorem pairInfo : (Tryd.prog.info? 57).map (fun i => (i.zero, i.size, i.bytes)) = some (some (.agg #[.int .i64 0, .int .i64 0]), 2, 16) := by kernel_rfl
def ints (f : Nat → Nat) (n : Nat) : List Value := (List.range n).map fun i => .int .i64 (f i)
theorem ints_succ (f : Nat → Nat) (n : Nat) : ints f (n + 1) = ints f n ++ [.int .i64 (f n)] := by simp [ints, List.range_succ]
/-- A row of one's own, as numbers in a block. -/
theorem arr_of {W : World} {B n : Nat} {f : Nat → Nat} {v : Value} (h : W.ownsRow B 3 1 v n (ints f n)) (hn : 0 < n) : ∃ b c, v = .slice (some ⟨b, 0, none⟩) n c ∧ B ≤ b ∧ n ≤ c ∧ c ≤ maxLen ∧ Arr W b n f := by
  rcases h.2 with ⟨_, h0⟩ | ⟨g, cap, cur, hv, hb, hg, hnc, hm, hs, ht⟩
  · omega
  · refine ⟨g, cap, hv, hb, hnc, hm, cur, _, hg, fun i hi => ?_⟩
    have h1 : (cur.toList.take (n * 1))[i]? = (ints f n)[i]? := by rw [ht]
    rw [List.getElem?_take_of_lt (by omega)] at h1
    rw [← Array.getElem?_toList, h1]
    simp [ints, hi]

theorem own_same {W W' : World} {base : Nat} {e : TypeId} {size : Nat} {v : Value} {n : Nat} {xs : List Value} (h : W.ownsRow base e size v n xs) (hb : ∀ q, v.ownBlock = some q → W'.heap[q]? = W.heap[q]?) : W'.ownsRow base e size v n xs := by
  refine ⟨h.1, ?_⟩
  rcases h.2 with hn | ⟨g, cap, cur, rfl, hb', hg, rest⟩
  · exact .inl hn
  · exact .inr ⟨g, cap, cur, rfl, hb', by rw [hb g (by simp [Value.ownBlock])]; exact hg, rest⟩
theorem own_shape {W : World} {base : Nat} {e : TypeId} {size : Nat} {v : Value} {n : Nat} {xs : List Value} (h : W.ownsRow base e size v n xs) : ∃ x c, v = .slice x n c := by
  rcases h.2 with ⟨h, h0⟩ | ⟨gx, cx, cur, h, _⟩
  · exact ⟨none, 0, by rw [h, h0]⟩
  · exact ⟨_, _, h⟩
theorem Mst.now {N ub sb : Nat} {rt : Nat → Nat} {W V : World} (h : Mst N ub sb rt W V) : Mst N ub sb rt V V := by
  obtain ⟨up, d, sz, h1, h2, h3, h4, _⟩ := h
  exact ⟨up, d, sz, h1, h2, h3, h4, Free.refl _ _⟩
theorem own_map {H : Type} {P : Program} {k : TypeId} {R : Value → Option (DataW H × List MemPlace)} {W W' : World} {b n : Nat} {D : DataW H} (h : W.ownsMap P k R b n D) (hb : W'.heap[b]? = W.heap[b]?) : W'.ownsMap P k R b n D := by
  obtain ⟨es, clock, h1, rest⟩ := h
  exact ⟨es, clock, hb.trans h1, rest⟩
theorem free_grown {b : Nat} {W W' : World} (hg : W.grownBy W' (some b)) : Free (fun k => k = b) W W' := ⟨hg.os, hg.tape, hg.output, hg.size, fun k hk hn => hg.block k hk (fun h => hn (Option.some.inj h))⟩
/-- The matching where other blocks have turned. -/
theorem Mst.turn {N ub sb : Nat} {rt : Nat → Nat} {W V V' : World} (h : Mst N ub sb rt W V) (h1 : V'.heap[ub]? = V.heap[ub]?) (h2 : V'.heap[sb]? = V.heap[sb]?) : Mst N ub sb rt V' V' := by
  obtain ⟨up, d, sz, a1, a2, a3, a4, _⟩ := h
  exact ⟨up, d, sz, a1, a2.of h1, a3.of h2, a4, Free.refl _ _⟩
theorem Mst.ust {N ub sb : Nat} {rt : Nat → Nat} {W V : World} (h : Mst N ub sb rt W V) : Ust N ub rt V V := by
  obtain ⟨up, d, sz, a1, a2, a3, a4, _⟩ := h
  exact ⟨up, d, a1, a2, Free.refl _ _⟩
theorem Mst.of_ust {N ub sb : Nat} {rt : Nat → Nat} {W V V' : World} (h : Mst N ub sb rt W V) (hU : Ust N ub rt V V') (hus : ub ≠ sb) : Mst N ub sb rt V' V' := by
  obtain ⟨up, d, sz, a1, a2, a3, a4, _⟩ := h
  obtain ⟨up', d', b1, b2, b3⟩ := hU
  exact ⟨up', d', sz, b1, b2, a3.of (b3.block sb a3.lt (fun h => hus h.symm)), a4, Free.refl _ _⟩
theorem Mst.lts {N ub sb : Nat} {rt : Nat → Nat} {W V : World} (h : Mst N ub sb rt W V) : ub < V.heap.size ∧ sb < V.heap.size := by
  obtain ⟨up, d, sz, a1, a2, a3, a4, _⟩ := h
  exact ⟨a2.lt, a3.lt⟩
/-- Pairs, as cells. -/
def pcs (l : List (Nat × Nat)) : List Value := (l.map fun p => [Value.int .i64 (p.1 : Int), .int .i64 (p.2 : Int)]).flatten
theorem pcs_append (l m : List (Nat × Nat)) : pcs (l ++ m) = pcs l ++ pcs m := by simp [pcs]
theorem pcs_length (l : List (Nat × Nat)) : (pcs l).length = l.length * 2 := by
  induction l with
  | nil => rfl
  | cons a r ih =>
    have : pcs (a :: r) = [Value.int .i64 (a.1 : Int), .int .i64 (a.2 : Int)] ++ pcs r := rfl
    rw [this, List.length_append, ih]; simp; omega
theorem own_pop2 {w : World} {B : Nat} {e : TypeId} {g n cap : Nat} {xs ys : List Value} (h : w.ownsRow B e 2 (.slice (some ⟨g, 0, none⟩) (n + 1) cap) (n + 1) (xs ++ ys)) (hx : xs.length = n * 2) : w.ownsRow B e 2 (.slice (some ⟨g, 0, none⟩) n cap) n xs := by
  obtain ⟨h1, h2⟩ := h
  refine ⟨by omega, ?_⟩
  rcases h2 with ⟨h2, _⟩ | ⟨g', cap', cur, hv, hb, hg, hn, hm, hs, ht⟩
  · cases h2
  · cases hv
    refine .inr ⟨g, cap, cur, rfl, hb, hg, by omega, hm, hs, ?_⟩
    have := congrArg (List.take (n * 2)) ht
    rw [List.take_take, show min (n * 2) ((n + 1) * 2) = n * 2 from by omega] at this
    rw [this, List.take_left' (by omega)]
/-- The struct of the matching, as cells. -/
def mcells (xg : Option Addr) (ng cg : Nat) (rg : Int) (xh : Option Addr) (nh ch : Nat) (rh : Int) (mb : Nat) (vu vs : Value) : Obj := .cells #[.slice xg ng cg, .int .i64 rg, .slice xh nh ch, .int .i64 rh, .map (some mb), vu, vs] 55

set_option linter.unusedSimpArgs false in
set_option maxHeartbeats 8000000 in
set_option maxRecDepth 100000 in
theorem gsame_any (S : Nat → Prop) (vg vh : Value) (rg rh : Int) (G H : List GN) (w : World) (T : TypeId) (ev : Value) (hg : w.cell? ⟨0, 0, none⟩ = some (.iface T ev)) (hgl : 0 < w.heap.size) (hG : GrAt w S vg G) (hH : GrAt w S vh H) (hS : ∀ b, S b → b < w.heap.size) (sG : Sized G) (sH : Sized H)
    (lG : G.length ≤ 2000) (lH : H.length ≤ 2000) (aG : ∀ x ∈ G, x.args.length ≤ 2000) :
    Calls Tryd.prog 11 #[.agg #[vg, .int .i64 rg], .agg #[vh, .int .i64 rh]] w fun e w' => e = .returned (.bool (sameGr G rg H rh)) ∧ Below w.heap.size w w' := by
  have HG0 := Lib.hid hG
  have HH0 := Lib.hid hH
  obtain ⟨xg, cg, gg, og, rfl, hxg, hng⟩ := hG.open_
  obtain ⟨xh, ch, gh, oh, rfl, hxh, hnh⟩ := hH.open_
  obtain ⟨ng, eng⟩ : ∃ n, G.length = n := ⟨_, rfl⟩
  obtain ⟨nh, enh⟩ : ∃ n, H.length = n := ⟨_, rfl⟩
  rw [eng] at HG0 lG
  rw [enh] at HH0 lH
  have HGI := Lib.hid (And.intro eng (And.intro hxg hng))
  have HHI := Lib.hid (And.intro enh (And.intro hxh hnh))
  have HZ := Lib.hid (And.intro hS (And.intro sG (And.intro sH aG)))
  have HE := Lib.hid hg
  rw [eng, enh]
  clear hG hH eng enh hxg hng hxh hnh hS sG sH aG hg
  go_enter Tryd.func11, Tryd.ntmps11
  go_wp2_with fail
  obtain ⟨w1, hw1⟩ : ∃ w1, (w.alloc (.cells #[.slice xg ng cg, .int .i64 rg] 24)).alloc (.cells #[.slice xh nh ch, .int .i64 rh] 24) = w1 := ⟨_, rfl⟩
  rw [hw1]
  have s1 : w1.heap.size = w.heap.size + 2 := by rw [← hw1]; simp
  have B1 : Below w.heap.size w w1 := by rw [← hw1]; exact ((Below.refl _ _).alloc (Nat.le_refl _) _).alloc (by simp) _
  have X1 : w1.heap[w.heap.size]? = some (.cells #[.slice xg ng cg, .int .i64 rg] 24) := by rw [← hw1, heap_old (by simp)]; exact heap_last rfl
  have Y1 : w1.heap[w.heap.size + 1]? = some (.cells #[.slice xh nh ch, .int .i64 rh] 24) := by rw [← hw1]; exact heap_last (by simp)
  have H1 := Lib.hid (And.intro B1 (And.intro X1 Y1))
  clear hw1 B1 X1 Y1
  have XG : Hid (∀ V, Below w1.heap.size w1 V → GrAt V S (.slice xg ng cg) G ∧ GrAt V S (.slice xh nh ch) H ∧ V.cell? ⟨0, 0, none⟩ = some (.iface T ev) ∧ 0 < V.heap.size ∧ (∀ b, S b → b < V.heap.size) ∧ V.heap[w.heap.size]? = some (.cells #[.slice xg ng cg, .int .i64 rg] 24) ∧ V.heap[w.heap.size + 1]? = some (.cells #[.slice xh nh ch, .int .i64 rh] 24)) := Lib.hid fun V hV => by
    have hB : Below w.heap.size w V := H1.out.1.trans (hV.mono (by omega))
    have hs := hB.size
    exact ⟨HG0.out.carry (fun b hb => hB.block b (HZ.out.1 b hb)) (fun _ h => h), HH0.out.carry (fun b hb => hB.block b (HZ.out.1 b hb)) (fun _ h => h), (hB.cell (p := ⟨_, 0, none⟩) hgl).trans HE.out, by omega, fun b hb => by have := HZ.out.1 b hb; omega, (hV.block _ (by omega)).trans H1.out.2.1, (hV.block _ (by omega)).trans H1.out.2.2⟩
  have g1 := XG.out w1 (Below.refl _ _)
  have C1 := Lib.hid (check_any S _ rg G w1 T ev g1.2.2.1 g1.2.2.2.1 g1.1 g1.2.2.2.2.1 HZ.out.2.1)
  clear g1
  refine C1.out.mono ?_
  rintro e w2 ⟨rfl, hB2⟩
  clear C1
  have hway := checkG_ways G rg
  obtain ⟨kg, hkg⟩ : ∃ k, checkG G rg = k := ⟨_, rfl⟩
  rw [hkg] at hway ⊢
  have HKG := Lib.hid hkg
  clear hkg
  have s2 := hB2.size
  have F2 := Lib.hid hB2
  clear hB2
  have no : Hid (kg ≠ 0 → sameGr G rg H rh = false) := Lib.hid fun h => by
    have : ¬ SameGr G rg H rh := fun a => h (HKG.out.symm.trans a.1)
    unfold sameGr; simpa using this
  rcases hway with rfl | rfl | rfl
  rotate_left
  · go_wp2_with fail
    go_ret
    exact ⟨by rw [no.out (by decide)]; rfl, H1.out.1.trans (F2.out.mono (by omega))⟩
  · go_wp2_with fail
    go_ret
    exact ⟨by rw [no.out (by decide)]; rfl, H1.out.1.trans (F2.out.mono (by omega))⟩
  clear no
  have g2 := XG.out w2 F2.out
  have b0 : w2.cell? ⟨w.heap.size + 1, 0, none⟩ = some (.slice xh nh ch) := by rw [Lib.cell_of_heap g2.2.2.2.2.2.2]; rfl
  have b1 : w2.cell? ⟨w.heap.size + 1, 1, none⟩ = some (.int .i64 rh) := by rw [Lib.cell_of_heap g2.2.2.2.2.2.2]; rfl
  have C2 := Lib.hid (check_any S _ rh H w2 T ev g2.2.2.1 g2.2.2.2.1 g2.2.1 g2.2.2.2.2.1 HZ.out.2.2.1)
  clear g2
  go_wp2_with fail
  refine C2.out.mono ?_
  rintro e w3 ⟨rfl, hB3⟩
  clear C2 b0 b1
  have hway := checkG_ways H rh
  obtain ⟨kh, hkh⟩ : ∃ k, checkG H rh = k := ⟨_, rfl⟩
  rw [hkh] at hway ⊢
  have HKH := Lib.hid hkh
  clear hkh
  have s3 := hB3.size
  have F3 := Lib.hid (F2.out.trans (hB3.mono (by omega)))
  clear hB3 F2
  have no : Hid (kh ≠ 0 → sameGr G rg H rh = false) := Lib.hid fun h => by
    have : ¬ SameGr G rg H rh := fun a => h (HKH.out.symm.trans a.2.1)
    unfold sameGr; simpa using this
  rcases hway with rfl | rfl | rfl
  rotate_left
  · go_wp2_with fail
    go_ret
    exact ⟨by rw [no.out (by decide)]; rfl, H1.out.1.trans (F3.out.mono (by omega))⟩
  · go_wp2_with fail
    go_ret
    exact ⟨by rw [no.out (by decide)]; rfl, H1.out.1.trans (F3.out.mono (by omega))⟩
  clear no
  have g3 := XG.out w3 F3.out
  have a0 : w3.cell? ⟨w.heap.size, 0, none⟩ = some (.slice xg ng cg) := by rw [Lib.cell_of_heap g3.2.2.2.2.2.1]; rfl
  have a1 : w3.cell? ⟨w.heap.size, 1, none⟩ = some (.int .i64 rg) := by rw [Lib.cell_of_heap g3.2.2.2.2.2.1]; rfl
  have b0 : w3.cell? ⟨w.heap.size + 1, 0, none⟩ = some (.slice xh nh ch) := by rw [Lib.cell_of_heap g3.2.2.2.2.2.2]; rfl
  have b1 : w3.cell? ⟨w.heap.size + 1, 1, none⟩ = some (.int .i64 rh) := by rw [Lib.cell_of_heap g3.2.2.2.2.2.2]; rfl
  clear g3
  have hws : w.heap.size < w3.heap.size := by omega
  have hws1 : w.heap.size + 1 < w3.heap.size := by omega
  have hmm := @run_makeMap Tryd.prog
  go_wp2_with fail
  clear a0 a1 b0 b1
  obtain ⟨M, hM⟩ : ∃ M, w3.heap.size + 1 = M := ⟨_, rfl⟩
  obtain ⟨W4, hW4⟩ : ∃ W4, ((w3.alloc (.map #[] 0)).alloc (.cells #[.slice xg ng cg, .int .i64 rg, .slice xh nh ch, .int .i64 rh, .map (some w3.heap.size), .slice none 0 0, .slice none 0 0] 55)) = W4 := ⟨_, rfl⟩
  rw [hW4, hM]
  have s4 : W4.heap.size = M + 1 := by rw [← hW4, ← hM]; simp
  have F4 : Below w1.heap.size w1 W4 := by rw [← hW4]; exact (F3.out.alloc (by omega) _).alloc (by simp; omega) _
  have M4 : W4.heap[M]? = some (mcells xg ng cg rg xh nh ch rh w3.heap.size (.slice none 0 0) (.slice none 0 0)) := by rw [← hW4, ← hM]; exact heap_last (by simp)
  have P4 : W4.ownsMap (H := Unit) Tryd.prog 57 unitElem w3.heap.size 0 (.map []) := by rw [← hW4]; exact (World.ownsMap_made w3 _ _ _).alloc _
  have H4 := Lib.hid (And.intro F4 (And.intro M4 P4))
  clear hW4 F4 M4 P4
  obtain ⟨N, hN⟩ : ∃ N, ng + nh = N := ⟨_, rfl⟩
  have hNi : (ng : Int) + (nh : Int) = (N : Int) := by omega
  rw [hNi]
  have HN := Lib.hid (And.intro hM (And.intro hN hNi))
  have hN4 : N ≤ 4000 := by omega
  clear hNi
  obtain ⟨i0, hi, hz0, hz1, hz2⟩ := info_parts intInfo
  go_loopg [33] N (fun gk i wr => ∃ (j : Nat) (vu vs : Value), gk = N - j ∧ j ≤ N ∧ i = .int .i64 j ∧ wr.heap[M]? = some (mcells xg ng cg rg xh nh ch rh w3.heap.size vu vs) ∧ wr.ownsRow (M + 1) 3 1 vu j (ints (fun z => z) j) ∧ wr.ownsRow (M + 1) 3 1 vs j (ints (fun _ => 1) j) ∧ (∀ q, vu.ownBlock = some q → vs.ownBlock ≠ some q) ∧ Below M W4 wr)
  case atStart =>
    exact ⟨0, _, _, rfl, Nat.zero_le _, rfl, H4.out.2.1, World.ownsRow_nil _ _ _ _, World.ownsRow_nil _ _ _ _, fun q h => by simp [Value.ownBlock] at h, Below.refl _ _⟩
  case round =>
    obtain ⟨j, vu, vs, rfl, hj, rfl, hbM, hou, hos, hdis, hF⟩ := hrel
    have sr := hF.size
    by_cases hlt : j < N
    · have hi' : (j : Int) < (N : Int) := by omega
      have q5 : wr.cell? ⟨M, 5, none⟩ = some vu := by rw [Lib.cell_of_heap hbM]; rfl
      obtain ⟨xu, cu, rfl⟩ := own_shape hou
      obtain ⟨xs, cs, rfl⟩ := own_shape hos
      have hMw : M < wr.heap.size := by omega
      have HOA := Lib.hid (hou.alloc (.cells #[.int .i64 (j : Int)] 3))
      have HNA := Lib.hid (new_cells wr [.int .i64 (j : Int)] 3)
      have H1A : Hid (∀ u ∈ ([.int .i64 (j : Int)] : List Value), u.oneCell' = true) := Lib.hid fun u hu => by rw [List.mem_singleton.1 hu]; rfl
      have H1B : Hid (∀ u ∈ ([.int .i64 1] : List Value), u.oneCell' = true) := Lib.hid fun u hu => by rw [List.mem_singleton.1 hu]; rfl
      have HR := Lib.hid (And.intro hbM (And.intro hou (And.intro hos (And.intro hdis hF))))
      clear hbM hou hos hdis hF
      go_wp2_with (first
        | (at_builtin; (refine wpList_append_own_at _ rfl (.tmp 37) (.tmp 39) _ rfl (M + 1) 3 i0 _ 1 8 Tryd.underlying32 hi hz0 hz1 hz2 rfl (by decide) (.slice xu j cu) j (ints (fun z => z) j) rfl HOA.out ⟨wr.heap.size, 0, none⟩ 1 1 [.int .i64 (j : Int)] rfl rfl HNA.out H1A.out (by unfold maxLen; omega) (by omega) (by simp; omega) ?_); (intro v1 w5 hown5 hg5 _ hat5); (obtain ⟨y1, d1, rfl⟩ := own_shape hown5); (have hs5 := hg5.size); (simp only [World.size_alloc] at hs5); (have hM5 := (hg5.block M (by simp; omega) (fun h => by have := HOA.out.lt M h.symm; omega)).trans ((heap_old hMw).trans HR.out.1)); (unfold mcells at hM5); (have q5' := Lib.cell_of_heap hM5 5); (have q6' := Lib.cell_of_heap hM5 6); (have f5' := Lib.frozen_of_heap hM5 5); (simp only [List.getElem?_toArray, List.getElem?_cons_zero, List.getElem?_cons_succ] at q5' q6'); (have hMw5 : M < w5.heap.size := by omega); (have hM6 := heap_setCell_same _ _ 5 _ _ (.slice y1 (j + 1) d1) hM5); (simp only [List.setIfInBounds_toArray, List.set_cons_zero, List.set_cons_succ] at hM6);
            (have HOB := Lib.hid ((own_same (W' := w5.setCell ⟨M, 5, none⟩ (.slice y1 (j + 1) d1)) HR.out.2.2.1 (fun q hq => by
              have hq1 := HR.out.2.2.1.lt q hq
              rw [RowKit.Below.heap_setCell _ _ _ _ (show q ≠ M by omega), hg5.block q (by simp; omega) (fun h => HR.out.2.2.2.1 q h.symm hq)]
              exact heap_old hq1.2)).alloc (.cells #[.int .i64 1] 3))); (have hnb := new_cells (w5.setCell ⟨M, 5, none⟩ (.slice y1 (j + 1) d1)) [.int .i64 1] 3); (rw [World.size_setCell] at hnb); (have HNB := Lib.hid hnb); clear hnb; (have H5 := Lib.hid (And.intro hown5 (And.intro hg5 (And.intro hat5 hM6)))); clear hown5 hg5 hat5 hM5 hM6)
        | (at_builtin; (refine wpList_append_own_at _ rfl (.tmp 43) (.tmp 44) _ rfl (M + 1) 3 i0 _ 1 8 Tryd.underlying32 hi hz0 hz1 hz2 rfl (by decide) (.slice xs j cs) j (ints (fun _ => 1) j) rfl HOB.out ⟨w5.heap.size, 0, none⟩ 1 1 [.int .i64 1] rfl rfl HNB.out H1B.out (by unfold maxLen; omega) (by omega) (by simp; omega) ?_); (intro v2 w8 hown8 hg8 _ hat8); (obtain ⟨y2, d2, rfl⟩ := own_shape hown8); (have hs8 := hg8.size); (simp only [World.size_alloc, World.size_setCell] at hs8); (have hM8 := (hg8.block M (by simp; omega) (fun h => by have := HOB.out.lt M h.symm; omega)).trans ((heap_old (by simp; omega)).trans H5.out.2.2.2)); (have q6'' := Lib.cell_of_heap hM8 6); (have f6'' := Lib.frozen_of_heap hM8 6); (simp only [List.getElem?_toArray, List.getElem?_cons_zero, List.getElem?_cons_succ] at q6''); (have hMw8 : M < w8.heap.size := by omega); (have H8 := Lib.hid (And.intro hown8 (And.intro hg8 (And.intro hat8 hM8)))); clear hown8 hg8 hat8 hM8))
      go_roundg (N - (j + 1))
      case measure => omega
      case rel =>
        obtain ⟨hown5, hg5, hat5, hM6⟩ := H5.out
        obtain ⟨hown8, hg8, hat8, hM8⟩ := H8.out
        obtain ⟨-, hou, hos, hdis, hF⟩ := HR.out
        have hM9 := heap_setCell_same _ _ 6 _ _ (.slice y2 (j + 1) d2) hM8
        simp only [List.setIfInBounds_toArray, List.set_cons_zero, List.set_cons_succ] at hM9
        have h1 : ∀ q, (Value.slice y1 (j + 1) d1).ownBlock = some q → M + 1 ≤ q ∧ q < w5.heap.size ∧ (Value.slice xs j cs).ownBlock ≠ some q := fun q hq => by
          have h := hown5.lt q hq
          refine ⟨h.1, h.2, fun he => ?_⟩
          rcases hat5 with h2 | h2
          · exact hdis q (h2.symm.trans hq) he
          · have h3 := hos.lt q he
            rw [h2] at hq
            simp only [World.size_alloc, Option.some.injEq] at hq
            omega
        refine ⟨j + 1, .slice y1 (j + 1) d1, .slice y2 (j + 1) d2, rfl, hlt, by first | rfl | simp, hM9, ?_, ?_, ?_, ?_⟩
        · rw [ints_succ]
          refine own_same hown5 fun q hq => ?_
          have h := h1 q hq
          rw [RowKit.Below.heap_setCell _ _ _ _ (show q ≠ M by omega), hg8.block q (by simp; omega) (fun he => h.2.2 he.symm), heap_old (by simp; omega), RowKit.Below.heap_setCell _ _ _ _ (show q ≠ M by omega)]
        · rw [ints_succ]
          refine own_same hown8 fun q hq => ?_
          have h := hown8.lt q hq
          rw [RowKit.Below.heap_setCell _ _ _ _ (show q ≠ M by omega)]
        · intro q hq he
          have h := h1 q hq
          rcases hat8 with h2 | h2
          · exact h.2.2 (h2.symm.trans he)
          · rw [h2] at he
            simp only [World.size_alloc, World.size_setCell, Option.some.injEq] at he
            omega
        · have B5 := (hF.alloc (by omega) (.cells #[.int .i64 (j : Int)] 3)).grown hg5 (by simp; omega) (fun q hq => by have := (hou.lt q hq).1; omega)
          have B6 := B5.setCell (p := ⟨M, 5, none⟩) (Nat.le_refl _) (.slice y1 (j + 1) d1)
          have B8 := (B6.alloc (by simp; omega) (.cells #[.int .i64 1] 3)).grown hg8 (by simp; omega) (fun q hq => by have := (hos.lt q hq).1; omega)
          exact B8.setCell (p := ⟨M, 6, none⟩) (Nat.le_refl _) _
    · have hi' : ¬ (j : Int) < (N : Int) := by omega
      obtain rfl : N = j := by omega
      have hrg := inside_iff.1 (checkG_ok.1 HKG.out).2.1
      have hrh := inside_iff.1 (checkG_ok.1 HKH.out).2.1
      rw [HGI.out.1] at hrg
      rw [HHI.out.1] at hrh
      obtain ⟨r, hr⟩ : ∃ r : Nat, rg = (r : Int) := ⟨rg.toNat, by omega⟩
      obtain ⟨s, hs⟩ : ∃ s : Nat, rh = (s : Int) := ⟨rh.toNat, by omega⟩
      subst hr hs
      have hrn : r < ng := by omega
      have hsn : s < nh := by omega
      have hN0 : 0 < N := by omega
      obtain ⟨ub, cu, rfl, hub, hcu, hcm, hAu⟩ := arr_of hou hN0
      obtain ⟨sb, cs, rfl, hsb, hcs, hcsm, hAs⟩ := arr_of hos hN0
      have hus : ub ≠ sb := fun h => hdis ub (by simp [Value.ownBlock]) (by simp [Value.ownBlock, h])
      have hM := HN.out.1
      have g9 := XG.out wr (H4.out.1.trans (hF.mono (by omega)))
      have a1 : wr.cell? ⟨w.heap.size, 1, none⟩ = some (.int .i64 (r : Int)) := by rw [Lib.cell_of_heap g9.2.2.2.2.2.1]; rfl
      have b1 : wr.cell? ⟨w.heap.size + 1, 1, none⟩ = some (.int .i64 (s : Int)) := by rw [Lib.cell_of_heap g9.2.2.2.2.2.2]; rfl
      have hw1 : w.heap.size < wr.heap.size := by omega
      have hw2 : w.heap.size + 1 < wr.heap.size := by omega
      clear g9
      have HL := Lib.hid (And.intro hbM (And.intro hAu (And.intro hAs hF)))
      clear hbM hou hos hdis hF hAu hAs hrg hrh
      go_wp2_with fail
      clear a1 b1
      obtain ⟨tb, htb⟩ : ∃ tb, wr.heap.size = tb := ⟨_, rfl⟩
      have hMtb : M < tb := by omega
      have hwM : w.heap.size + 1 < M := by omega
      obtain ⟨W5, hW5⟩ : ∃ W5, wr.alloc (.cells #[.int .i64 (r : Int), .int .i64 (s : Int)] 57) = W5 := ⟨_, rfl⟩
      rw [hW5, htb]
      have s5 : W5.heap.size = tb + 1 := by rw [← hW5, ← htb]; simp
      have B5 : Below M W4 W5 := by rw [← hW5]; exact HL.out.2.2.2.alloc (by omega) _
      have T5 : W5.ownsRow tb 57 2 (.slice (some ⟨tb, 0, none⟩) 1 1) 1 (pcs [(r, s)]) := by
        have := World.ownsRow_lit (base := tb) (e := 57) (size := 2) wr #[.int .i64 (r : Int), .int .i64 (s : Int)] 1 (by omega) (by unfold maxLen; omega) (by simp)
        rw [hW5, htb] at this
        exact this
      have M5 : W5.heap[M]? = some (mcells xg ng cg (r : Int) xh nh ch (s : Int) w3.heap.size (.slice (some ⟨ub, 0, none⟩) N cu) (.slice (some ⟨sb, 0, none⟩) N cs)) := by rw [← hW5, heap_old (by omega)]; exact HL.out.1
      have U5 : Mst N ub sb (fun z => z) W5 W5 := by
        refine ⟨_, _, _, Gu.uf_start N, ?_, ?_, fun z hz _ => (Gu.cnt_start hz).symm, Free.refl _ _⟩
        · exact HL.out.2.1.of (by rw [← hW5, heap_old (HL.out.2.1.lt)])
        · exact HL.out.2.2.1.of (by rw [← hW5, heap_old (HL.out.2.2.1.lt)])
      have P5 : W5.ownsMap (H := Unit) Tryd.prog 57 unitElem w3.heap.size 0 (.map []) := by
        obtain ⟨es, clock, hb, rest⟩ := H4.out.2.2
        exact ⟨es, clock, (B5.block _ (by omega)).trans hb, rest⟩
      have hubs : ub < tb ∧ sb < tb := ⟨by have := HL.out.2.1.lt; omega, by have := HL.out.2.2.1.lt; omega⟩
      have H5 := Lib.hid (And.intro B5 (And.intro T5 (And.intro M5 (And.intro U5 P5))))
      clear hW5 B5 T5 M5 U5 P5
      have hroots := Gu.roots_le N (fun z => z)
      go_loopg [7] (Gu.roots N (fun z => z) * 2001 + 1) (fun gk v wq => ∃ (todo sn mt : List (Nat × Nat)) (rt : Nat → Nat) (D : DataW Unit) (kn : Nat), gk = Gu.roots N rt * 2001 + todo.length ∧ kn + gk ≤ 8004001 ∧ wq.ownsRow tb 57 2 v todo.length (pcs todo) ∧ wq.ownsMap Tryd.prog 57 unitElem w3.heap.size kn D ∧ (∀ a b : Nat, a < ng → b < nh → has D (kp a b) = true → (a, b) ∈ sn) ∧ Gu.Inv (toG G) (toG H) r s sn mt todo rt ∧ (∀ R : Nat → Nat → Prop, R r s → Gu.Match (toG G) (toG H) R → ∀ p, p ∈ sn ∨ p ∈ todo → R p.1 p.2) ∧ Mst N ub sb rt wq wq ∧ Free (fun b => b = ub ∨ b = sb ∨ b = w3.heap.size ∨ b = tb) W5 wq)
      case atStart =>
        refine ⟨[(r, s)], [], [], _, _, 0, rfl, by omega, H5.out.2.1, H5.out.2.2.2.2, fun a b _ _ h => ?_, Gu.inv_start (by rw [toG_len, HGI.out.1]; exact hrn) (by rw [toG_len, HHI.out.1]; exact hsn), fun R hR _ p hp => ?_, H5.out.2.2.2.1, Free.refl _ _⟩
        · cases h
        · rcases hp with hp | hp
          · cases hp
          · rw [List.mem_singleton.1 hp]; exact hR
      case round =>
        obtain ⟨todo, sn, mt, rt, D, kn, rfl, hkn, hT, hP, hD, hI, hR, hMs, hF⟩ := hrel
        obtain ⟨wq, rfl⟩ : ∃ wq, wq = wr := ⟨_, rfl⟩
        have sq := hF.size
        rcases List.eq_nil_or_concat todo with rfl | ⟨t, q, rfl⟩
        · obtain ⟨xt, ct, rfl⟩ := own_shape hT
          have hyes : sameGr G (r : Int) H (s : Int) = true := sameGr_iff.2 ⟨HKG.out, HKH.out, by simpa using hI.done (fine_of HKG.out HKH.out)⟩
          have HY := Lib.hid (And.intro hyes hF)
          clear hyes hT hP hD hI hR hMs hF
          simp only [List.length_nil, Nat.add_zero]
          go_wp2_with fail
          go_ret
          refine ⟨by rw [HY.out.1]; rfl, ?_⟩
          have hF := HY.out.2
          have hB : Below w1.heap.size w1 W5 := H4.out.1.trans (H5.out.1.mono (by omega))
          exact H1.out.1.trans ((hB.trans (free_below hF (by omega) (fun k hk => by omega))).mono (by omega))
        · rw [List.concat_eq_append] at hkn hT hI hR
          obtain ⟨tn, htn⟩ : ∃ n, t.length = n := ⟨_, rfl⟩
          have hlen : (t ++ [q]).length = tn + 1 := by simp [htn]
          rw [hlen] at hT hkn
          rw [pcs_append] at hT
          obtain ⟨xt, ct, rfl⟩ := own_shape hT
          obtain ⟨tg, rfl⟩ : ∃ g, xt = some ⟨g, 0, none⟩ := by
            rcases hT.2 with ⟨_, h0⟩ | ⟨g, cap, cur, hv, _⟩
            · omega
            · cases hv; exact ⟨g, rfl⟩
          have htg := hT.lt tg (by simp [Value.ownBlock])
          have c0 : wq.cell? ⟨tg, tn * 2, none⟩ = some (.int .i64 (q.1 : Int)) := by
            rw [hT.cellAt _ (by omega), List.getElem?_append_right (by rw [pcs_length, htn]; omega), pcs_length, htn, Nat.sub_self]; rfl
          have c1 : wq.cell? ⟨tg, tn * 2 + 1, none⟩ = some (.int .i64 (q.2 : Int)) := by
            rw [hT.cellAt _ (by omega), List.getElem?_append_right (by rw [pcs_length, htn]; omega), pcs_length, htn, Nat.add_sub_cancel_left]; rfl
          have hpop := own_pop2 hT (by rw [pcs_length, htn])
          have hcap : tn + 1 ≤ ct ∧ ct ≤ maxLen := by
            rcases hT.2 with ⟨_, h0⟩ | ⟨g, cap, cur, hv, _, _, h1, h2, _⟩
            · omega
            · cases hv; exact ⟨h1, h2⟩
          obtain ⟨hct, hcx⟩ := hcap
          unfold maxLen at hcx
          have hrq := hI.rng q (.inr (by simp))
          rw [toG_len, toG_len, HGI.out.1, HHI.out.1] at hrq
          obtain ⟨qa, qb⟩ := q
          simp only at c0 c1 hrq
          obtain ⟨hqa, hqb⟩ := hrq
          have hbM : wq.heap[M]? = some (mcells xg ng cg (r : Int) xh nh ch (s : Int) w3.heap.size (.slice (some ⟨ub, 0, none⟩) N cu) (.slice (some ⟨sb, 0, none⟩) N cs)) := (hF.block M (by omega) (by omega)).trans H5.out.2.2.1
          have m2 : wq.cell? ⟨M, 4, none⟩ = some (.map (some w3.heap.size)) := by rw [Lib.cell_of_heap hbM]; rfl
          have HQ := Lib.hid (And.intro hpop (And.intro hP (And.intro hD (And.intro hI (And.intro hR (And.intro hMs (And.intro hF hbM)))))))
          have HL1 := Lib.hid (And.intro htn hlen)
          have hMq : M < wq.heap.size := by omega
          have htgq : tg < wq.heap.size := htg.2
          have hmbq : w3.heap.size < wq.heap.size := by omega
          have wfa := WalkArith.wf_i64 (n := (qa : Int)) ⟨by omega, by omega⟩
          have wfb := WalkArith.wf_i64 (n := (qb : Int)) ⟨by omega, by omega⟩
          have HW := Lib.hid (And.intro wfa wfb)
          clear hT hpop hP hD hI hR hMs hF hbM htn hlen wfa wfb
          have hm0 : 0 < tn + 1 := by omega
          have hm1 : (tn : Int) < (tn : Int) + 1 := by omega
          have HPA := Lib.hid (HQ.out.2.1.alloc (.cells #[.int .i64 (qa : Int), .int .i64 (qb : Int)] 57))
          obtain ⟨db, hdb⟩ : ∃ b, has D (kp qa qb) = b := ⟨_, rfl⟩
          have HDB := Lib.hid hdb
          clear hdb
          cases db with
          | true =>
            go_wp2_with (first | (at_lookup; (refine wpList_lookup_own_unit _ rfl (.tmp 70) (.tmp 71) _ rfl 57 59 pairLaw Tryd.underlying53 (zeroUnit _) w3.heap.size kn D rfl HPA.out _ (kp qa qb) rfl (key_pair HW.out.1 HW.out.2) ?_); (rw [HDB.out])))
            go_roundg (Gu.roots N rt * 2001 + tn)
            case measure =>
              have h := HL1.out.2
              rw [List.concat_eq_append, h]; omega
            case rel =>
              obtain ⟨hpop, hP, hD, hI, hR, hMs, hF, -⟩ := HQ.out
              have hB : Below wq.heap.size wq ((wq.alloc (.cells #[.int .i64 (qa : Int), .int .i64 (qb : Int)] 57)).alloc (.cells #[] 59)) := ((Below.refl _ _).alloc (Nat.le_refl _) _).alloc (by simp) _
              refine ⟨t, sn, mt, rt, D, kn, by rw [HL1.out.1], by omega, ?_, (hP.alloc _).alloc _, hD, hI.seen (hD _ _ hqa hqb HDB.out), fun R h1 h2 p hp => hR R h1 h2 p (hp.imp id fun h => List.mem_append.2 (.inl h)), ?_, hF.trans (free_of hB)⟩
              · rw [HL1.out.1]; exact (hpop.alloc _).alloc _
              · exact (hMs.below hB).now
          | false =>
            obtain ⟨W6, hW6⟩ : ∃ W6, (wq.alloc (.cells #[.int .i64 (qa : Int), .int .i64 (qb : Int)] 57)).alloc (.cells #[] 59) = W6 := ⟨_, rfl⟩
            have B6 : Below wq.heap.size wq W6 := by rw [← hW6]; exact ((Below.refl _ _).alloc (Nat.le_refl _) _).alloc (by simp) _
            have s6 : W6.heap.size = wq.heap.size + 2 := by rw [← hW6]; simp
            have hbM6 := (B6.block M hMq).trans HQ.out.2.2.2.2.2.2.2
            have hbP6 : W6.heap[wq.heap.size]? = some (.cells #[.int .i64 (qa : Int), .int .i64 (qb : Int)] 57) := by rw [← hW6, heap_old (by simp)]; exact heap_last rfl
            have m26 : W6.cell? ⟨M, 4, none⟩ = some (.map (some w3.heap.size)) := by rw [Lib.cell_of_heap hbM6]; rfl
            have p06 : W6.cell? ⟨wq.heap.size, 0, none⟩ = some (.int .i64 (qa : Int)) := by rw [Lib.cell_of_heap hbP6]; rfl
            have p16 : W6.cell? ⟨wq.heap.size, 1, none⟩ = some (.int .i64 (qb : Int)) := by rw [Lib.cell_of_heap hbP6]; rfl
            have HPB : Hid (W6.ownsMap Tryd.prog 57 unitElem w3.heap.size kn D) := Lib.hid (by rw [← hW6]; exact (HQ.out.2.1.alloc _).alloc _)
            have H6 := Lib.hid (And.intro B6 (And.intro hbM6 hbP6))
            have HW6 := Lib.hid hW6
            have hM6 : M < W6.heap.size := by omega
            have hq6 : wq.heap.size < W6.heap.size := by omega
            clear B6 hbM6 hbP6 hW6
            go_wp2_with (first
              | (at_lookup; (refine wpList_lookup_own_unit _ rfl (.tmp 70) (.tmp 71) _ rfl 57 59 pairLaw Tryd.underlying53 (zeroUnit _) w3.heap.size kn D rfl HPA.out _ (kp qa qb) rfl (key_pair HW.out.1 HW.out.2) ?_); (rw [HDB.out]))
              | (at_mapUpdate; (rw [HW6.out]); (refine wpList_mapUpdate_own _ rfl (.tmp 77) (.tmp 78) (.tmp 79) _ rfl 57 59 pairLaw Tryd.underlying53 _ w3.heap.size kn D rfl HPB.out (by unfold maxLen; omega) _ _ _ rfl rfl (key_pair HW.out.1 HW.out.2) (.agg []) [] unitElem_mk ?_); (intro W7 hP7 hg7); (have s7 := hg7.size); (have hM7 : M < W7.heap.size := by omega); (have hq7 : wq.heap.size < W7.heap.size := by omega); (have hbP7 := (hg7.block wq.heap.size (by omega) (by simp; omega)).trans H6.out.2.2); (have p07 := Lib.cell_of_heap hbP7 0); (have p17 := Lib.cell_of_heap hbP7 1); (simp only [List.getElem?_toArray, List.getElem?_cons_zero, List.getElem?_cons_succ] at p07 p17); (have H7 := Lib.hid (And.intro hP7 hg7)); clear hP7 hg7 hbP7))
            have F7 : Free (fun b => b = ub ∨ b = sb ∨ b = w3.heap.size ∨ b = tb) W5 W7 := (HQ.out.2.2.2.2.2.2.1.trans (free_of H6.out.1)).trans ((free_grown H7.out.2).mono (fun k hk => .inr (.inr (.inl hk))))
            have hlt := HQ.out.2.2.2.2.2.1.lts
            have k7 : ∀ k, k < wq.heap.size → k ≠ w3.heap.size → W7.heap[k]? = wq.heap[k]? := fun k hk hn => ((free_grown H7.out.2).block k (by omega) hn).trans (H6.out.1.block k hk)
            have hMs7 : Mst N ub sb rt W7 W7 := HQ.out.2.2.2.2.2.1.turn (k7 ub hlt.1 (by omega)) (k7 sb hlt.2 (by omega))
            have hB7 : Below w1.heap.size w1 W7 := (H4.out.1.trans (H5.out.1.mono (by omega))).trans (free_below F7 (by omega) (fun k hk => by omega))
            have hbM7 := (k7 M hMq (by omega)).trans HQ.out.2.2.2.2.2.2.2
            have hpop7 := own_same (W' := W7) HQ.out.1 (fun k hk => k7 k (HQ.out.1.lt k hk).2 (by have := (HQ.out.1.lt k hk).1; omega))
            have m5 : W7.cell? ⟨M, 5, none⟩ = some (.slice (some ⟨ub, 0, none⟩) N cu) := by rw [Lib.cell_of_heap hbM7]; rfl
            have m0 : W7.cell? ⟨M, 0, none⟩ = some (.slice xg ng cg) := by rw [Lib.cell_of_heap hbM7]; rfl
            have hN := HN.out.2.1
            have C1 := Lib.hid (one_any N M ub cu ng cg qa qb xg rt W7 W7 hMs7.ust m5 m0 hM7 (by omega) (by omega) (by omega) (by omega))
            have H7b := Lib.hid (And.intro F7 (And.intro hMs7 (And.intro hB7 (And.intro hbM7 hpop7))))
            clear F7 k7 hMs7 hB7 hbM7 hpop7 m5 m0 p07 p17 hlt
            refine C1.out.mono ?_
            rintro e W8 ⟨rfl, hU8⟩
            clear C1
            obtain ⟨bo, hbo⟩ : ∃ b, (rt qa == rt (ng + qb)) = b := ⟨_, rfl⟩
            rw [hbo]
            have F8 := hU8.free
            have s8 := F8.size
            have hMs8 : Mst N ub sb rt W8 W8 := H7b.out.2.1.of_ust hU8 (by omega)
            have hP8 := own_map (W' := W8) H7.out.1 (F8.block _ (by omega) (by omega))
            have hpop8 := own_same (W' := W8) H7b.out.2.2.2.2 (fun k hk => by have h := H7b.out.2.2.2.2.lt k hk; exact F8.block k h.2 (by omega))
            have hbM8 := (F8.block M hM7 (by omega)).trans H7b.out.2.2.2.1
            have hbP8 : W8.heap[wq.heap.size]? = some (.cells #[.int .i64 (qa : Int), .int .i64 (qb : Int)] 57) := (F8.block _ hq7 (by have := H7b.out.2.1.lts; have h := HQ.out.2.2.2.2.2.1.lts; omega)).trans (((free_grown H7.out.2).block _ (by omega) (by omega)).trans H6.out.2.2)
            have FW8 : Free (fun b => b = ub ∨ b = sb ∨ b = w3.heap.size ∨ b = tb) W5 W8 := H7b.out.1.trans (F8.mono (fun k hk => .inl hk))
            have hD8 : ∀ a b : Nat, a < ng → b < nh → has (D.put (kp qa qb) (.agg [])) (kp a b) = true → (a, b) ∈ (qa, qb) :: sn := fun a b ha hb h => by
              by_cases e : a = qa ∧ b = qb
              · obtain ⟨rfl, rfl⟩ := e; exact List.mem_cons_self
              · have hne : kp a b ≠ kp qa qb := fun h => by
                  have := kp_inj (WalkArith.wf_i64 ⟨by omega, by omega⟩) (WalkArith.wf_i64 ⟨by omega, by omega⟩) HW.out.1 HW.out.2 h
                  exact e ⟨by omega, by omega⟩
                rw [has_put_other hne] at h
                exact List.mem_cons_of_mem _ (HQ.out.2.2.1 a b ha hb h)
            have HBO := Lib.hid hbo
            have H8 := Lib.hid (And.intro hMs8 (And.intro hP8 (And.intro hpop8 (And.intro hbM8 (And.intro hbP8 (And.intro FW8 hD8))))))
            clear hbo F8 hU8 hMs8 hP8 hpop8 hbM8 hbP8 FW8 hD8
            cases bo with
            | true =>
              go_wp2_with fail
              go_roundg (Gu.roots N rt * 2001 + tn)
              case measure =>
                have h := HL1.out.2
                rw [List.concat_eq_append, h]; omega
              case rel =>
                obtain ⟨hMs8, hP8, hpop8, hbM8, hbP8, FW8, hD8⟩ := H8.out
                obtain ⟨hpop, hP, hD, hI, hR, hMs, hF, -⟩ := HQ.out
                refine ⟨t, (qa, qb) :: sn, mt, rt, _, kn + 1, by rw [HL1.out.1], by omega, by rw [HL1.out.1]; exact hpop8, hP8, hD8, hI.skip (by rw [toG_len, HGI.out.1]; simpa using HBO.out), fun R h1 h2 p hp => hR R h1 h2 p ?_, hMs8, FW8⟩
                rcases hp with hp | hp
                · rcases List.mem_cons.1 hp with rfl | hp
                  · exact .inr (by simp)
                  · exact .inl hp
                · exact .inr (List.mem_append.2 (.inl hp))
            | false =>
              have hqa' : (qa : Int) < (ng : Int) := by omega
              have hqb' : (qb : Int) < (nh : Int) := by omega
              obtain ⟨rfl, hcg, hcgm, hSg⟩ := HGI.out.2.1 (by rw [HGI.out.1]; omega)
              obtain ⟨rfl, hch, hchm, hSh⟩ := HHI.out.2.1 (by rw [HHI.out.1]; omega)
              unfold maxLen at hcgm hchm
              rw [HGI.out.1] at hcg
              rw [HHI.out.1] at hch
              have hB8 : Below w1.heap.size w1 W8 := (H4.out.1.trans (H5.out.1.mono (by omega))).trans (free_below H8.out.2.2.2.2.2.1 (by omega) (fun k hk => by omega))
              have g8 := XG.out W8 hB8
              have e0 : W8.cell? ⟨w.heap.size, 0, none⟩ = some (.slice (some ⟨gg, og, none⟩) ng cg) := by rw [Lib.cell_of_heap g8.2.2.2.2.2.1]; rfl
              have e1 : W8.cell? ⟨w.heap.size + 1, 0, none⟩ = some (.slice (some ⟨gh, oh, none⟩) nh ch) := by rw [Lib.cell_of_heap g8.2.2.2.2.2.2]; rfl
              have p0 : W8.cell? ⟨wq.heap.size, 0, none⟩ = some (.int .i64 (qa : Int)) := by rw [Lib.cell_of_heap H8.out.2.2.2.2.1]; rfl
              have p1 : W8.cell? ⟨wq.heap.size, 1, none⟩ = some (.int .i64 (qb : Int)) := by rw [Lib.cell_of_heap H8.out.2.2.2.2.1]; rfl
              have z1 : w.heap.size < W8.heap.size := by omega
              have z2 : w.heap.size + 1 < W8.heap.size := by omega
              have z3 : wq.heap.size < W8.heap.size := by omega
              have HB8 := Lib.hid hB8
              clear g8 hB8
              go_wp2_with fail
              go_quiet (fail)
              go_wp2_with fail
              clear e0 e1 p0 p1
              have hBq : Below w.heap.size w (W8.drewN nq) := dN_below (H1.out.1.trans (HB8.out.mono (by omega))) nq
              have hjG : qa < G.length := by rw [HGI.out.1]; exact hqa
              have hjH : qb < H.length := by rw [HHI.out.1]; exact hqb
              obtain ⟨vxa, vxl, hx⟩ := HGI.out.2.2 qa hjG
              obtain ⟨vya, vyl, hy⟩ := HHI.out.2.2 qb hjH
              obtain ⟨x, hxe⟩ : ∃ x, G[qa] = x := ⟨_, rfl⟩
              obtain ⟨y, hye⟩ : ∃ y, H[qb] = y := ⟨_, rfl⟩
              rw [hxe] at hx
              rw [hye] at hy
              have hkS : Keeps S w (W8.drewN nq) := fun k hk => hBq.block k (HZ.out.1 k hk)
              have hx8 := hx.carry hkS (fun _ h => h)
              have hy8 := hy.carry hkS (fun _ h => h)
              have hbMq : (W8.drewN nq).heap[M]? = some (mcells (some ⟨gg, og, none⟩) ng cg (r : Int) (some ⟨gh, oh, none⟩) nh ch (s : Int) w3.heap.size (.slice (some ⟨ub, 0, none⟩) N cu) (.slice (some ⟨sb, 0, none⟩) N cs)) := H8.out.2.2.2.1
              have m5 : (W8.drewN nq).cell? ⟨M, 5, none⟩ = some (.slice (some ⟨ub, 0, none⟩) N cu) := by rw [Lib.cell_of_heap hbMq]; rfl
              have m6 : (W8.drewN nq).cell? ⟨M, 6, none⟩ = some (.slice (some ⟨sb, 0, none⟩) N cs) := by rw [Lib.cell_of_heap hbMq]; rfl
              have m0 : (W8.drewN nq).cell? ⟨M, 0, none⟩ = some (.slice (some ⟨gg, og, none⟩) ng cg) := by rw [Lib.cell_of_heap hbMq]; rfl
              have hMsq : Mst N ub sb rt (W8.drewN nq) (W8.drewN nq) := H8.out.1.turn rfl rfl
              have hne : rt qa ≠ rt (ng + qb) := by have := HBO.out; simpa using this
              have sdq : (W8.drewN nq).heap.size = W8.heap.size := rfl
              have CM := Lib.hid (match_any N M ub sb cu cs ng cg qa qb gg (og + qa * 5) gh (oh + qb * 5) _ rt x y vxa vxl vya vyl S _ _ hMsq m5 m6 m0 (by omega) (by omega) (by omega) hus (by omega) (by omega) (by omega) hx8 hy8 (fun k hk => by have := HZ.out.1 k hk; omega) hne)
              have HXY := Lib.hid (And.intro hxe (And.intro hye (And.intro hx (And.intro hy hne))))
              clear hx8 hy8 hbMq m5 m6 m0 hMsq hkS hxe hye hx hy hne
              refine CM.out.mono ?_
              rintro e W9 hgive
              clear CM
              have hGq : (toG G)[qa]? = some (toN x) := by unfold toG; rw [List.getElem?_map, List.getElem?_eq_getElem hjG, HXY.out.1]; rfl
              have hHq : (toG H)[qb]? = some (toN y) := by unfold toG; rw [List.getElem?_map, List.getElem?_eq_getElem hjH, HXY.out.2.1]; rfl
              have HGq := Lib.hid (And.intro hGq hHq)
              clear hGq hHq
              -- of graphs that are the same type the pair is matched
              have hmatch : Hid (∀ R : Nat → Nat → Prop, R r s → Gu.Match (toG G) (toG H) R → R qa qb) := Lib.hid fun R h1 h2 => HQ.out.2.2.2.2.1 R h1 h2 (qa, qb) (.inr (by simp))
              rcases hgive with ⟨hna, rfl, hM9⟩ | ⟨hal, rb, rt', rfl, hrb, hjo, hro, hM9⟩
              · have hno : sameGr G (r : Int) H (s : Int) = false := by
                  have : ¬ SameGr G (r : Int) H (s : Int) := fun ⟨_, _, R, h1, h2⟩ => by
                    obtain ⟨x', y', a1, a2, a3, _⟩ := h2.like qa qb (hmatch.out R (by simpa using h1) h2)
                    rw [HGq.out.1] at a1; cases a1
                    rw [HGq.out.2] at a2; cases a2
                    exact hna ⟨a3.1, a3.2.1, a3.2.2.1, a3.2.2.2⟩
                  unfold sameGr; simpa using this
                have HNO := Lib.hid hno
                have hF9 := hM9.free
                have HB9 := Lib.hid (show Below w.heap.size w W9 from hBq.trans (free_below hF9 (by omega) (fun k hk => by omega)))
                clear hno hM9 hna hF9
                go_wp2_with fail
                go_ret
                exact ⟨by rw [HNO.out]; rfl, HB9.out⟩
              · have HAL := Lib.hid (And.intro hal (And.intro hrb (And.intro hjo (And.intro hro hM9))))
                clear hal hrb hjo hro hM9
                cases rb with
                | false =>
                  have hno : sameGr G (r : Int) H (s : Int) = false := by
                    have : ¬ SameGr G (r : Int) H (s : Int) := fun ⟨_, _, R, h1, h2⟩ => by
                      have hnf : ¬ (x.freeB = true → Gu.cnt N rt (rt qa) + Gu.cnt N rt (rt (ng + qb)) = 2) := fun h => by have := HAL.out.2.1.2 h; cases this
                      apply hnf
                      intro hfr
                      have hfr' : (toN x).free := by
                        unfold GN.freeB at hfr
                        simpa [Gu.Gn.free, toN] using hfr
                      have hal := HQ.out.2.2.2.1.alone (p := (qa, qb)) h2 (fun p hp => HQ.out.2.2.2.2.1 R (by simpa using h1) h2 p hp) HGq.out.1 hfr' (by rw [toG_len, HGI.out.1]; exact HXY.out.2.2.2.2)
                      rw [toG_len, toG_len, HGI.out.1, HHI.out.1, HN.out.2.1] at hal
                      have c1 := Gu.cnt_is_one (N := N) (rt := rt) (x := qa) (by omega) rfl (fun z hz h => hal.1 z hz h)
                      have c2 := Gu.cnt_is_one (N := N) (rt := rt) (x := ng + qb) (by omega) rfl (fun z hz h => hal.2 z hz h)
                      omega
                    unfold sameGr; simpa using this
                  have HNO := Lib.hid hno
                  have hF9 := HAL.out.2.2.2.2.free
                  have HB9 := Lib.hid (show Below w.heap.size w W9 from hBq.trans (free_below hF9 (by omega) (fun k hk => by omega)))
                  clear hno hF9
                  go_wp2_with fail
                  go_ret
                  exact ⟨by rw [HNO.out]; rfl, HB9.out⟩
                | true =>
                  have hF9 := HAL.out.2.2.2.2.free
                  have s9 := hF9.size
                  have HB9 := Lib.hid (show Below w.heap.size w W9 from hBq.trans (free_below hF9 (by omega) (fun k hk => by omega)))
                  have hkS : Keeps S w W9 := fun k hk => HB9.out.block k (HZ.out.1 k hk)
                  have hx9 := HXY.out.2.2.1.carry hkS (fun _ h => h)
                  have hy9 := HXY.out.2.2.2.1.carry hkS (fun _ h => h)
                  obtain ⟨xx, cx, gx, ox, rfl, hxx, hxc⟩ := hx9.ha.open_
                  obtain ⟨xy, cy, gy, oy, rfl, hyx, hyc⟩ := hy9.ha.open_
                  obtain ⟨k, hk⟩ : ∃ k, x.args.length = k := ⟨_, rfl⟩
                  have hky : y.args.length = k := by
                    have h := (fine_of HKG.out HKH.out).len qa qb _ _ HGq.out.1 HGq.out.2 HAL.out.1
                    simpa [toN, hk] using h.symm
                  have hk2 : k ≤ 2000 := by rw [← hk, ← HXY.out.1]; exact HZ.out.2.2.2 _ (List.getElem_mem hjG)
                  have ax := fit_args ((checkG_ok.1 HKG.out).2.2 x (by rw [← HXY.out.1]; exact List.getElem_mem hjG))
                  have ay := fit_args ((checkG_ok.1 HKH.out).2.2 y (by rw [← HXY.out.2.1]; exact List.getElem_mem hjH))
                  have x2 := hx9.c2
                  have y2 := hy9.c2
                  rw [hk] at x2
                  rw [hky] at y2
                  have hgx : gg < W9.heap.size := by have := HZ.out.1 _ hx9.hb; have := HB9.out.size; omega
                  have hgy : gh < W9.heap.size := by have := HZ.out.1 _ hy9.hb; have := HB9.out.size; omega
                  have hgw : gg < w.heap.size := HZ.out.1 _ hx9.hb
                  have hgw2 : gh < w.heap.size := HZ.out.1 _ hy9.hb
                  have hpop9 := own_same (W' := W9) H8.out.2.2.1 (fun q hq => by have h := H8.out.2.2.1.lt q hq; exact (hF9.block q (by rw [sdq]; exact h.2) (by omega)))
                  obtain ⟨Z, hZ⟩ : ∃ Z, (toN x).args.zip (toN y).args = Z := ⟨_, rfl⟩
                  have hZl : Z.length = k := by rw [← hZ, List.length_zip]; simp [toN, hk, hky]
                  have HX9 := Lib.hid (And.intro hk (And.intro hky (And.intro hxx (And.intro hxc (And.intro hyx (And.intro hyc (And.intro ax (And.intro ay (And.intro hZ (And.intro hZl (And.intro hpop9 (And.intro x2 (And.intro y2 hF9)))))))))))))
                  clear hF9 hkS hx9 hy9 hxx hxc hyx hyc hk hky ax ay hpop9 hZ hZl y2
                  obtain ⟨i2, hi2, hz20, hz21, hz22⟩ := info_parts pairInfo
                  go_wp2_with fail
                  clear x2
                  go_loopg [7, 102] k (fun gk v i wz => ∃ j : Nat, gk = k - j ∧ j ≤ k ∧ i = .int .i64 j ∧ wz.ownsRow tb 57 2 v (tn + j) (pcs (t ++ Z.take j)) ∧ Below tb W9 wz)
                  case atStart => exact ⟨0, rfl, Nat.zero_le _, rfl, by simpa using HX9.out.2.2.2.2.2.2.2.2.2.2.1, Below.refl _ _⟩
                  case round =>
                    obtain ⟨wz, rfl⟩ : ∃ wz, wz = wr := ⟨_, rfl⟩
                    obtain ⟨j, rfl, hj, rfl, hoz, hBz⟩ := hrel
                    have sz := hBz.size
                    obtain ⟨xt, ct2, rfl⟩ := own_shape hoz
                    have x2 := (hBz.cell (p := ⟨gg, og + qa * 5 + 2, none⟩) (show gg < tb by omega)).trans HX9.out.2.2.2.2.2.2.2.2.2.2.2.1
                    have y2 := (hBz.cell (p := ⟨gh, oh + qb * 5 + 2, none⟩) (show gh < tb by omega)).trans HX9.out.2.2.2.2.2.2.2.2.2.2.2.2.1
                    have HO := Lib.hid (And.intro hoz hBz)
                    by_cases hlt : j < k
                    · have hi' : (j : Int) < (k : Int) := by omega
                      have hjx : j < x.args.length := by rw [HX9.out.1]; exact hlt
                      have hjy : j < y.args.length := by rw [HX9.out.2.1]; exact hlt
                      obtain ⟨rfl, hx1, hx2, hSx⟩ := HX9.out.2.2.1 (by rw [HX9.out.1]; omega)
                      obtain ⟨rfl, hy1, hy2, hSy⟩ := HX9.out.2.2.2.2.1 (by rw [HX9.out.2.1]; omega)
                      rw [HX9.out.1] at hx1
                      rw [HX9.out.2.1] at hy1
                      unfold maxLen at hx2 hy2
                      have hgxw := HZ.out.1 _ hSx
                      have hgyw := HZ.out.1 _ hSy
                      have d1 := (hBz.cell (p := ⟨gx, ox + j, none⟩) (show gx < tb by omega)).trans (HX9.out.2.2.2.1 j hjx)
                      have d2 := (hBz.cell (p := ⟨gy, oy + j, none⟩) (show gy < tb by omega)).trans (HX9.out.2.2.2.2.2.1 j hjy)
                      obtain ⟨ca, hca⟩ : ∃ c : Nat, x.args[j] = (c : Int) := ⟨x.args[j].toNat, by have := HX9.out.2.2.2.2.2.2.1 _ (List.getElem_mem hjx); omega⟩
                      obtain ⟨cb, hcb⟩ : ∃ c : Nat, y.args[j] = (c : Int) := ⟨y.args[j].toNat, by have := HX9.out.2.2.2.2.2.2.2.1 _ (List.getElem_mem hjy); omega⟩
                      rw [hca] at d1
                      rw [hcb] at d2
                      have hgxz : gx < wz.heap.size := by omega
                      have hgyz : gy < wz.heap.size := by omega
                      have hggz : gg < wz.heap.size := by omega
                      have hghz : gh < wz.heap.size := by omega
                      have HOA := Lib.hid (World.ownsRow.drew (hoz.alloc (.cells #[.int .i64 (ca : Int), .int .i64 (cb : Int)] 57)))
                      have HNw : Hid (∀ i u, ([.int .i64 (ca : Int), .int .i64 (cb : Int)] : List Value)[i]? = some u → ((wz.alloc (.cells #[.int .i64 (ca : Int), .int .i64 (cb : Int)] 57)).drew).cell? ((⟨wz.heap.size, 0, none⟩ : Addr).add i) = some u) := Lib.hid (new_cells wz [.int .i64 (ca : Int), .int .i64 (cb : Int)] 57)
                      have H1w : Hid (∀ u ∈ ([.int .i64 (ca : Int), .int .i64 (cb : Int)] : List Value), u.oneCell' = true) := Lib.hid fun u hu => by
                        simp only [List.mem_cons, List.not_mem_nil, or_false] at hu
                        rcases hu with rfl | rfl <;> rfl
                      have HZj : Hid (Z.take (j + 1) = Z.take j ++ [(ca, cb)]) := Lib.hid (by
                        have hjz : j < Z.length := by rw [HX9.out.2.2.2.2.2.2.2.2.2.1]; exact hlt
                        rw [List.take_succ_eq_append_getElem hjz]
                        congr 2
                        have hz := HX9.out.2.2.2.2.2.2.2.2.1
                        subst hz
                        rw [List.getElem_zip]
                        simp [toN, hca, hcb])
                      clear hoz hBz hca hcb
                      go_wp2_with fail
                      go_region_law (first | (refine step_append_lies _ rfl (.tmp 105) (.tmp 121) 58 rfl tb 57 i2 _ 2 16 Tryd.underlying58 hi2 hz20 hz21 hz22 rfl (by decide) (.slice xt (tn + j) ct2) (tn + j) (pcs (t ++ Z.take j)) (by simp [Act.eval]) HOA.out ⟨wz.heap.size, 0, none⟩ 1 1 [.int .i64 (ca : Int), .int .i64 (cb : Int)] (by simp [Act.eval]) rfl HNw.out H1w.out (by decide) (by unfold maxLen; omega) (by omega) (by simp; omega) _ rfl ?_; intro g2 cap2 w5 hown5 hg5 hat5 hlt5))
                      all_goals
                        go_wp2_with fail
                        go_roundg (k - (j + 1))
                        case measure => omega
                        case rel =>
                          refine ⟨j + 1, rfl, hlt, by first | rfl | simp, ?_, HO.out.2.trans ((((Below.refl tb wz).alloc (by omega) _).drew).grown hg5 (by simp; omega) (fun q hq => (HOA.out.lt q hq).1))⟩
                          rw [HZj.out, ← List.append_assoc, pcs_append]
                          exact hown5
                    · have hi' : ¬ (j : Int) < (k : Int) := by omega
                      obtain rfl : k = j := by omega
                      clear hoz hBz
                      go_wp2_with fail
                      go_roundg (Gu.roots N rt' * 2001 + (tn + k))
                      case measure =>
                        have h := HL1.out.1
                        have h2 := HAL.out.2.2.2.1
                        omega
                      case rel =>
                        obtain ⟨hk, hky, hxx, hxc, hyx, hyc, ax, ay, hZ, hZl, hpop9, x2, y2, hF9⟩ := HX9.out
                        obtain ⟨hMs8, hP8, hpop8, hbM8, hbP8, FW8, hD8⟩ := H8.out
                        obtain ⟨hal, hrb, hjo, hro, hM9⟩ := HAL.out
                        obtain ⟨hpop, hP, hD, hI, hR, hMs, hF, -⟩ := HQ.out
                        obtain ⟨hoz, hBz⟩ := HO.out
                        have hlts := hM9.lts
                        have hZt : Z.take k = Z := by rw [← hZl, List.take_length]
                        rw [hZt] at hoz
                        have F9a : Free (fun b => b = ub ∨ b = sb ∨ b = w3.heap.size ∨ b = tb) (W8.drewN nq) W9 := hF9.mono (fun q (hq : q = ub ∨ q = sb) => by
                          rcases hq with h | h
                          · exact .inl h
                          · exact .inr (.inl h))
                        have F9b : Free (fun b => b = ub ∨ b = sb ∨ b = w3.heap.size ∨ b = tb) W8 (W8.drewN nq) := ⟨rfl, rfl, rfl, Nat.le_refl _, fun _ _ _ => rfl⟩
                        have F9 := FW8.trans (F9b.trans F9a)
                        have sF9 := F9.size
                        have hsub : ∀ z : Nat, z < N → rt (rt z) = rt z ∧ rt z < N := fun z hz => by
                          obtain ⟨up, d, sz, a1, _⟩ := hMs8
                          exact ⟨(a1.root hz).2.2, (a1.root hz).1⟩
                        refine ⟨t ++ Z, (qa, qb) :: sn, (qa, qb) :: mt, rt', _, kn + 1, by rw [List.length_append, HL1.out.1, hZl], by omega, by rw [List.length_append, HL1.out.1, hZl]; exact hoz, own_map (own_map (W' := W9) hP8 (hF9.block _ (by rw [sdq]; omega) (by omega))) (hBz.block _ (by omega)), hD8, ?_, ?_, hM9.turn (hBz.block _ (by omega)) (hBz.block _ (by omega)), ?_⟩
                        · refine hI.put (p := (qa, qb)) HGq.out.1 HGq.out.2 ⟨hal.1, hal.2.1, hal.2.2.1, hal.2.2.2⟩ (fine_of HKG.out HKH.out) (by rw [toG_len, HGI.out.1]; exact hjo) (fun hfr => ?_) hZ.symm
                          have hfr' : x.freeB = true := by
                            unfold GN.freeB
                            simpa [Gu.Gn.free, toN] using hfr
                          have h2 := hrb.1 (by first | rfl | trivial) hfr'
                          have ra := hsub qa (by omega)
                          have rbb := hsub (ng + qb) (by omega)
                          have c1 := Gu.cnt_pos (N := N) (rt := rt) ra.2 ra.1
                          have c2 := Gu.cnt_pos (N := N) (rt := rt) rbb.2 rbb.1
                          rw [toG_len, toG_len, HGI.out.1, HHI.out.1, HN.out.2.1]
                          have e1 : Gu.cnt N rt (rt qa) = 1 := by omega
                          have e2 : Gu.cnt N rt (rt (ng + qb)) = 1 := by omega
                          exact ⟨fun z hz h => Gu.cnt_one e1 hz (show qa < N by omega) h rfl, fun z hz h => Gu.cnt_one e2 hz (show ng + qb < N by omega) h rfl⟩
                        · intro R h1 h2 p hp
                          rcases hp with hp | hp
                          · rcases List.mem_cons.1 hp with rfl | hp
                            · exact hmatch.out R h1 h2
                            · exact hR R h1 h2 p (.inl hp)
                          · rcases List.mem_append.1 hp with hp | hp
                            · exact hR R h1 h2 p (.inr (List.mem_append.2 (.inl hp)))
                            · rw [← hZ] at hp
                              obtain ⟨i, hi⟩ := List.mem_iff_getElem?.1 hp
                              obtain ⟨c, d⟩ := p
                              rw [List.getElem?_zip_eq_some] at hi
                              exact h2.kids qa qb _ _ (hmatch.out R h1 h2) HGq.out.1 HGq.out.2 i c d hi.1 hi.2
                        · exact ⟨hBz.os.trans F9.os, hBz.tape.trans F9.tape, hBz.output.trans F9.output, Nat.le_trans F9.size hBz.size, fun q hq hn => (hBz.block q (by omega)).trans (F9.block q hq hn)⟩
end Go.Proofs.YtkbmkmpoapafaaaDoor
