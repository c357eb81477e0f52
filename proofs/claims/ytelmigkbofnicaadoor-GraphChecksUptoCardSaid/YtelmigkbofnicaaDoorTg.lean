/- graph.Trim at a graph that may be. -/
import Derived.Test.YtelmigkbofnicaaDoorTp
namespace Go.Proofs.YtelmigkbofnicaaDoor
open Go.ChangeShapes Go.WideShapes Go.ChangeAt Go.RowKit
set_option linter.unusedSimpArgs false in
set_option maxHeartbeats 1000000 in
set_option maxRecDepth 100000 in
theorem trim_apart (S : Nat → Prop) (vg : Value) (r : Int) (G : List GN) (w : World) (T : TypeId) (ev : Value) (hg : w.cell? ⟨0, 0, none⟩ = some (.iface T ev)) (hgl : 0 < w.heap.size) (hG : GrAt w S vg G) (hS : ∀ b, S b → b < w.heap.size) (sG : Sized G) (lG : G.length ≤ 2000) (aG : ∀ x ∈ G, x.args.length ≤ 2000) (hok : checkG G r = 0) :
    Calls Tryd.prog 11 #[.agg #[vg, .int .i64 r]] w fun e w' => ∃ x m c, e = .returned (.agg #[.slice x m c, .int .i64 0]) ∧ m = (trimL G (reachL G r.toNat)).length ∧ GrApart w' w.heap.size (.slice x m c) (trimL G (reachL G r.toNat)) ∧ Below w.heap.size w w' := by
  obtain ⟨xg, cg, gg, og, rfl, hxg, hng⟩ := hG.open_
  obtain ⟨n, en⟩ : ∃ n, G.length = n := ⟨_, rfl⟩
  clear hxg hng
  have hG0 := hG
  rw [en] at hG ⊢
  obtain ⟨TL, hTL⟩ : ∃ TL, trimL G (reachL G r.toNat) = TL := ⟨_, rfl⟩
  have HR : Hid (∀ W, Below w.heap.size w W → Calls Tryd.prog 23 #[.agg #[.slice xg n cg, .int .i64 r]] W fun e w' => ∃ x m c, e = .returned (.agg #[.slice x m c, .int .i64 0]) ∧ m = TL.length ∧ GrApart w' W.heap.size (.slice x m c) TL ∧ Below W.heap.size W w') := Lib.hid fun W hW => by
    refine (trim_walk S (.slice xg n cg) r G W hok (hG.carry (keeps_of hW hS) fun _ h => h) (fun b hb => Nat.lt_of_lt_of_le (hS b hb) hW.size) sG lG aG).mono ?_
    rintro e w' ⟨v, rfl, h1, h2⟩
    rw [hTL] at h1
    obtain ⟨x, c, g, o, rfl, _, _⟩ := h1.gr.open_
    exact ⟨x, _, c, rfl, rfl, h1, h2⟩
  rw [hTL]
  obtain ⟨W1, hW1⟩ : ∃ W1, (w.alloc (.cells #[.slice xg n cg, .int .i64 r] 24)).alloc (.cells #[.slice none 0 0, .int .i64 0] 24) = W1 := ⟨_, rfl⟩
  have B1 : Below w.heap.size w W1 := by rw [← hW1]; exact ((Below.refl _ _).alloc (Nat.le_refl _) _).alloc (by simp) _
  have s1 : W1.heap.size = w.heap.size + 2 := by rw [← hW1]; simp
  have b0 : W1.heap[w.heap.size]? = some (.cells #[.slice xg n cg, .int .i64 r] 24) := by rw [← hW1, heap_old (by simp)]; exact heap_last rfl
  have b1 : W1.heap[w.heap.size + 1]? = some (.cells #[.slice none 0 0, .int .i64 0] 24) := by rw [← hW1]; exact heap_last (by simp)
  have C1 := Lib.hid (check_any S (.slice xg n cg) r G W1 T ev ((B1.cell (p := ⟨_, 0, none⟩) hgl).trans hg) (by omega) (hG.carry (keeps_of B1 hS) fun _ h => h) (fun b hb => by have := hS b hb; omega) sG)
  rw [hok] at C1
  have HW1 := Lib.hid hW1
  have HB1 := Lib.hid (And.intro B1 (And.intro b0 b1))
  clear hg hgl hG hG0 hS sG aG B1 b0 b1 hW1 hTL
  go_enter Tryd.func11, Tryd.ntmps11
  refine (fun key => key _ (fun _ _ _ h => h) : (∀ Q : Exit → Act → World → Prop, (∀ x a W, bodyPost Tryd.prog Tryd.f11 (fun e w' => ∃ x m c, e = .returned (.agg #[.slice x m c, .int .i64 0]) ∧ m = TL.length ∧ GrApart w' w.heap.size (.slice x m c) TL ∧ Below w.heap.size w w') x a W → Q x a W) → Code.wp Tryd.prog _ Q _ _) → _) ?_
  intro Q hQ
  have HQ := Lib.hid hQ
  clear hQ
  go_wp2_with fail
  rw [HW1.out]
  refine C1.out.mono ?_
  rintro e2 W2 ⟨rfl, hB2⟩
  have s2 := hB2.size
  have a0 := Lib.cell_of_heap ((hB2.block w.heap.size (by omega)).trans HB1.out.2.1) 0
  have a1 := Lib.cell_of_heap ((hB2.block w.heap.size (by omega)).trans HB1.out.2.1) 1
  simp only [List.getElem?_toArray, List.getElem?_cons_zero, List.getElem?_cons_succ] at a0 a1
  have htw2 : w.heap.size < W2.heap.size := by omega
  have HB2 := Lib.hid (And.intro (HB1.out.1.trans (hB2.mono (by omega))) (And.intro ((hB2.block (w.heap.size + 1) (by omega)).trans HB1.out.2.2) (show w.heap.size + 1 < W2.heap.size by omega)))
  clear hB2 C1 HW1 s1 s2
  go_wp2_with fail
  refine (HR.out W2 HB2.out.1).mono ?_
  rintro e3 W3 ⟨x3, n3, c3, rfl, hm, hr, hB3⟩
  have hb3 := (hB3.block (w.heap.size + 1) HB2.out.2.2).trans HB2.out.2.1
  have r0 := Lib.cell_of_heap hb3 0
  have r1 := Lib.cell_of_heap hb3 1
  have fr0 := Lib.frozen_of_heap hb3 0
  have fr1 := Lib.frozen_of_heap hb3 1
  simp only [List.getElem?_toArray, List.getElem?_cons_zero, List.getElem?_cons_succ] at r0 r1
  have htw3 : w.heap.size + 1 < W3.heap.size := by have := HB2.out.2.2; have := hB3.size; omega
  have H3 := Lib.hid (And.intro hm (And.intro hr (And.intro hB3 hb3)))
  clear hm hr hB3 hb3 a0 a1 htw2
  go_wp2_with fail
  refine HQ.out _ _ _ ?_
  obtain ⟨hm, hr, hB3, hb3⟩ := H3.out
  have g1 := heap_setCell_same W3 (w.heap.size + 1) 0 _ _ (.slice x3 n3 c3) hb3
  have g2 := heap_setCell_same _ (w.heap.size + 1) 1 _ _ (.int .i64 0) g1
  obtain ⟨W9, hW9⟩ : ∃ W9, (W3.setCell ⟨w.heap.size + 1, 0, none⟩ (.slice x3 n3 c3)).setCell ⟨w.heap.size + 1, 1, none⟩ (.int .i64 0) = W9 := ⟨_, rfl⟩
  rw [hW9] at g2 ⊢
  have k : ∀ b, b ≠ w.heap.size + 1 → W9.heap[b]? = W3.heap[b]? := fun b hb => by
    rw [← hW9]
    exact (heap_setCell_other _ ⟨w.heap.size + 1, 1, none⟩ b _ hb).trans (heap_setCell_other _ ⟨w.heap.size + 1, 0, none⟩ b _ hb)
  have s9 : W9.heap.size = W3.heap.size := by rw [← hW9]; simp
  have B3 := HB2.out.1.trans (hB3.mono HB2.out.1.size)
  have B9 : Below w.heap.size w W9 := by rw [← hW9]; exact (B3.setCell (p := ⟨w.heap.size + 1, 0, none⟩) (Nat.le_succ _) _).setCell (p := ⟨w.heap.size + 1, 1, none⟩) (Nat.le_succ _) _
  have s2 := HB2.out.2.2
  exact bodyPost_ret (results_graph rfl _ _ (w.heap.size + 1) (.slice x3 n3 c3) (.int .i64 0) rfl (by rw [Lib.cell_of_heap g2]; rfl) (by rw [Lib.cell_of_heap g2]; rfl)) rfl ⟨x3, n3, c3, rfl, hm, hr.carry (fun b hb _ => k b (by omega)) (by omega) (by omega), B9⟩
theorem trim_any (S : Nat → Prop) (vg : Value) (r : Int) (G : List GN) (w : World) (T : TypeId) (ev : Value) (hg : w.cell? ⟨0, 0, none⟩ = some (.iface T ev)) (hgl : 0 < w.heap.size) (hG : GrAt w S vg G) (hS : ∀ b, S b → b < w.heap.size) (sG : Sized G) (lG : G.length ≤ 2000) (aG : ∀ x ∈ G, x.args.length ≤ 2000) (hok : checkG G r = 0) :
    Calls Tryd.prog 11 #[.agg #[vg, .int .i64 r]] w fun e w' => ∃ x m c, e = .returned (.agg #[.slice x m c, .int .i64 0]) ∧ m = (trimL G (reachL G r.toNat)).length ∧ GrAt w' (fun b => w.heap.size ≤ b ∧ b < w'.heap.size) (.slice x m c) (trimL G (reachL G r.toNat)) ∧ Below w.heap.size w w' :=
  (trim_apart S vg r G w T ev hg hgl hG hS sG lG aG hok).mono fun _ _ ⟨x, m, c, h1, h2, h3, h4⟩ => ⟨x, m, c, h1, h2, h3.gr, h4⟩
end Go.Proofs.YtelmigkbofnicaaDoor
