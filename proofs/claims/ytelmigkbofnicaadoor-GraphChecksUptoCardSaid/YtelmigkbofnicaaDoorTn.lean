/- graph.Trim at a graph that may not be. -/
import Derived.Test.YtelmigkbofnicaaDoorTm
namespace Go.Proofs.YtelmigkbofnicaaDoor
open Go.ChangeShapes Go.WideShapes Go.ChangeAt Go.RowKit
set_option linter.unusedSimpArgs false in
set_option maxHeartbeats 1000000 in
set_option maxRecDepth 100000 in
theorem trim_no (S : Nat → Prop) (vg : Value) (r : Int) (G : List GN) (w : World) (T : TypeId) (ev : Value) (hg : w.cell? ⟨0, 0, none⟩ = some (.iface T ev)) (hgl : 0 < w.heap.size) (hG : GrAt w S vg G) (hS : ∀ b, S b → b < w.heap.size) (sG : Sized G) (hno : ¬ checkG G r = 0) :
    Calls Tryd.prog 11 #[.agg #[vg, .int .i64 r]] w fun e w' => e = .returned (.agg #[.slice none 0 0, .int .i64 0]) ∧ Below w.heap.size w w' := by
  obtain ⟨xg, cg, gg, og, rfl, hxg, hng⟩ := hG.open_
  obtain ⟨n, en⟩ : ∃ n, G.length = n := ⟨_, rfl⟩
  clear hxg hng
  rw [en] at hG ⊢
  obtain ⟨W1, hW1⟩ : ∃ W1, (w.alloc (.cells #[.slice xg n cg, .int .i64 r] 24)).alloc (.cells #[.slice none 0 0, .int .i64 0] 24) = W1 := ⟨_, rfl⟩
  have B1 : Below w.heap.size w W1 := by rw [← hW1]; exact ((Below.refl _ _).alloc (Nat.le_refl _) _).alloc (by simp) _
  have s1 : W1.heap.size = w.heap.size + 2 := by rw [← hW1]; simp
  have b1 : W1.heap[w.heap.size + 1]? = some (.cells #[.slice none 0 0, .int .i64 0] 24) := by rw [← hW1]; exact heap_last (by simp)
  have C1 := Lib.hid (check_any S (.slice xg n cg) r G W1 T ev ((B1.cell (p := ⟨_, 0, none⟩) hgl).trans hg) (by omega) (hG.carry (keeps_of B1 hS) fun _ h => h) (fun b hb => by have := hS b hb; omega) sG)
  have hw := checkG_ways G r
  obtain ⟨c, hc⟩ : ∃ c, checkG G r = c := ⟨_, rfl⟩
  rw [hc] at C1 hw hno
  have HW1 := Lib.hid hW1
  have HB1 := Lib.hid (And.intro B1 b1)
  clear hg hgl hG hS sG B1 b1 hW1 hc
  rcases hw with h | rfl | rfl
  · exact absurd h hno
  all_goals
    clear hno
    go_enter Tryd.func11, Tryd.ntmps11
    refine (fun key => key _ (fun _ _ _ h => h) : (∀ Q : Exit → Act → World → Prop, (∀ x a W, bodyPost Tryd.prog Tryd.f11 (fun e w' => e = .returned (.agg #[.slice none 0 0, .int .i64 0]) ∧ Below w.heap.size w w') x a W → Q x a W) → Code.wp Tryd.prog _ Q _ _) → _) ?_
    intro Q hQ
    have HQ := Lib.hid hQ
    clear hQ
    go_wp2_with fail
    rw [HW1.out]
    refine C1.out.mono ?_
    rintro e2 W2 ⟨rfl, hB2⟩
    have s2 := hB2.size
    have b2 := (hB2.block (w.heap.size + 1) (by omega)).trans HB1.out.2
    have r0 := Lib.cell_of_heap b2 0
    have r1 := Lib.cell_of_heap b2 1
    have fr0 := Lib.frozen_of_heap b2 0
    have fr1 := Lib.frozen_of_heap b2 1
    simp only [List.getElem?_toArray, List.getElem?_cons_zero, List.getElem?_cons_succ] at r0 r1
    have htw2 : w.heap.size + 1 < W2.heap.size := by omega
    have HB2 := Lib.hid (And.intro (HB1.out.1.trans (hB2.mono (by omega))) b2)
    clear hB2 b2 C1 HW1 s1 s2
    go_wp2_with fail
    refine HQ.out _ _ _ ?_
    have g1 := heap_setCell_same W2 (w.heap.size + 1) 0 _ _ (.slice none 0 0) HB2.out.2
    have g2 := heap_setCell_same _ (w.heap.size + 1) 1 _ _ (.int .i64 0) g1
    exact bodyPost_ret (results_graph rfl _ _ (w.heap.size + 1) (.slice none 0 0) (.int .i64 0) rfl (by rw [Lib.cell_of_heap g2]; rfl) (by rw [Lib.cell_of_heap g2]; rfl)) rfl ⟨rfl, (HB2.out.1.setCell (p := ⟨w.heap.size + 1, 0, none⟩) (Nat.le_succ _) _).setCell (p := ⟨w.heap.size + 1, 1, none⟩) (Nat.le_succ _) _⟩
end Go.Proofs.YtelmigkbofnicaaDoor
