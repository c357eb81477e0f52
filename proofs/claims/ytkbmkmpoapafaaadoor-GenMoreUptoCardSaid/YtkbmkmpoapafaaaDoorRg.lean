/- graph.Reach told. -/
import Derived.Test.YtkbmkmpoapafaaaDoorRh
namespace Go.Proofs.YtkbmkmpoapafaaaDoor
open Go.ChangeShapes Go.WideShapes Go.ChangeAt Go.RowKit

theorem own_base {W : World} {b b' : Nat} {e : TypeId} {size : Nat} {v : Value} {n : Nat} {xs : List Value} (h : W.ownsRow b' e size v n xs) (hb : b ≤ b') : W.ownsRow b e size v n xs := by
  refine ⟨h.1, ?_⟩
  rcases h.2 with h0 | ⟨g, cap, cur, h1, h2, h3⟩
  · exact .inl h0
  · exact .inr ⟨g, cap, cur, h1, by omega, h3⟩
/-- The nodes reached, none where the graph isn't one. -/
noncomputable def reachG (G : List GN) (r : Int) : List Nat := if checkG G r = 0 then reachL G r.toNat else []

set_option maxHeartbeats 1000000 in
set_option maxRecDepth 100000 in
theorem reach_any (S : Nat → Prop) (vg : Value) (r : Int) (G : List GN) (w : World) (T : TypeId) (ev : Value) (hg : w.cell? ⟨0, 0, none⟩ = some (.iface T ev)) (hgl : 0 < w.heap.size) (hG : GrAt w S vg G) (hS : ∀ b, S b → b < w.heap.size) (sG : Sized G) (lG : G.length ≤ 2000) (aG : ∀ x ∈ G, x.args.length ≤ 2000) :
    Calls Tryd.prog 26 #[.agg #[vg, .int .i64 r]] w fun e w' => ∃ v, e = .returned v ∧ w'.ownsRow w.heap.size 3 1 v (reachG G r).length (nums (reachG G r)) ∧ Below w.heap.size w w' := by
  obtain ⟨xg, cg, gg, og, rfl, hxg, hng⟩ := hG.open_
  clear hxg hng
  obtain ⟨n, en⟩ : ∃ n, G.length = n := ⟨_, rfl⟩
  rw [en] at hG ⊢
  have B0 : Below w.heap.size w (w.alloc (.cells #[.slice xg n cg, .int .i64 r] 24)) := (Below.refl _ _).alloc (Nat.le_refl _) _
  have hXG : ∀ V, Below w.heap.size w V → GrAt V S (.slice xg n cg) G ∧ (∀ b, S b → b < V.heap.size) ∧ V.cell? ⟨0, 0, none⟩ = some (.iface T ev) ∧ 0 < V.heap.size := fun V hV =>
    ⟨hG.carry (keeps_of hV hS) fun _ h => h, fun b hb => Nat.lt_of_lt_of_le (hS b hb) hV.size, (hV.cell (p := ⟨_, 0, none⟩) hgl).trans hg, Nat.lt_of_lt_of_le hgl hV.size⟩
  have h1 := hXG _ B0
  have C1 := Lib.hid (check_any S (.slice xg n cg) r G _ T ev h1.2.2.1 h1.2.2.2 h1.1 h1.2.1 sG)
  have H := Lib.hid (And.intro hXG (And.intro lG (And.intro aG B0)))
  have hb1 : Hid ((w.alloc (.cells #[.slice xg n cg, .int .i64 r] 24)).heap[w.heap.size]? = some (.cells #[.slice xg n cg, .int .i64 r] 24)) := Lib.hid (heap_last rfl)
  clear hg hgl hG hS sG lG aG hXG h1 B0
  by_cases hk : checkG G r = 0
  · have hin := inside_iff.1 (checkG_ok.1 hk).2.1
    obtain ⟨rn, rfl⟩ : ∃ rn : Nat, r = (rn : Int) := ⟨r.toNat, by omega⟩
    have HR : Hid (reachG G rn = reachL G rn) := Lib.hid (by unfold reachG; rw [if_pos hk]; rfl)
    have C2 : Hid (∀ W1, Below w.heap.size w W1 → Calls Tryd.prog 41 #[.agg #[.slice xg n cg, .int .i64 (rn : Int)]] W1 (reachGives G rn W1)) := Lib.hid fun W1 hB => reach_walk S _ rn G W1 (H.out.1 W1 hB).1 (H.out.1 W1 hB).2.1 hk H.out.2.1 H.out.2.2.1
    rw [hk] at C1
    clear hk hin
    go_enter Tryd.func26, Tryd.ntmps26
    go_wp2_with fail
    refine C1.out.mono ?_
    rintro e1 W1 ⟨rfl, hB1⟩
    have hs1 := hB1.size
    simp only [World.size_alloc] at hs1
    have hb2 := (hB1.block w.heap.size (by simp)).trans hb1.out
    have c0 := Lib.cell_of_heap hb2 0
    have c1 := Lib.cell_of_heap hb2 1
    simp only [List.getElem?_toArray, List.getElem?_cons_zero, List.getElem?_cons_succ] at c0 c1
    have hB2 := H.out.2.2.2.trans (hB1.mono (by simp))
    have HB1 := Lib.hid hB2
    clear hB1 hB2 hb2
    go_wp2_with fail
    refine (C2.out _ HB1.out).mono ?_
    rintro e2 W2 ⟨v2, rfl, ho2, hB2⟩
    have H2 := Lib.hid (And.intro ho2 hB2)
    clear ho2 hB2
    go_wp2_with fail
    go_ret
    refine ⟨v2, rfl, ?_, HB1.out.trans (H2.out.2.mono HB1.out.size)⟩
    rw [HR.out]
    exact own_base H2.out.1 HB1.out.size
  · have HR : Hid (reachG G r = []) := Lib.hid (by unfold reachG; rw [if_neg hk])
    have hway := checkG_ways G r
    obtain ⟨k, hkk⟩ : ∃ k, checkG G r = k := ⟨_, rfl⟩
    rw [hkk] at C1 hk hway
    clear hkk
    rcases hway with rfl | rfl | rfl
    · exact absurd rfl hk
    all_goals
      go_enter Tryd.func26, Tryd.ntmps26
      go_wp2_with fail
      refine C1.out.mono ?_
      rintro e1 W1 ⟨rfl, hB1⟩
      have HB1 := Lib.hid (H.out.2.2.2.trans (hB1.mono (by simp)))
      clear hB1
      go_wp2_with fail
      go_ret
      refine ⟨_, rfl, ?_, HB1.out⟩
      rw [HR.out]
      exact World.ownsRow_nil _ _ _ _
end Go.Proofs.YtkbmkmpoapafaaaDoor
