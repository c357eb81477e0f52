/- trefoilref06.Reach told. -/
import Derived.Test.YtelmigkbofnicaaDoorVs
import Derived.Test.YtelmigkbofnicaaDoorRk
import Derived.Test.YtelmigkbofnicaaDoorRg
import Derived.Deep.RegionWith
namespace Go.Proofs.YtelmigkbofnicaaDoor
open Go.ChangeShapes Go.WideShapes Go.ChangeAt Go.RowKit

theorem metr_made (W : World) (n : Nat) (T : TypeId) : MetR (W.alloc (.cells (madeCells #[.bool false] n) T)) W.heap.size n fun _ => false :=
  ⟨_, T, heap_last rfl, fun i hi => by simp [madeCells, hi, Nat.mod_one]⟩
set_option linter.unusedSimpArgs false in
set_option maxHeartbeats 4000000 in
set_option maxRecDepth 100000 in
theorem refreach_any (S : Nat → Prop) (vg : Value) (r : Int) (G : List GN) (w : World) (hG : GrAt w S vg G) (hS : ∀ b, S b → b < w.heap.size) (sG : Sized G) (lG : G.length ≤ 2000) (aG : ∀ x ∈ G, x.args.length ≤ 2000) :
    Calls Tryd.prog 17 #[.agg #[vg, .int .i64 r]] w fun e w' => ∃ v, e = .returned v ∧ w'.ownsRow w.heap.size 3 1 v (reachG G r).length (nums (reachG G r)) ∧ Below w.heap.size w w' := by
  obtain ⟨xg, cg, gg, og, rfl, hxg, hng⟩ := hG.open_
  clear hxg hng
  obtain ⟨n, en⟩ : ∃ n, G.length = n := ⟨_, rfl⟩
  rw [en] at hG lG ⊢
  have B0 : Below w.heap.size w (w.alloc (.cells #[.slice xg n cg, .int .i64 r] 24)) := (Below.refl _ _).alloc (Nat.le_refl _) _
  have hXG : ∀ V, Below w.heap.size w V → GrAt V S (.slice xg n cg) G ∧ (∀ b, S b → b < V.heap.size) := fun V hV =>
    ⟨hG.carry (keeps_of hV hS) fun _ h => h, fun b hb => Nat.lt_of_lt_of_le (hS b hb) hV.size⟩
  have h1 := hXG _ B0
  have C1 := Lib.hid (refcheck_any S (.slice xg n cg) r G _ h1.1 h1.2 sG)
  have H := Lib.hid (And.intro hXG (And.intro aG (And.intro B0 (And.intro en hS))))
  have hb1 : Hid ((w.alloc (.cells #[.slice xg n cg, .int .i64 r] 24)).heap[w.heap.size]? = some (.cells #[.slice xg n cg, .int .i64 r] 24)) := Lib.hid (heap_last rfl)
  clear hG hS sG aG hXG h1 B0
  by_cases hk : checkG G r = 0
  · have hin := inside_iff.1 (checkG_ok.1 hk).2.1
    rw [en] at hin
    obtain ⟨rn, rfl⟩ : ∃ rn : Nat, r = (rn : Int) := ⟨r.toNat, by omega⟩
    have hrn : rn < n := by omega
    have HR : Hid (reachG G rn = Gu.visitL (argsOf G) n rn []) := Lib.hid (by
      rw [visit_reach hk H.out.2.1 (by omega)]
      unfold reachG; rw [if_pos hk]; rfl)
    have HK := Lib.hid hk
    rw [hk] at C1
    have hmk := run_make_row' (P := Tryd.prog) 47 4 (.bool false) 1 Tryd.underlying47 boolInfo rfl .i64 .i64 n (by omega) (by omega)
    clear hk hin en
    go_enter Tryd.func17, Tryd.ntmps17
    go_wp2_with fail
    refine C1.out.mono ?_
    rintro e1 W1 ⟨rfl, hB1⟩
    have hs1 := hB1.size
    simp only [World.size_alloc] at hs1
    have hb2 := (hB1.block w.heap.size (by simp)).trans hb1.out
    have c0 := Lib.cell_of_heap hb2 0
    have c1 := Lib.cell_of_heap hb2 1
    simp only [List.getElem?_toArray, List.getElem?_cons_zero, List.getElem?_cons_succ] at c0 c1
    have hB2 := H.out.2.2.1.trans (hB1.mono (by simp))
    have hww : w.heap.size < W1.heap.size := by omega
    have B3 : Below w.heap.size w ((W1.alloc (.cells (madeCells #[.bool false] n) 4)).drew) := (hB2.alloc (by omega) _).drew
    have gr := H.out.1 _ B3
    have CV := Lib.hid (visit_any S xg n cg rn G H.out.2.2.2.1 HK.out H.out.2.1 lG (W1.heap.size + 1) W1.heap.size n (by omega) (fun b hb => by have := H.out.2.2.2.2 b hb; omega) (Nat.le_refl _) (by unfold maxLen; omega) n rn [] (.slice none 0 0) _ hrn ⟨List.nodup_nil, fun x hx => by cases hx⟩ (by simp) gr.1 ((metr_made W1 n 4).of rfl) (World.ownsRow_nil _ _ _ _) (by rw [World.size_drew, World.size_alloc]; omega))
    have HB3 := Lib.hid B3
    clear hB1 hB2 hb2 B3 gr
    go_wp2_with fail
    go_region_with (first | (go_at_call 29; (with_reducible refine CV.out.mono ?_); (rintro e2 W2 ⟨v2, rfl, ho2, hm2, hv2, -⟩); (have H2 := Lib.hid (And.intro ho2 hv2)); clear ho2 hm2 hv2))
    all_goals
      go_wp2_with fail
      go_ret
      refine ⟨v2, rfl, ?_, ?_⟩
      · rw [HR.out]
        exact own_base H2.out.1 (by omega)
      · have hv := H2.out.2
        have hz := hv.size
        rw [World.size_drew, World.size_alloc] at hz
        exact ⟨hv.os.trans HB3.out.os, hv.tape.trans HB3.out.tape, hv.output.trans HB3.out.output, by omega, fun q hq => (hv.block q (by rw [World.size_drew, World.size_alloc]; omega) (by omega) (fun h => by cases h)).trans (HB3.out.block q hq)⟩
  · have HR : Hid (reachG G r = []) := Lib.hid (by unfold reachG; rw [if_neg hk])
    have hway := checkG_ways G r
    obtain ⟨k, hkk⟩ : ∃ k, checkG G r = k := ⟨_, rfl⟩
    rw [hkk] at C1 hk hway
    clear hkk
    rcases hway with rfl | rfl | rfl
    · exact absurd rfl hk
    all_goals
      go_enter Tryd.func17, Tryd.ntmps17
      go_wp2_with fail
      refine C1.out.mono ?_
      rintro e1 W1 ⟨rfl, hB1⟩
      have HB1 := Lib.hid (H.out.2.2.1.trans (hB1.mono (by simp)))
      clear hB1
      go_wp2_with fail
      go_ret
      refine ⟨_, rfl, ?_, HB1.out⟩
      rw [HR.out]
      exact World.ownsRow_nil _ _ _ _
end Go.Proofs.YtelmigkbofnicaaDoor
