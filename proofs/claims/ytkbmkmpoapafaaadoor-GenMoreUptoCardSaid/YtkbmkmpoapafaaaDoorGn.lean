/- gen.check, gen.generic, gen.Fixed, gen.Generic told. -/
import Derived.Test.YtkbmkmpoapafaaaDoorRa
import Derived.Test.YtkbmkmpoapafaaaDoorFg
import Derived.Deep.RegionHeld3
namespace Go.Proofs.YtkbmkmpoapafaaaDoor
open Go.ChangeShapes Go.WideShapes Go.ChangeAt Go.RowKit

/-- May these nodes be told, of that graph? -/
noncomputable def genC (G : List GN) (r : Int) (l : List Int) : Int := if checkG G r = 0 then (if l.all (fun a => decide (0 ≤ a ∧ a < (G.length : Int))) then 0 else 2) else checkG G r
theorem genC_ok {G : List GN} {r : Int} {l : List Int} : genC G r l = 0 ↔ checkG G r = 0 ∧ ∀ a ∈ l, 0 ≤ a ∧ a < (G.length : Int) := by
  unfold genC
  by_cases h : checkG G r = 0
  · rw [if_pos h]
    by_cases h2 : l.all (fun a => decide (0 ≤ a ∧ a < (G.length : Int))) = true
    · rw [if_pos h2]
      simp only [List.all_eq_true, decide_eq_true_eq] at h2
      simp [h]
      exact fun a ha => h2 a ha
    · rw [if_neg h2]
      simp only [List.all_eq_true, decide_eq_true_eq] at h2
      simp only [h, true_and]
      exact ⟨fun h => by omega, fun h => absurd h h2⟩
  · rw [if_neg h]
    exact ⟨fun h2 => absurd h2 h, fun h2 => absurd h2.1 h⟩
theorem genC_ways (G : List GN) (r : Int) (l : List Int) : genC G r l = 0 ∨ genC G r l = 2 ∨ genC G r l = 3 := by
  unfold genC
  have := checkG_ways G r
  by_cases h : checkG G r = 0
  · rw [if_pos h]; split <;> simp
  · rw [if_neg h]; omega
/-- So many of them are nodes. -/
def InR (l : List Int) (n j : Nat) : Prop := ∀ k (h : k < l.length), k < j → 0 ≤ l[k] ∧ l[k] < (n : Int)
set_option linter.unusedSimpArgs false in
set_option maxHeartbeats 1000000 in
set_option maxRecDepth 100000 in
theorem gencheck_any (S : Nat → Prop) (vg vf : Value) (r : Int) (G : List GN) (l : List Int) (w : World) (T : TypeId) (ev : Value) (hg : w.cell? ⟨0, 0, none⟩ = some (.iface T ev)) (hgl : 0 < w.heap.size) (hG : GrAt w S vg G) (hf : Nums w S vf l) (hS : ∀ b, S b → b < w.heap.size) (sG : Sized G) :
    Calls Tryd.prog 23 #[.agg #[vg, .int .i64 r], vf] w fun e w' => e = .returned (.int .i64 (genC G r l)) ∧ Below w.heap.size w w' := by
  have hnl := hf.len
  have hnG := hG.len
  unfold maxLen at hnl hnG
  obtain ⟨xg, cg, gg, og, rfl, -, -⟩ := hG.open_
  obtain ⟨xf, cf, gf, of_, rfl, hxf, hnf⟩ := hf.open_
  obtain ⟨n, en⟩ : ∃ n, G.length = n := ⟨_, rfl⟩
  obtain ⟨m, em⟩ : ∃ n, l.length = n := ⟨_, rfl⟩
  rw [en] at hG hnG ⊢
  rw [em] at hf hxf hnl ⊢
  obtain ⟨W1, hW1⟩ : ∃ W1, w.alloc (.cells #[.slice xg n cg, .int .i64 r] 24) = W1 := ⟨_, rfl⟩
  have B1 : Below w.heap.size w W1 := by rw [← hW1]; exact (Below.refl _ _).alloc (Nat.le_refl _) _
  have s1 : W1.heap.size = w.heap.size + 1 := by rw [← hW1]; simp
  have b1 : W1.heap[w.heap.size]? = some (.cells #[.slice xg n cg, .int .i64 r] 24) := by rw [← hW1]; exact heap_last rfl
  have a0 := Lib.cell_of_heap b1 0
  have a1 := Lib.cell_of_heap b1 1
  simp only [List.getElem?_toArray, List.getElem?_cons_zero, List.getElem?_cons_succ] at a0 a1
  have C1 := Lib.hid (check_any S (.slice xg n cg) r G W1 T ev ((B1.cell (p := ⟨_, 0, none⟩) hgl).trans hg) (by omega) (hG.carry (keeps_of B1 hS) fun _ h => h) (fun b hb => by have := hS b hb; omega) sG)
  have hlt1 : w.heap.size < W1.heap.size := by omega
  have hw := checkG_ways G r
  obtain ⟨R, hR⟩ : ∃ R, genC G r l = R := ⟨_, rfl⟩
  rw [hR]
  have hgC : R = if checkG G r = 0 then (if l.all (fun a => decide (0 ≤ a ∧ a < (n : Int))) then 0 else 2) else checkG G r := by rw [← hR]; unfold genC; rw [en]
  obtain ⟨c, hc⟩ : ∃ c, checkG G r = c := ⟨_, rfl⟩
  rw [hc] at C1 hw hgC
  have HR := Lib.hid hgC
  have HW1 := Lib.hid hW1
  have HB1 := Lib.hid (And.intro B1 (And.intro b1 (And.intro hxf (And.intro hnf (And.intro hS em)))))
  clear hg hgl hG hf hS sG B1 b1 hW1 hxf hnf hc hgC hR s1
  have ha0 := a0
  clear a1
  rcases hw with rfl | rfl | rfl
  rotate_left
  · go_enter Tryd.func23, Tryd.ntmps23
    have a1 := Lib.cell_of_heap HB1.out.2.1 1
    simp only [List.getElem?_toArray, List.getElem?_cons_zero, List.getElem?_cons_succ] at a1
    go_wp2_with fail
    rw [HW1.out]
    refine C1.out.mono ?_
    rintro e2 W2 ⟨rfl, hB2⟩
    have HB2 := Lib.hid (HB1.out.1.trans (hB2.mono HB1.out.1.size))
    clear hB2 C1 HW1
    go_wp2_with fail
    go_ret
    exact ⟨by rw [HR.out]; rfl, HB2.out⟩
  · go_enter Tryd.func23, Tryd.ntmps23
    have a1 := Lib.cell_of_heap HB1.out.2.1 1
    simp only [List.getElem?_toArray, List.getElem?_cons_zero, List.getElem?_cons_succ] at a1
    go_wp2_with fail
    rw [HW1.out]
    refine C1.out.mono ?_
    rintro e2 W2 ⟨rfl, hB2⟩
    have HB2 := Lib.hid (HB1.out.1.trans (hB2.mono HB1.out.1.size))
    clear hB2 C1 HW1
    go_wp2_with fail
    go_ret
    exact ⟨by rw [HR.out]; rfl, HB2.out⟩
  · go_enter Tryd.func23, Tryd.ntmps23
    have a1 := Lib.cell_of_heap HB1.out.2.1 1
    simp only [List.getElem?_toArray, List.getElem?_cons_zero, List.getElem?_cons_succ] at a1
    go_wp2_with fail
    rw [HW1.out]
    refine C1.out.mono ?_
    rintro e2 W2 ⟨rfl, hB2⟩
    have s2 := hB2.size
    have HB2 := Lib.hid (And.intro (HB1.out.1.trans (hB2.mono HB1.out.1.size)) ((hB2.block w.heap.size hlt1).trans HB1.out.2.1))
    clear hB2 C1 HW1 a0 a1 ha0
    go_wp2_with fail
    go_loopg [15] m (fun gk i wr => ∃ j : Nat, gk = m - j ∧ i = .int .i64 (j : Int) ∧ j ≤ m ∧ InR l n j ∧ Below W2.heap.size W2 wr)
    case atStart => exact ⟨0, by simp, by first | rfl | simp, Nat.zero_le _, fun _ _ h => absurd h (by omega), Below.refl _ _⟩
    case round =>
      obtain ⟨j, rfl, rfl, hj, hall, hBr⟩ := hrel
      obtain ⟨wy, rfl⟩ : ∃ wy, wy = wr := ⟨_, rfl⟩
      have sr := hBr.size
      have a0 := Lib.cell_of_heap ((hBr.block w.heap.size (by omega)).trans HB2.out.2) 0
      have HBR := Lib.hid (And.intro hBr (HB2.out.1.trans (hBr.mono (by omega))))
      clear hBr
      simp only [List.getElem?_toArray, List.getElem?_cons_zero, List.getElem?_cons_succ] at a0
      have hww : w.heap.size < wy.heap.size := by omega
      have HA := Lib.hid hall
      clear hall
      by_cases hlt : j < m
      · have hi' : (j : Int) < (m : Int) := by omega
        obtain ⟨B1, b1, hxf, hnf, hS, em⟩ := HB1.out
        obtain ⟨rfl, u1, u2, u3⟩ := hxf (by omega)
        unfold maxLen at u2
        have hgw := hS gf u3
        have hjl : j < l.length := by omega
        have e1 := (World.cell?_of_block (a := ⟨gf, of_ + j, none⟩) (HBR.out.2.block gf hgw)).trans (hnf j hjl)
        obtain ⟨z, hz⟩ : ∃ z, l[j] = z := ⟨_, rfl⟩
        rw [hz] at e1
        have hgw2 : gf < wy.heap.size := by omega
        have HZ := Lib.hid (And.intro hz hjl)
        clear hxf hnf hS B1 b1 hz u3 em
        by_cases h0 : z < 0
        · go_wp2_with fail
          go_ret
          have hv : R = 2 := by
            rw [HR.out]; simp only [if_true]; rw [if_neg]
            intro h
            have := List.all_eq_true.1 h l[j] (List.getElem_mem _)
            rw [HZ.out.1] at this
            simp at this
            omega
          exact ⟨by rw [hv]; rfl, HBR.out.2⟩
        · by_cases h1 : (n : Int) ≤ z
          · go_wp2_with fail
            go_ret
            have hv : R = 2 := by
              rw [HR.out]; simp only [if_true]; rw [if_neg]
              intro h
              have := List.all_eq_true.1 h l[j] (List.getElem_mem _)
              rw [HZ.out.1] at this
              simp at this
              omega
            exact ⟨by rw [hv]; rfl, HBR.out.2⟩
          · go_wp2_with fail
            go_roundg (m - (j + 1))
            case measure => omega
            case rel =>
              refine ⟨j + 1, rfl, by first | rfl | simp, hlt, fun k hk hkj => ?_, HBR.out.1⟩
              rcases Nat.lt_or_ge k j with h | h
              · exact HA.out k hk h
              · obtain rfl : k = j := by omega
                rw [HZ.out.1]; omega
      · have hi' : ¬ (j : Int) < (m : Int) := by omega
        go_wp2_with fail
        go_ret
        have hv : R = 0 := by
          rw [HR.out]; simp only [if_true]; rw [if_pos]
          rw [List.all_eq_true]
          intro x hx
          obtain ⟨k, hk, rfl⟩ := List.mem_iff_getElem.1 hx
          simpa using HA.out k hk (by have := HB1.out.2.2.2.2.2; omega)
        exact ⟨by rw [hv]; rfl, HBR.out.2⟩
end Go.Proofs.YtkbmkmpoapafaaaDoor
