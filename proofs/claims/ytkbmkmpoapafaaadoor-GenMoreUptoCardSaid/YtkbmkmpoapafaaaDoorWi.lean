/- trefoillaw13.good; the function within of GenMore, at numbers that are all there. -/
import Derived.Test.YtkbmkmpoapafaaaDoorGg
import Derived.Test.YtkbmkmpoapafaaaDoorMb
import Derived.Test.YtkbmkmpoapafaaaDoorZn
import Derived.Test.YtkbmkmpoapafaaaDoorRh
namespace Go.Proofs.YtkbmkmpoapafaaaDoor
open Go.ChangeShapes Go.WideShapes Go.ChangeAt Go.RowKit

set_option linter.unusedSimpArgs false in
set_option maxHeartbeats 1000000 in
set_option maxRecDepth 100000 in
theorem good_any (S : Nat → Prop) (vg vf : Value) (r most : Int) (G : List GN) (l : List Int) (w : World) (hG : GrAt w S vg G) (hf : Nums w S vf l) (hS : ∀ b, S b → b < w.heap.size) (hb : greatN G ≤ 4611686018427387904) :
    Calls Tryd.prog 8 #[.agg #[vg, .int .i64 r], vf, .int .i64 most] w fun e w' => e = .returned (.bool (decide ((greatN G : Int) ≤ most) && decide (l.length ≤ 60))) ∧ Below w.heap.size w w' := by
  have hnl := hf.len
  unfold maxLen at hnl
  obtain ⟨xg, cg, gg, og, rfl, -, -⟩ := hG.open_
  obtain ⟨xf, cf, gf, of_, rfl, -, -⟩ := hf.open_
  obtain ⟨n, en⟩ : ∃ n, G.length = n := ⟨_, rfl⟩
  obtain ⟨m, em⟩ : ∃ n, l.length = n := ⟨_, rfl⟩
  rw [en] at hG ⊢
  rw [em] at hnl ⊢
  obtain ⟨W1, hW1⟩ : ∃ W1, w.alloc (.cells #[.slice xg n cg, .int .i64 r] 24) = W1 := ⟨_, rfl⟩
  have B1 : Below w.heap.size w W1 := by rw [← hW1]; exact (Below.refl _ _).alloc (Nat.le_refl _) _
  have C1 := Lib.hid (great_any S (.slice xg n cg) r G W1 (hG.carry (keeps_of B1 hS) fun _ h => h) (fun b hb => Nat.lt_of_lt_of_le (hS b hb) B1.size) hb)
  obtain ⟨R, hR⟩ : ∃ R, (decide ((greatN G : Int) ≤ most) && decide (m ≤ 60)) = R := ⟨_, rfl⟩
  rw [hR]
  obtain ⟨gn, hgn⟩ : ∃ k, greatN G = k := ⟨_, rfl⟩
  rw [hgn] at C1 hR
  have HR := Lib.hid hR
  have HW1 := Lib.hid hW1
  have HB := Lib.hid B1
  clear hG hf hS hb hW1 B1 hR hgn
  go_enter Tryd.func8, Tryd.ntmps8
  go_wp2_with fail
  rw [HW1.out]
  refine C1.out.mono ?_
  rintro e2 W2 ⟨rfl, hB2⟩
  have HB2 := Lib.hid (HB.out.trans (hB2.mono HB.out.size))
  clear hB2 C1 HW1
  by_cases h1 : (gn : Int) ≤ most
  · by_cases h2 : m ≤ 60
    · have h3 : (m : Int) ≤ 60 := by omega
      have HV : Hid (R = true) := Lib.hid (by rw [← HR.out, decide_eq_true h1, decide_eq_true h2]; rfl)
      go_wp2_with fail
      go_ret
      exact ⟨by rw [HV.out]; first | rfl | (show Ending.returned (.bool (decide ((m : Int) ≤ 60))) = _; rw [decide_eq_true (by omega)]), HB2.out⟩
    · have h3 : ¬ (m : Int) ≤ 60 := by omega
      have HV : Hid (R = false) := Lib.hid (by rw [← HR.out, decide_eq_true h1, decide_eq_false h2]; rfl)
      go_wp2_with fail
      go_ret
      exact ⟨by rw [HV.out]; first | rfl | (show Ending.returned (.bool (decide ((m : Int) ≤ 60))) = _; rw [decide_eq_false (by omega)]), HB2.out⟩
  · have HV : Hid (R = false) := Lib.hid (by rw [← HR.out, decide_eq_false h1]; rfl)
    go_wp2_with fail
    go_ret
    exact ⟨by rw [HV.out]; rfl, HB2.out⟩
theorem contains_step {L : List Nat} {j q : Nat} (h : L[j]? = some q) (k : Nat) : (L.take (j + 1)).contains k = (k == q || (L.take j).contains k) := by
  rw [List.take_add_one, h]
  simp only [Option.toList]
  rw [Bool.eq_iff_iff]
  simp [or_comm]
set_option linter.unusedSimpArgs false in
set_option maxHeartbeats 2000000 in
set_option maxRecDepth 100000 in
theorem within_any (S : Nat → Prop) (vx vy : Value) (X Y : List Nat) (w : World) (hx : Nums w S vx (X.map fun i : Nat => (i : Int))) (hy : Nums w S vy (Y.map fun i : Nat => (i : Int))) (hS : ∀ b, S b → b < w.heap.size) (hX : ∀ a ∈ X, a ∈ Y) (hY : ∀ a ∈ Y, a ≤ 1000000) (lY : Y.length ≤ 1000000) :
    Calls Tryd.prog 17 #[vx, vy] w fun e w' => e = .returned (.bool true) ∧ Below w.heap.size w w' := by
  have hlx := hx.len
  unfold maxLen at hlx
  obtain ⟨xx, cx, gx, ox, rfl, hxx, hnx⟩ := hx.open_
  obtain ⟨xy, cy, gy, oy, rfl, hxy, hny⟩ := hy.open_
  simp only [List.length_map] at hlx hxx hxy hnx hny ⊢
  obtain ⟨nx, enx⟩ : ∃ n, X.length = n := ⟨_, rfl⟩
  obtain ⟨ny, eny⟩ : ∃ n, Y.length = n := ⟨_, rfl⟩
  rw [enx] at hxx hlx ⊢
  rw [eny] at hxy lY ⊢
  have hmm := @run_makeMap Tryd.prog
  have H := Lib.hid (And.intro hxx (And.intro hnx (And.intro hxy (And.intro hny (And.intro hS (And.intro hX (And.intro hY (And.intro enx eny))))))))
  clear hx hy hxx hnx hxy hny hS hX hY enx eny
  go_enter Tryd.func17, Tryd.ntmps17
  go_wp2_with fail
  clear hmm
  obtain ⟨W1, hW1⟩ : ∃ W1, w.alloc (.map #[] 0) = W1 := ⟨_, rfl⟩
  have B1 : Below w.heap.size w W1 := by rw [← hW1]; exact (Below.refl _ _).alloc (Nat.le_refl _) _
  have M1 : Met W1 w.heap.size 0 (fun _ => false) := by rw [← hW1]; exact met_made w
  rw [hW1]
  clear hW1
  go_loopg [13] ny (fun gk i wr => ∃ (j : Nat) (f : Nat → Bool), gk = ny - j ∧ i = .int .i64 (j : Int) ∧ j ≤ ny ∧ Met wr w.heap.size j f ∧ Hid (∀ k, f k = (Y.take j).contains k) ∧ Below w.heap.size w wr)
  case atStart => exact ⟨0, _, by simp, by first | rfl | simp, Nat.zero_le _, M1, Lib.hid fun _ => by simp, B1⟩
  case round =>
    clear M1 B1
    obtain ⟨j, f, rfl, rfl, hj, hM, hf, hB⟩ := hrel
    obtain ⟨wz, rfl⟩ : ∃ wz, wz = wr := ⟨_, rfl⟩
    by_cases hlt : j < ny
    · have hi' : (j : Int) < (ny : Int) := by omega
      obtain ⟨hxx, hnx, hxy, hny, hS, hX, hY, enx, eny⟩ := H.out
      obtain ⟨rfl, u1, u2, u3⟩ := hxy (by omega)
      unfold maxLen at u2
      have hjY : j < Y.length := by omega
      have hgw := hS gy u3
      have e1 := (World.cell?_of_block (a := ⟨gy, oy + j, none⟩) (hB.block gy hgw)).trans (hny j hjY)
      obtain ⟨q, hq⟩ : ∃ q, Y[j] = q := ⟨_, rfl⟩
      rw [List.getElem_map, hq] at e1
      have hq1 : q ≤ 4611686018427387904 := by have := hY q (by rw [← hq]; exact List.getElem_mem _); omega
      have hgw2 : gy < wz.heap.size := by have := hB.size; omega
      have HM := Lib.hid (And.intro hM (And.intro hf (And.intro hB (show Y[j]? = some q by rw [List.getElem?_eq_getElem hjY, hq]))))
      clear hM hf hB hxx hnx hxy hny hS hX hY enx eny hq u3
      go_wp2_with (at_mapUpdate; (refine wpList_met_put rfl (.tmp 17) (.tmp 18) _ rfl HM.out.1 (by unfold maxLen; omega) rfl rfl hq1 rfl ?_); (intro w8 hm8 hg8); (have H8 := Lib.hid (And.intro hm8 hg8)); clear hm8 hg8)
      go_roundg (ny - (j + 1))
      case measure => omega
      case rel =>
        obtain ⟨hM, hf, hB, hq⟩ := HM.out
        exact ⟨j + 1, _, rfl, by first | rfl | simp, hlt, H8.out.1, Lib.hid fun k => by rw [contains_step hq, hf.out k], hB.grown H8.out.2 hB.size (fun k hk => by have := Option.some.inj hk; omega)⟩
    · have hi' : ¬ (j : Int) < (ny : Int) := by omega
      obtain rfl : ny = j := by omega
      have HM := Lib.hid (And.intro hM (And.intro hf hB))
      clear hM hf hB
      go_wp2_with fail
      go_loopg [22] nx (fun gk i wr => ∃ j : Nat, gk = nx - j ∧ i = .int .i64 (j : Int) ∧ j ≤ nx ∧ Below wz.heap.size wz wr)
      case atStart => exact ⟨0, by simp, by first | rfl | simp, Nat.zero_le _, Below.refl _ _⟩
      case round =>
        obtain ⟨j, rfl, rfl, hj, hB⟩ := hrel
        obtain ⟨wy, rfl⟩ : ∃ wy, wy = wr := ⟨_, rfl⟩
        have hBw : Below w.heap.size w wy := HM.out.2.2.trans (hB.mono HM.out.2.2.size)
        by_cases hlt : j < nx
        · have hi' : (j : Int) < (nx : Int) := by omega
          obtain ⟨hxx, hnx, hxy, hny, hS, hX, hY, enx, eny⟩ := H.out
          obtain ⟨rfl, u1, u2, u3⟩ := hxx (by omega)
          unfold maxLen at u2
          have hjX : j < X.length := by omega
          have hgw := hS gx u3
          have e1 := (World.cell?_of_block (a := ⟨gx, ox + j, none⟩) (hBw.block gx hgw)).trans (hnx j hjX)
          obtain ⟨q, hq⟩ : ∃ q, X[j] = q := ⟨_, rfl⟩
          rw [List.getElem_map, hq] at e1
          have hqY : q ∈ Y := hX q (by rw [← hq]; exact List.getElem_mem _)
          have hq1 : q ≤ 4611686018427387904 := by have := hY q hqY; omega
          have hgw2 : gx < wy.heap.size := by have := hBw.size; omega
          have HMy := Lib.hid (HM.out.1.of (hB.block w.heap.size HM.out.1.lt))
          have hfq : f q = true := by
            rw [HM.out.2.1.out q, List.take_of_length_le (by omega)]
            simpa using hqY
          have HB := Lib.hid hB
          clear hB hBw hxx hnx hxy hny hS hX hY enx eny hq u3 hqY
          go_wp2_with (at_lookup; (refine wpList_met_look rfl (.tmp 26) (.tmp 27) rfl HMy.out rfl rfl hq1 ?_); (rw [hfq]))
          go_roundg (nx - (j + 1))
          case measure => omega
          case rel => exact ⟨j + 1, rfl, by first | rfl | simp, hlt, HB.out⟩
        · have hi' : ¬ (j : Int) < (nx : Int) := by omega
          have HB := Lib.hid hBw
          clear hB hBw
          go_wp2_with fail
          go_ret
          exact ⟨rfl, HB.out⟩
end Go.Proofs.YtkbmkmpoapafaaaDoor
