/- trefoillaw02.TreeApart where kind, text or number is changed. -/
import Derived.Test.YtoopndgdaiblpaaDoorApP
import Derived.Test.YtoopndgdaiblpaaDoorGrt2
import Derived.Test.YtoopndgdaiblpaaDoorAlive
import Derived.Deep.RegionHeld3
namespace Go.Proofs.YtoopndgdaiblpaaDoor
open Go.ChangeShapes Go.WideShapes Go.ChangeAt Go.RowKit

set_option linter.unusedSimpArgs false in
set_option maxHeartbeats 20000000 in
set_option maxRecDepth 100000 in
theorem apart_0 (T : TypeId) (v : Value) (l : List Pt) (vl : Value) (q : Int) (w : World) (hg : w.cell? ⟨0, 0, none⟩ = some (.iface T v)) (hgl : 0 < w.heap.size) (ha : PV w w.heap.size vl l)
    (hla : (l.length : Int) ≤ 140737488355328) (hq0 : 0 ≤ q) (hq1 : q ≤ 255) (hq : q % 7 = 0) :
    Calls Tryd.prog 5 #[vl, .int .u8 q] w fun e w' => e = .returned (.bool true) ∧ Below w.heap.size w w' := by
  have HG := Lib.hid hg
  have HA := Lib.hid (And.intro ha hla)
  have HQ := Lib.hid hq
  clear hg ha hla hq
  go_enter Tryd.func5, Tryd.ntmps5
  go_wp2_with fail
  refine (alive_any T v _ HG.out hgl).mono ?_
  rintro e w1 ⟨rfl, hB1⟩
  have s1 := hB1.size
  have PA1 := Lib.hid (HA.out.1.carry hB1)
  go_wp2_with fail
  refine (great2_any w.heap.size l vl w1 s1 HA.out.2 PA1.out).mono ?_
  rintro e w2 ⟨b1, rfl, hb1, hB2⟩
  have s2 := hB2.size
  cases b1 with
  | true =>
    go_wp2_with fail
    go_ret
    exact ⟨rfl, hB1.trans (hB2.mono s1)⟩
  | false =>
    have HL1 := Lib.hid (hb1 rfl)
    clear hb1
    have PA2 := Lib.hid (PA1.out.carry' hB2 s1)
    have CO := Lib.hid (of_any w.heap.size 2000 l vl w2 (by omega) (by have := HL1.out.1; omega) (by have := HL1.out.1; omega) PA2.out)
    go_wp2_with fail
    refine CO.out.mono ?_
    rintro e w4 ⟨c0, c1, c2, c3, c4, c5, c6, rest, rfl, hxe, hpe, hB4⟩
    obtain ⟨⟨x3, l3, e3, rfl⟩, ⟨x4, l4, e4, rfl⟩, ⟨x5, l5, e5, rfl⟩, ⟨x6, l6, e6, rfl⟩⟩ := hxe.shapes
    obtain ⟨k2, t2, n2, rfl, rfl, rfl⟩ := hxe.heads
    obtain ⟨t, ht⟩ : ∃ t, (ofL 2000 l).1 = t := ⟨_, rfl⟩
    have zt : ndSize t ≤ 400000 := by have := (ofL_fine 2000 l).2; have := HL1.out.1; rw [← ht]; omega
    have ft : TyFine t := by rw [← ht]; exact ofL_mild 2000 l
    have hd : headOk t := by rw [← ht]; exact ofL_head 2000 l HL1.out.2
    rw [ht] at hxe
    have HT := Lib.hid (And.intro ht (And.intro zt ft))
    have s4 := hB4.size
    have hxe2 := hxe
    obtain ⟨_, _, _, _, _, _, _, nms, tys, ags, ms, ga, oa, gn, on, gt, ot, gm, om, hvs, rfl, ha, hn, htt, hm, hs, hns, hts, hms, hax, hmx⟩ := hxe2
    simp only [List.cons.injEq, Value.int.injEq, Value.string.injEq, true_and, and_true] at hvs
    obtain ⟨rfl, rfl, rfl, rfl, rfl, rfl, rfl⟩ := hvs
    simp only [headOk] at hd
    obtain ⟨d1, d2, d3, d4, d5, d6⟩ := hd
    have BW4 : Below w.heap.size w w4 := hB1.trans ((hB2.mono s1).trans (hB4.mono (by omega)))
    have HXE := Lib.hid hxe
    have P4 := Lib.hid (PA2.out.carry' hB4 (by omega))
    have HD := Lib.hid (And.intro d1 (And.intro d2 (And.intro d3 (And.intro d4 (And.intro d5 d6)))))
    have HAll := Lib.hid (And.intro ha (And.intro hn (And.intro htt (And.intro hm (And.intro hs (And.intro hns (And.intro hts (And.intro hms (And.intro hax hmx)))))))))
    clear ha hn htt hm hs hns hts hms hax hmx hxe hpe ht zt ft CO d1 d2 d3 d4 d5 d6
    have hq := HQ.out
    go_wp2_with fail
    clear hq
    have hne : (.ex k2 t2 n2 nms tys ags ms : Nd) ≠ .ex (wrap64 (k2 + 1)) t2 n2 nms tys ags ms := fun h => by
      have h1 : k2 = wrap64 (k2 + 1) := by injection h
      unfold wrap64 at h1; omega
    have zu : ndSize (.ex (wrap64 (k2 + 1)) t2 n2 nms tys ags ms) ≤ 900000 := by have := HT.out.2.1; rw [ndSize_ex] at this ⊢; omega
    have fu : TyFine (.ex (wrap64 (k2 + 1)) t2 n2 nms tys ags ms) := by
      cases HT.out.2.2 with
      | ex h1 h2 h3 => exact .ex h1 h2 h3
    obtain ⟨W6, hW6⟩ : ∃ W6, ((w4.alloc (.cells #[.int .i64 k2, .string t2, .int .i64 n2, .slice x3 l3 e3, .slice x4 l4 e4, .slice x5 l5 e5, .slice x6 l6 e6] 33)).alloc (.cells #[.int .i64 (wrap64 (k2 + 1)), .string t2, .int .i64 n2, .slice x3 l3 e3, .slice x4 l4 e4, .slice x5 l5 e5, .slice x6 l6 e6] 33)) = W6 := ⟨_, rfl⟩
    rw [hW6]
    have hB6 : Below w4.heap.size w4 W6 := by rw [← hW6]; exact ((Below.refl _ _).alloc (Nat.le_refl _) _).alloc (by simp) _
    have E6 : W6.heap[w4.heap.size]? = some (.cells #[.int .i64 k2, .string t2, .int .i64 n2, .slice x3 l3 e3, .slice x4 l4 e4, .slice x5 l5 e5, .slice x6 l6 e6] 33) := by rw [← hW6, heap_old (by simp), heap_last rfl]
    have X6 : W6.heap[w4.heap.size + 1]? = some (.cells #[.int .i64 (wrap64 (k2 + 1)), .string t2, .int .i64 n2, .slice x3 l3 e3, .slice x4 l4 e4, .slice x5 l5 e5, .slice x6 l6 e6] 33) := by rw [← hW6, heap_last (by simp)]
    have HXX : ExV W6 (fun b => b < W6.heap.size) [.int .i64 (wrap64 (k2 + 1)), .string t2, .int .i64 n2, .slice x3 l3 e3, .slice x4 l4 e4, .slice x5 l5 e5, .slice x6 l6 e6] (.ex (wrap64 (k2 + 1)) t2 n2 nms tys ags ms) := by
      have h6 := hB6.size
      have k : Keeps (fun b => w2.heap.size < b ∧ b < w4.heap.size) w4 W6 := fun b hb => hB6.block b hb.2
      obtain ⟨ha, hn, htt, hm, hs, hns, hts, hms, hax, hmx⟩ := HAll.out
      have hC : ∀ b, (w2.heap.size < b ∧ b < w4.heap.size) → b < W6.heap.size := fun b hb => by omega
      exact ⟨_, _, _, _, _, _, _, nms, tys, ags, ms, ga, oa, gn, on, gt, ot, gm, om, rfl, rfl, ha.mono hC, hn.mono hC, htt.mono hC, hm.mono hC, fun i hi => (hs i hi).carry k hC, fun i hi => k.cell (hn.lt (by omega)) (hns i hi), fun i hi => (hts i hi).carry k hC, fun i hi => (hms i hi).carry k hC, hax, hmx⟩
    clear hW6
    have s6 := hB6.size
    have hb6 : w4.heap.size + 2 ≤ W6.heap.size := by
      rcases Nat.lt_or_ge (w4.heap.size + 1) W6.heap.size with h | h
      · omega
      · rw [Array.getElem?_eq_none h] at X6; cases X6
    have HXE6 : ExV W6 (fun b => b < W6.heap.size) [.int .i64 k2, .string t2, .int .i64 n2, .slice x3 l3 e3, .slice x4 l4 e4, .slice x5 l5 e5, .slice x6 l6 e6] (.ex k2 t2 n2 nms tys ags ms) := HXE.out.carry (fun b hb => hB6.block b hb.2) (fun b hb => by have := hb.2; omega)
    have CO2 := Lib.hid (of_any w.heap.size 2000 l vl W6 (by omega) (by have := HL1.out.1; omega) (by have := HL1.out.1; omega) (P4.out.carry' hB6 (by omega)))
    refine CO2.out.mono ?_
    rintro e w7 ⟨q0, q1, q2, q3, q4, q5, q6, rest2, rfl, hxy, hpy, hB7⟩
    obtain ⟨⟨y3, m3, f3, rfl⟩, ⟨y4, m4, f4, rfl⟩, ⟨y5, m5, f5, rfl⟩, ⟨y6, m6, f6, rfl⟩⟩ := hxy.shapes
    obtain ⟨k3, t3, n3, rfl, rfl, rfl⟩ := hxy.heads
    rw [HT.out.1] at hxy
    have s7 := hB7.size
    go_wp2_with fail
    obtain ⟨W8, hW8⟩ : ∃ W8, w7.alloc (.cells #[.int .i64 k3, .string t3, .int .i64 n3, .slice y3 m3 f3, .slice y4 m4 f4, .slice y5 m5 f5, .slice y6 m6 f6] 33) = W8 := ⟨_, rfl⟩
    rw [hW8]
    have s8 : W8.heap.size = w7.heap.size + 1 := by rw [← hW8]; simp
    have B8 : ∀ b, b < W6.heap.size → W8.heap[b]? = W6.heap[b]? := fun b hb => by rw [← hW8, heap_old (by omega), hB7.block b hb]
    have E8 := (B8 w4.heap.size (by omega)).trans E6
    have X8 := (B8 (w4.heap.size + 1) (by omega)).trans X6
    have Y8 : W8.heap[w7.heap.size]? = some (.cells #[.int .i64 k3, .string t3, .int .i64 n3, .slice y3 m3 f3, .slice y4 m4 f4, .slice y5 m5 f5, .slice y6 m6 f6] 33) := by rw [← hW8]; exact heap_last rfl
    have hw8 : Below w.heap.size w W8 := by
      rw [← hW8]
      exact ((BW4.trans (hB6.mono (by omega))).trans (hB7.mono (by omega))).alloc (by omega) _
    have XE8 : Hid (∀ V, Below W8.heap.size W8 V → ExV V (fun b => b < V.heap.size) [.int .i64 k2, .string t2, .int .i64 n2, .slice x3 l3 e3, .slice x4 l4 e4, .slice x5 l5 e5, .slice x6 l6 e6] (.ex k2 t2 n2 nms tys ags ms)) := Lib.hid fun V hV => by
      have hs := hV.size
      exact HXE6.carry (fun b hb => (hV.block b (by omega)).trans (B8 b hb)) (fun b hb => by omega)
    have XX8 : Hid (∀ V, Below W8.heap.size W8 V → ExV V (fun b => b < V.heap.size) [.int .i64 (wrap64 (k2 + 1)), .string t2, .int .i64 n2, .slice x3 l3 e3, .slice x4 l4 e4, .slice x5 l5 e5, .slice x6 l6 e6] (.ex (wrap64 (k2 + 1)) t2 n2 nms tys ags ms)) := Lib.hid fun V hV => by
      have hs := hV.size
      exact HXX.carry (fun b hb => (hV.block b (by omega)).trans (B8 b hb)) (fun b hb => by omega)
    have XY8 : Hid (∀ V, Below W8.heap.size W8 V → ExV V (fun b => b < V.heap.size) [.int .i64 k3, .string t3, .int .i64 n3, .slice y3 m3 f3, .slice y4 m4 f4, .slice y5 m5 f5, .slice y6 m6 f6] (.ex k2 t2 n2 nms tys ags ms)) := Lib.hid fun V hV => by
      have hs := hV.size
      refine hxy.carry (fun b hb => ?_) (fun b hb => by have := hb.2; omega)
      rw [hV.block b (by have := hb.2; omega), ← hW8, heap_old hb.2]
    have SO : Hid (∀ V, Below W8.heap.size W8 V → V.cell? ⟨w4.heap.size, 0, none⟩ = some (.int .i64 k2) ∧ V.cell? ⟨w4.heap.size, 1, none⟩ = some (.string t2) ∧ V.cell? ⟨w4.heap.size, 2, none⟩ = some (.int .i64 n2) ∧ V.cell? ⟨w4.heap.size, 3, none⟩ = some (.slice x3 l3 e3) ∧ V.cell? ⟨w4.heap.size, 4, none⟩ = some (.slice x4 l4 e4) ∧ V.cell? ⟨w4.heap.size, 5, none⟩ = some (.slice x5 l5 e5) ∧ V.cell? ⟨w4.heap.size, 6, none⟩ = some (.slice x6 l6 e6) ∧ V.cell? ⟨w4.heap.size + 1, 0, none⟩ = some (.int .i64 (wrap64 (k2 + 1))) ∧ V.cell? ⟨w4.heap.size + 1, 1, none⟩ = some (.string t2) ∧ V.cell? ⟨w4.heap.size + 1, 2, none⟩ = some (.int .i64 n2) ∧ V.cell? ⟨w4.heap.size + 1, 3, none⟩ = some (.slice x3 l3 e3) ∧ V.cell? ⟨w4.heap.size + 1, 4, none⟩ = some (.slice x4 l4 e4) ∧ V.cell? ⟨w4.heap.size + 1, 5, none⟩ = some (.slice x5 l5 e5) ∧ V.cell? ⟨w4.heap.size + 1, 6, none⟩ = some (.slice x6 l6 e6) ∧ V.cell? ⟨w7.heap.size, 0, none⟩ = some (.int .i64 k3) ∧ V.cell? ⟨w7.heap.size, 1, none⟩ = some (.string t3) ∧ V.cell? ⟨w7.heap.size, 2, none⟩ = some (.int .i64 n3) ∧ V.cell? ⟨w7.heap.size, 3, none⟩ = some (.slice y3 m3 f3) ∧ V.cell? ⟨w7.heap.size, 4, none⟩ = some (.slice y4 m4 f4) ∧ V.cell? ⟨w7.heap.size, 5, none⟩ = some (.slice y5 m5 f5) ∧ V.cell? ⟨w7.heap.size, 6, none⟩ = some (.slice y6 m6 f6)) := Lib.hid fun V hV => by
      have a1 := (hV.block w4.heap.size (by omega)).trans E8
      have a2 := (hV.block (w4.heap.size + 1) (by omega)).trans X8
      have a3 := (hV.block w7.heap.size (by omega)).trans Y8
      refine ⟨?_, ?_, ?_, ?_, ?_, ?_, ?_, ?_, ?_, ?_, ?_, ?_, ?_, ?_, ?_, ?_, ?_, ?_, ?_, ?_, ?_⟩ <;> first | (rw [Lib.cell_of_heap a1]; rfl) | (rw [Lib.cell_of_heap a2]; rfl) | (rw [Lib.cell_of_heap a3]; rfl)
    have C1 : Hid (∀ V, Below W8.heap.size W8 V → Calls Tryd.prog 12 #[.agg #[.int .i64 k2, .string t2, .int .i64 n2, .slice x3 l3 e3, .slice x4 l4 e4, .slice x5 l5 e5, .slice x6 l6 e6], .agg #[.int .i64 (wrap64 (k2 + 1)), .string t2, .int .i64 n2, .slice x3 l3 e3, .slice x4 l4 e4, .slice x5 l5 e5, .slice x6 l6 e6]] V fun e w' => e = .returned (.bool false) ∧ Below W8.heap.size W8 w') := Lib.hid fun V hV => by
      refine (sameNd_v (fun b => b < V.heap.size) _ _ _ _ _ _ _ _ _ _ _ _ _ _ V (.ex k2 t2 n2 nms tys ags ms) (.ex (wrap64 (k2 + 1)) t2 n2 nms tys ags ms) (Nat.le_trans HT.out.2.1 (by omega)) HT.out.2.2 (fun _ h => h) (XE8.out V hV) (XX8.out V hV)).mono ?_
      rintro e w' ⟨rfl, hB⟩
      exact ⟨by rw [same_no hne], hV.trans (hB.mono hV.size)⟩
    have C2 : Hid (∀ V, Below W8.heap.size W8 V → Calls Tryd.prog 12 #[.agg #[.int .i64 (wrap64 (k2 + 1)), .string t2, .int .i64 n2, .slice x3 l3 e3, .slice x4 l4 e4, .slice x5 l5 e5, .slice x6 l6 e6], .agg #[.int .i64 k2, .string t2, .int .i64 n2, .slice x3 l3 e3, .slice x4 l4 e4, .slice x5 l5 e5, .slice x6 l6 e6]] V fun e w' => e = .returned (.bool false) ∧ Below W8.heap.size W8 w') := Lib.hid fun V hV => by
      refine (sameNd_v (fun b => b < V.heap.size) _ _ _ _ _ _ _ _ _ _ _ _ _ _ V (.ex (wrap64 (k2 + 1)) t2 n2 nms tys ags ms) (.ex k2 t2 n2 nms tys ags ms) zu fu (fun _ h => h) (XX8.out V hV) (XE8.out V hV)).mono ?_
      rintro e w' ⟨rfl, hB⟩
      exact ⟨by rw [same_no (Ne.symm hne)], hV.trans (hB.mono hV.size)⟩
    have C3 : Hid (∀ V, Below W8.heap.size W8 V → Calls Tryd.prog 12 #[.agg #[.int .i64 k2, .string t2, .int .i64 n2, .slice x3 l3 e3, .slice x4 l4 e4, .slice x5 l5 e5, .slice x6 l6 e6], .agg #[.int .i64 k3, .string t3, .int .i64 n3, .slice y3 m3 f3, .slice y4 m4 f4, .slice y5 m5 f5, .slice y6 m6 f6]] V fun e w' => e = .returned (.bool true) ∧ Below W8.heap.size W8 w') := Lib.hid fun V hV => by
      refine (sameNd_v (fun b => b < V.heap.size) _ _ _ _ _ _ _ _ _ _ _ _ _ _ V (.ex k2 t2 n2 nms tys ags ms) (.ex k2 t2 n2 nms tys ags ms) (Nat.le_trans HT.out.2.1 (by omega)) HT.out.2.2 (fun _ h => h) (XE8.out V hV) (XY8.out V hV)).mono ?_
      rintro e w' ⟨rfl, hB⟩
      exact ⟨by rw [same_self], hV.trans (hB.mono hV.size)⟩
    obtain ⟨z, hz⟩ : ∃ z, ndSize (.ex k2 t2 n2 nms tys ags ms) = z := ⟨_, rfl⟩
    have C4 : Hid (∀ V, Below W8.heap.size W8 V → Calls Tryd.prog 20 #[.agg #[.int .i64 k3, .string t3, .int .i64 n3, .slice y3 m3 f3, .slice y4 m4 f4, .slice y5 m5 f5, .slice y6 m6 f6]] V fun e w' => e = .returned (.int .i64 z) ∧ Below W8.heap.size W8 w') := Lib.hid fun V hV => by
      refine (size_v (fun b => b < V.heap.size) _ _ _ _ _ _ _ V (.ex k2 t2 n2 nms tys ags ms) (Nat.le_trans HT.out.2.1 (by omega)) (fun _ h => h) (XY8.out V hV)).mono ?_
      rintro e w' ⟨rfl, hB⟩
      exact ⟨by rw [hz], hV.trans (hB.mono hV.size)⟩
    have C5 : Hid (∀ V, Below W8.heap.size W8 V → Calls Tryd.prog 20 #[.agg #[.int .i64 k2, .string t2, .int .i64 n2, .slice x3 l3 e3, .slice x4 l4 e4, .slice x5 l5 e5, .slice x6 l6 e6]] V fun e w' => e = .returned (.int .i64 z) ∧ Below W8.heap.size W8 w') := Lib.hid fun V hV => by
      refine (size_v (fun b => b < V.heap.size) _ _ _ _ _ _ _ V (.ex k2 t2 n2 nms tys ags ms) (Nat.le_trans HT.out.2.1 (by omega)) (fun _ h => h) (XE8.out V hV)).mono ?_
      rintro e w' ⟨rfl, hB⟩
      exact ⟨by rw [hz], hV.trans (hB.mono hV.size)⟩
    have zz : ((z : Int) == (z : Int)) = true := beq_self_eq_true _
    have hBB : Below W8.heap.size W8 W8.drew := (Below.refl _ _).drew
    have F8 := Lib.hid hw8
    clear hW8 s8 B8 E8 X8 Y8 hw8 hxy hpy hB7 s7 CO2 HXE6 hb6 s6 hB6 E6 X6 HXX hne zu fu hz
    refine wp_region_held_drew (S := fun V => V.cell? ⟨w4.heap.size, 0, none⟩ = some (.int .i64 k2) ∧ V.cell? ⟨w4.heap.size, 1, none⟩ = some (.string t2) ∧ V.cell? ⟨w4.heap.size, 2, none⟩ = some (.int .i64 n2) ∧ V.cell? ⟨w4.heap.size, 3, none⟩ = some (.slice x3 l3 e3) ∧ V.cell? ⟨w4.heap.size, 4, none⟩ = some (.slice x4 l4 e4) ∧ V.cell? ⟨w4.heap.size, 5, none⟩ = some (.slice x5 l5 e5) ∧ V.cell? ⟨w4.heap.size, 6, none⟩ = some (.slice x6 l6 e6) ∧ V.cell? ⟨w4.heap.size + 1, 0, none⟩ = some (.int .i64 (wrap64 (k2 + 1))) ∧ V.cell? ⟨w4.heap.size + 1, 1, none⟩ = some (.string t2) ∧ V.cell? ⟨w4.heap.size + 1, 2, none⟩ = some (.int .i64 n2) ∧ V.cell? ⟨w4.heap.size + 1, 3, none⟩ = some (.slice x3 l3 e3) ∧ V.cell? ⟨w4.heap.size + 1, 4, none⟩ = some (.slice x4 l4 e4) ∧ V.cell? ⟨w4.heap.size + 1, 5, none⟩ = some (.slice x5 l5 e5) ∧ V.cell? ⟨w4.heap.size + 1, 6, none⟩ = some (.slice x6 l6 e6) ∧ V.cell? ⟨w7.heap.size, 0, none⟩ = some (.int .i64 k3) ∧ V.cell? ⟨w7.heap.size, 1, none⟩ = some (.string t3) ∧ V.cell? ⟨w7.heap.size, 2, none⟩ = some (.int .i64 n3) ∧ V.cell? ⟨w7.heap.size, 3, none⟩ = some (.slice y3 m3 f3) ∧ V.cell? ⟨w7.heap.size, 4, none⟩ = some (.slice y4 m4 f4) ∧ V.cell? ⟨w7.heap.size, 5, none⟩ = some (.slice y5 m5 f5) ∧ V.cell? ⟨w7.heap.size, 6, none⟩ = some (.slice y6 m6 f6)) (by kernel_rfl) (SO.out _ hBB) (fun hHeld => ?_)
    refine wpAnyH_take (i := 0) (v := ?_) rfl (by kernel_rfl) (by kernel_rfl) (by kernel_rfl) (fun _ _ _ h => h) (Or.inl ⟨by rfl, ?_⟩) (by assumption) ?_
    rotate_left
    · intro w hSw
      (try dsimp only at hSw)
      go_simp
      try with_reducible rfl
    try simp only [List.getElem_toArray, List.getElem_cons_zero, List.getElem_cons_succ, Act.put, List.setIfInBounds_toArray, List.set_cons_zero, List.set_cons_succ]
    refine wpAnyH_take (i := 1) (v := ?_) rfl (by kernel_rfl) (by kernel_rfl) (by kernel_rfl) (fun _ _ _ h => h) (Or.inl ⟨by rfl, ?_⟩) (by assumption) ?_
    rotate_left
    · intro w hSw
      (try dsimp only at hSw)
      go_simp
      try with_reducible rfl
    try simp only [List.getElem_toArray, List.getElem_cons_zero, List.getElem_cons_succ, Act.put, List.setIfInBounds_toArray, List.set_cons_zero, List.set_cons_succ]
    refine wpAnyH_ready (rs := [2]) (by kernel_rfl) (by simp) ?_
    refine AllReadyH.cons (by simp only [List.getElem?_toArray, List.getElem?_cons_zero, List.getElem?_cons_succ]; rfl) (fun K hK => ?_) AllReadyH.nil
    go_simp
    (go_at_call 12; with_reducible refine (C1.out _ hBB).mono ?_; rintro e9 w9 ⟨rfl, hBB⟩)
    go_wp2_with fail
    refine hK.out _ _ (by first | assumption | exact SO.out _ hBB) (fun hHeld => ?_)
    try simp only [List.getElem_toArray, List.getElem_cons_zero, List.getElem_cons_succ, Act.put, List.setIfInBounds_toArray, List.set_cons_zero, List.set_cons_succ]
    refine wpAnyH_take (i := 3) (v := ?_) rfl (by kernel_rfl) (by kernel_rfl) (by kernel_rfl) (fun _ _ _ h => h) (Or.inl ⟨by rfl, ?_⟩) (by assumption) ?_
    rotate_left
    · intro w hSw
      (try dsimp only at hSw)
      go_simp
      try with_reducible rfl
    try simp only [List.getElem_toArray, List.getElem_cons_zero, List.getElem_cons_succ, Act.put, List.setIfInBounds_toArray, List.set_cons_zero, List.set_cons_succ]
    refine wpAnyH_take (i := 4) (v := ?_) rfl (by kernel_rfl) (by kernel_rfl) (by kernel_rfl) (fun _ _ _ h => h) (Or.inl ⟨by rfl, ?_⟩) (by assumption) ?_
    rotate_left
    · intro w hSw
      (try dsimp only at hSw)
      go_simp
      try with_reducible rfl
    try simp only [List.getElem_toArray, List.getElem_cons_zero, List.getElem_cons_succ, Act.put, List.setIfInBounds_toArray, List.set_cons_zero, List.set_cons_succ]
    refine wpAnyH_take (i := 5) (v := ?_) rfl (by kernel_rfl) (by kernel_rfl) (by kernel_rfl) (fun _ _ _ h => h) (Or.inl ⟨by rfl, ?_⟩) (by assumption) ?_
    rotate_left
    · intro w hSw
      (try dsimp only at hSw)
      go_simp
      try with_reducible rfl
    try simp only [List.getElem_toArray, List.getElem_cons_zero, List.getElem_cons_succ, Act.put, List.setIfInBounds_toArray, List.set_cons_zero, List.set_cons_succ]
    refine wpAnyH_take (i := 6) (v := ?_) rfl (by kernel_rfl) (by kernel_rfl) (by kernel_rfl) (fun _ _ _ h => h) (Or.inl ⟨by rfl, ?_⟩) (by assumption) ?_
    rotate_left
    · intro w hSw
      (try dsimp only at hSw)
      go_simp
      try with_reducible rfl
    try simp only [List.getElem_toArray, List.getElem_cons_zero, List.getElem_cons_succ, Act.put, List.setIfInBounds_toArray, List.set_cons_zero, List.set_cons_succ]
    refine wpAnyH_ready (rs := [7]) (by kernel_rfl) (by simp) ?_
    refine AllReadyH.cons (by simp only [List.getElem?_toArray, List.getElem?_cons_zero, List.getElem?_cons_succ]; rfl) (fun K hK => ?_) AllReadyH.nil
    go_simp
    (go_at_call 12; with_reducible refine (C2.out _ hBB).mono ?_; rintro e9 w9 ⟨rfl, hBB⟩)
    go_wp2_with fail
    refine hK.out _ _ (by first | assumption | exact SO.out _ hBB) (fun hHeld => ?_)
    try simp only [List.getElem_toArray, List.getElem_cons_zero, List.getElem_cons_succ, Act.put, List.setIfInBounds_toArray, List.set_cons_zero, List.set_cons_succ]
    refine wpAnyH_take (i := 8) (v := ?_) rfl (by kernel_rfl) (by kernel_rfl) (by kernel_rfl) (fun _ _ _ h => h) (Or.inl ⟨by rfl, ?_⟩) (by assumption) ?_
    rotate_left
    · intro w hSw
      (try dsimp only at hSw)
      go_simp
      try with_reducible rfl
    try simp only [List.getElem_toArray, List.getElem_cons_zero, List.getElem_cons_succ, Act.put, List.setIfInBounds_toArray, List.set_cons_zero, List.set_cons_succ]
    refine wpAnyH_take (i := 9) (v := ?_) rfl (by kernel_rfl) (by kernel_rfl) (by kernel_rfl) (fun _ _ _ h => h) (Or.inl ⟨by rfl, ?_⟩) (by assumption) ?_
    rotate_left
    · intro w hSw
      (try dsimp only at hSw)
      go_simp
      try with_reducible rfl
    try simp only [List.getElem_toArray, List.getElem_cons_zero, List.getElem_cons_succ, Act.put, List.setIfInBounds_toArray, List.set_cons_zero, List.set_cons_succ]
    refine wpAnyH_take (i := 10) (v := ?_) rfl (by kernel_rfl) (by kernel_rfl) (by kernel_rfl) (fun _ _ _ h => h) (Or.inl ⟨by rfl, ?_⟩) (by assumption) ?_
    rotate_left
    · intro w hSw
      (try dsimp only at hSw)
      go_simp
      try with_reducible rfl
    try simp only [List.getElem_toArray, List.getElem_cons_zero, List.getElem_cons_succ, Act.put, List.setIfInBounds_toArray, List.set_cons_zero, List.set_cons_succ]
    refine wpAnyH_take (i := 11) (v := ?_) rfl (by kernel_rfl) (by kernel_rfl) (by kernel_rfl) (fun _ _ _ h => h) (Or.inl ⟨by rfl, ?_⟩) (by assumption) ?_
    rotate_left
    · intro w hSw
      (try dsimp only at hSw)
      go_simp
      try with_reducible rfl
    try simp only [List.getElem_toArray, List.getElem_cons_zero, List.getElem_cons_succ, Act.put, List.setIfInBounds_toArray, List.set_cons_zero, List.set_cons_succ]
    refine wpAnyH_take (i := 12) (v := ?_) rfl (by kernel_rfl) (by kernel_rfl) (by kernel_rfl) (fun _ _ _ h => h) (Or.inl ⟨by rfl, ?_⟩) (by assumption) ?_
    rotate_left
    · intro w hSw
      (try dsimp only at hSw)
      go_simp
      try with_reducible rfl
    try simp only [List.getElem_toArray, List.getElem_cons_zero, List.getElem_cons_succ, Act.put, List.setIfInBounds_toArray, List.set_cons_zero, List.set_cons_succ]
    refine wpAnyH_ready (rs := [13]) (by kernel_rfl) (by simp) ?_
    refine AllReadyH.cons (by simp only [List.getElem?_toArray, List.getElem?_cons_zero, List.getElem?_cons_succ]; rfl) (fun K hK => ?_) AllReadyH.nil
    go_simp
    (go_at_call 12; with_reducible refine (C3.out _ hBB).mono ?_; rintro e9 w9 ⟨rfl, hBB⟩)
    go_wp2_with fail
    refine hK.out _ _ (by first | assumption | exact SO.out _ hBB) (fun hHeld => ?_)
    try simp only [List.getElem_toArray, List.getElem_cons_zero, List.getElem_cons_succ, Act.put, List.setIfInBounds_toArray, List.set_cons_zero, List.set_cons_succ]
    refine wpAnyH_take (i := 14) (v := ?_) rfl (by kernel_rfl) (by kernel_rfl) (by kernel_rfl) (fun _ _ _ h => h) (Or.inl ⟨by rfl, ?_⟩) (by assumption) ?_
    rotate_left
    · intro w hSw
      (try dsimp only at hSw)
      go_simp
      try with_reducible rfl
    try simp only [List.getElem_toArray, List.getElem_cons_zero, List.getElem_cons_succ, Act.put, List.setIfInBounds_toArray, List.set_cons_zero, List.set_cons_succ]
    refine wpAnyH_take (i := 15) (v := ?_) rfl (by kernel_rfl) (by kernel_rfl) (by kernel_rfl) (fun _ _ _ h => h) (Or.inl ⟨by rfl, ?_⟩) (by assumption) ?_
    rotate_left
    · intro w hSw
      (try dsimp only at hSw)
      go_simp
      try with_reducible rfl
    try simp only [List.getElem_toArray, List.getElem_cons_zero, List.getElem_cons_succ, Act.put, List.setIfInBounds_toArray, List.set_cons_zero, List.set_cons_succ]
    refine wpAnyH_take (i := 16) (v := ?_) rfl (by kernel_rfl) (by kernel_rfl) (by kernel_rfl) (fun _ _ _ h => h) (Or.inl ⟨by rfl, ?_⟩) (by assumption) ?_
    rotate_left
    · intro w hSw
      (try dsimp only at hSw)
      go_simp
      try with_reducible rfl
    try simp only [List.getElem_toArray, List.getElem_cons_zero, List.getElem_cons_succ, Act.put, List.setIfInBounds_toArray, List.set_cons_zero, List.set_cons_succ]
    refine wpAnyH_take (i := 18) (v := ?_) rfl (by kernel_rfl) (by kernel_rfl) (by kernel_rfl) (fun _ _ _ h => h) (Or.inl ⟨by rfl, ?_⟩) (by assumption) ?_
    rotate_left
    · intro w hSw
      (try dsimp only at hSw)
      go_simp
      try with_reducible rfl
    try simp only [List.getElem_toArray, List.getElem_cons_zero, List.getElem_cons_succ, Act.put, List.setIfInBounds_toArray, List.set_cons_zero, List.set_cons_succ]
    refine wpAnyH_ready (rs := [17]) (by kernel_rfl) (by simp) ?_
    refine AllReadyH.cons (by simp only [List.getElem?_toArray, List.getElem?_cons_zero, List.getElem?_cons_succ]; rfl) (fun K hK => ?_) AllReadyH.nil
    go_simp
    (go_at_call 20; with_reducible refine (C4.out _ hBB).mono ?_; rintro e9 w9 ⟨rfl, hBB⟩)
    go_wp2_with fail
    refine hK.out _ _ (by first | assumption | exact SO.out _ hBB) (fun hHeld => ?_)
    try simp only [List.getElem_toArray, List.getElem_cons_zero, List.getElem_cons_succ, Act.put, List.setIfInBounds_toArray, List.set_cons_zero, List.set_cons_succ]
    refine wpAnyH_ready (rs := [19]) (by kernel_rfl) (by simp) ?_
    refine AllReadyH.cons (by simp only [List.getElem?_toArray, List.getElem?_cons_zero, List.getElem?_cons_succ]; rfl) (fun K hK => ?_) AllReadyH.nil
    go_simp
    (go_at_call 20; with_reducible refine (C5.out _ hBB).mono ?_; rintro e9 w9 ⟨rfl, hBB⟩)
    go_wp2_with fail
    refine hK.out _ _ (by first | assumption | exact SO.out _ hBB) (fun hHeld => ?_)
    try simp only [List.getElem_toArray, List.getElem_cons_zero, List.getElem_cons_succ, Act.put, List.setIfInBounds_toArray, List.set_cons_zero, List.set_cons_succ]
    refine wpAnyH_take (i := 20) (v := ?_) rfl (by kernel_rfl) (by kernel_rfl) (by kernel_rfl) (fun _ _ _ h => h) (Or.inl ⟨by rfl, ?_⟩) (by assumption) ?_
    rotate_left
    · intro w hSw
      (try dsimp only at hSw)
      go_simp
      try with_reducible rfl
    try simp only [List.getElem_toArray, List.getElem_cons_zero, List.getElem_cons_succ, Act.put, List.setIfInBounds_toArray, List.set_cons_zero, List.set_cons_succ]
    refine wpAnyH_take (i := 21) (v := ?_) rfl (by kernel_rfl) (by kernel_rfl) (by kernel_rfl) (fun _ _ _ h => h) (Or.inl ⟨by rfl, ?_⟩) (by assumption) ?_
    rotate_left
    · intro w hSw
      (try dsimp only at hSw)
      go_simp
      try with_reducible rfl
    try simp only [List.getElem_toArray, List.getElem_cons_zero, List.getElem_cons_succ, Act.put, List.setIfInBounds_toArray, List.set_cons_zero, List.set_cons_succ]
    refine wpAnyH_take (i := 22) (v := ?_) rfl (by kernel_rfl) (by kernel_rfl) (by kernel_rfl) (fun _ _ _ h => h) (Or.inl ⟨by rfl, ?_⟩) (by assumption) ?_
    rotate_left
    · intro w hSw
      (try dsimp only at hSw)
      go_simp
      try with_reducible rfl
    try simp only [List.getElem_toArray, List.getElem_cons_zero, List.getElem_cons_succ, Act.put, List.setIfInBounds_toArray, List.set_cons_zero, List.set_cons_succ]
    refine wpAnyH_done (by kernel_rfl) ?_ _
    go_wp2_with fail
    go_ret
    exact ⟨by rfl, F8.out.trans (hBB.mono F8.out.size)⟩

set_option linter.unusedSimpArgs false in
set_option maxHeartbeats 20000000 in
set_option maxRecDepth 100000 in
theorem apart_1 (T : TypeId) (v : Value) (l : List Pt) (vl : Value) (q : Int) (w : World) (hg : w.cell? ⟨0, 0, none⟩ = some (.iface T v)) (hgl : 0 < w.heap.size) (ha : PV w w.heap.size vl l)
    (hla : (l.length : Int) ≤ 140737488355328) (hq0 : 0 ≤ q) (hq1 : q ≤ 255) (hq : q % 7 = 1) :
    Calls Tryd.prog 5 #[vl, .int .u8 q] w fun e w' => e = .returned (.bool true) ∧ Below w.heap.size w w' := by
  have HG := Lib.hid hg
  have HA := Lib.hid (And.intro ha hla)
  have HQ := Lib.hid hq
  clear hg ha hla hq
  go_enter Tryd.func5, Tryd.ntmps5
  go_wp2_with fail
  refine (alive_any T v _ HG.out hgl).mono ?_
  rintro e w1 ⟨rfl, hB1⟩
  have s1 := hB1.size
  have PA1 := Lib.hid (HA.out.1.carry hB1)
  go_wp2_with fail
  refine (great2_any w.heap.size l vl w1 s1 HA.out.2 PA1.out).mono ?_
  rintro e w2 ⟨b1, rfl, hb1, hB2⟩
  have s2 := hB2.size
  cases b1 with
  | true =>
    go_wp2_with fail
    go_ret
    exact ⟨rfl, hB1.trans (hB2.mono s1)⟩
  | false =>
    have HL1 := Lib.hid (hb1 rfl)
    clear hb1
    have PA2 := Lib.hid (PA1.out.carry' hB2 s1)
    have CO := Lib.hid (of_any w.heap.size 2000 l vl w2 (by omega) (by have := HL1.out.1; omega) (by have := HL1.out.1; omega) PA2.out)
    go_wp2_with fail
    refine CO.out.mono ?_
    rintro e w4 ⟨c0, c1, c2, c3, c4, c5, c6, rest, rfl, hxe, hpe, hB4⟩
    obtain ⟨⟨x3, l3, e3, rfl⟩, ⟨x4, l4, e4, rfl⟩, ⟨x5, l5, e5, rfl⟩, ⟨x6, l6, e6, rfl⟩⟩ := hxe.shapes
    obtain ⟨k2, t2, n2, rfl, rfl, rfl⟩ := hxe.heads
    obtain ⟨t, ht⟩ : ∃ t, (ofL 2000 l).1 = t := ⟨_, rfl⟩
    have zt : ndSize t ≤ 400000 := by have := (ofL_fine 2000 l).2; have := HL1.out.1; rw [← ht]; omega
    have ft : TyFine t := by rw [← ht]; exact ofL_mild 2000 l
    have hd : headOk t := by rw [← ht]; exact ofL_head 2000 l HL1.out.2
    rw [ht] at hxe
    have HT := Lib.hid (And.intro ht (And.intro zt ft))
    have s4 := hB4.size
    have hxe2 := hxe
    obtain ⟨_, _, _, _, _, _, _, nms, tys, ags, ms, ga, oa, gn, on, gt, ot, gm, om, hvs, rfl, ha, hn, htt, hm, hs, hns, hts, hms, hax, hmx⟩ := hxe2
    simp only [List.cons.injEq, Value.int.injEq, Value.string.injEq, true_and, and_true] at hvs
    obtain ⟨rfl, rfl, rfl, rfl, rfl, rfl, rfl⟩ := hvs
    simp only [headOk] at hd
    obtain ⟨d1, d2, d3, d4, d5, d6⟩ := hd
    have BW4 : Below w.heap.size w w4 := hB1.trans ((hB2.mono s1).trans (hB4.mono (by omega)))
    have HXE := Lib.hid hxe
    have P4 := Lib.hid (PA2.out.carry' hB4 (by omega))
    have HD := Lib.hid (And.intro d1 (And.intro d2 (And.intro d3 (And.intro d4 (And.intro d5 d6)))))
    have HAll := Lib.hid (And.intro ha (And.intro hn (And.intro htt (And.intro hm (And.intro hs (And.intro hns (And.intro hts (And.intro hms (And.intro hax hmx)))))))))
    clear ha hn htt hm hs hns hts hms hax hmx hxe hpe ht zt ft CO d2 d3 d4 d5 d6
    have hq := HQ.out
    go_wp2_with fail
    clear hq
    have hne : (.ex k2 t2 n2 nms tys ags ms : Nd) ≠ .ex k2 (t2 ++ ⟨#[120]⟩) n2 nms tys ags ms := fun h => by
      have h1 : t2 = t2 ++ ⟨#[120]⟩ := by injection h
      have h2 := congrArg ByteArray.size h1
      rw [ByteArray.size_append] at h2
      have h3 : (⟨#[120]⟩ : ByteArray).size = 1 := rfl
      omega
    have zu : ndSize (.ex k2 (t2 ++ ⟨#[120]⟩) n2 nms tys ags ms) ≤ 900000 := by have := HT.out.2.1; rw [ndSize_ex] at this ⊢; omega
    have fu : TyFine (.ex k2 (t2 ++ ⟨#[120]⟩) n2 nms tys ags ms) := by
      cases HT.out.2.2 with
      | ex h1 h2 h3 => exact .ex h1 h2 h3
    obtain ⟨W6, hW6⟩ : ∃ W6, ((w4.alloc (.cells #[.int .i64 k2, .string t2, .int .i64 n2, .slice x3 l3 e3, .slice x4 l4 e4, .slice x5 l5 e5, .slice x6 l6 e6] 33)).alloc (.cells #[.int .i64 k2, .string (t2 ++ ⟨#[120]⟩), .int .i64 n2, .slice x3 l3 e3, .slice x4 l4 e4, .slice x5 l5 e5, .slice x6 l6 e6] 33)) = W6 := ⟨_, rfl⟩
    rw [hW6]
    have hB6 : Below w4.heap.size w4 W6 := by rw [← hW6]; exact ((Below.refl _ _).alloc (Nat.le_refl _) _).alloc (by simp) _
    have E6 : W6.heap[w4.heap.size]? = some (.cells #[.int .i64 k2, .string t2, .int .i64 n2, .slice x3 l3 e3, .slice x4 l4 e4, .slice x5 l5 e5, .slice x6 l6 e6] 33) := by rw [← hW6, heap_old (by simp), heap_last rfl]
    have X6 : W6.heap[w4.heap.size + 1]? = some (.cells #[.int .i64 k2, .string (t2 ++ ⟨#[120]⟩), .int .i64 n2, .slice x3 l3 e3, .slice x4 l4 e4, .slice x5 l5 e5, .slice x6 l6 e6] 33) := by rw [← hW6, heap_last (by simp)]
    have HXX : ExV W6 (fun b => b < W6.heap.size) [.int .i64 k2, .string (t2 ++ ⟨#[120]⟩), .int .i64 n2, .slice x3 l3 e3, .slice x4 l4 e4, .slice x5 l5 e5, .slice x6 l6 e6] (.ex k2 (t2 ++ ⟨#[120]⟩) n2 nms tys ags ms) := by
      have h6 := hB6.size
      have k : Keeps (fun b => w2.heap.size < b ∧ b < w4.heap.size) w4 W6 := fun b hb => hB6.block b hb.2
      obtain ⟨ha, hn, htt, hm, hs, hns, hts, hms, hax, hmx⟩ := HAll.out
      have hC : ∀ b, (w2.heap.size < b ∧ b < w4.heap.size) → b < W6.heap.size := fun b hb => by omega
      exact ⟨_, _, _, _, _, _, _, nms, tys, ags, ms, ga, oa, gn, on, gt, ot, gm, om, rfl, rfl, ha.mono hC, hn.mono hC, htt.mono hC, hm.mono hC, fun i hi => (hs i hi).carry k hC, fun i hi => k.cell (hn.lt (by omega)) (hns i hi), fun i hi => (hts i hi).carry k hC, fun i hi => (hms i hi).carry k hC, hax, hmx⟩
    clear hW6
    have s6 := hB6.size
    have hb6 : w4.heap.size + 2 ≤ W6.heap.size := by
      rcases Nat.lt_or_ge (w4.heap.size + 1) W6.heap.size with h | h
      · omega
      · rw [Array.getElem?_eq_none h] at X6; cases X6
    have HXE6 : ExV W6 (fun b => b < W6.heap.size) [.int .i64 k2, .string t2, .int .i64 n2, .slice x3 l3 e3, .slice x4 l4 e4, .slice x5 l5 e5, .slice x6 l6 e6] (.ex k2 t2 n2 nms tys ags ms) := HXE.out.carry (fun b hb => hB6.block b hb.2) (fun b hb => by have := hb.2; omega)
    have CO2 := Lib.hid (of_any w.heap.size 2000 l vl W6 (by omega) (by have := HL1.out.1; omega) (by have := HL1.out.1; omega) (P4.out.carry' hB6 (by omega)))
    refine CO2.out.mono ?_
    rintro e w7 ⟨q0, q1, q2, q3, q4, q5, q6, rest2, rfl, hxy, hpy, hB7⟩
    obtain ⟨⟨y3, m3, f3, rfl⟩, ⟨y4, m4, f4, rfl⟩, ⟨y5, m5, f5, rfl⟩, ⟨y6, m6, f6, rfl⟩⟩ := hxy.shapes
    obtain ⟨k3, t3, n3, rfl, rfl, rfl⟩ := hxy.heads
    rw [HT.out.1] at hxy
    have s7 := hB7.size
    go_wp2_with fail
    obtain ⟨W8, hW8⟩ : ∃ W8, w7.alloc (.cells #[.int .i64 k3, .string t3, .int .i64 n3, .slice y3 m3 f3, .slice y4 m4 f4, .slice y5 m5 f5, .slice y6 m6 f6] 33) = W8 := ⟨_, rfl⟩
    rw [hW8]
    have s8 : W8.heap.size = w7.heap.size + 1 := by rw [← hW8]; simp
    have B8 : ∀ b, b < W6.heap.size → W8.heap[b]? = W6.heap[b]? := fun b hb => by rw [← hW8, heap_old (by omega), hB7.block b hb]
    have E8 := (B8 w4.heap.size (by omega)).trans E6
    have X8 := (B8 (w4.heap.size + 1) (by omega)).trans X6
    have Y8 : W8.heap[w7.heap.size]? = some (.cells #[.int .i64 k3, .string t3, .int .i64 n3, .slice y3 m3 f3, .slice y4 m4 f4, .slice y5 m5 f5, .slice y6 m6 f6] 33) := by rw [← hW8]; exact heap_last rfl
    have hw8 : Below w.heap.size w W8 := by
      rw [← hW8]
      exact ((BW4.trans (hB6.mono (by omega))).trans (hB7.mono (by omega))).alloc (by omega) _
    have XE8 : Hid (∀ V, Below W8.heap.size W8 V → ExV V (fun b => b < V.heap.size) [.int .i64 k2, .string t2, .int .i64 n2, .slice x3 l3 e3, .slice x4 l4 e4, .slice x5 l5 e5, .slice x6 l6 e6] (.ex k2 t2 n2 nms tys ags ms)) := Lib.hid fun V hV => by
      have hs := hV.size
      exact HXE6.carry (fun b hb => (hV.block b (by omega)).trans (B8 b hb)) (fun b hb => by omega)
    have XX8 : Hid (∀ V, Below W8.heap.size W8 V → ExV V (fun b => b < V.heap.size) [.int .i64 k2, .string (t2 ++ ⟨#[120]⟩), .int .i64 n2, .slice x3 l3 e3, .slice x4 l4 e4, .slice x5 l5 e5, .slice x6 l6 e6] (.ex k2 (t2 ++ ⟨#[120]⟩) n2 nms tys ags ms)) := Lib.hid fun V hV => by
      have hs := hV.size
      exact HXX.carry (fun b hb => (hV.block b (by omega)).trans (B8 b hb)) (fun b hb => by omega)
    have XY8 : Hid (∀ V, Below W8.heap.size W8 V → ExV V (fun b => b < V.heap.size) [.int .i64 k3, .string t3, .int .i64 n3, .slice y3 m3 f3, .slice y4 m4 f4, .slice y5 m5 f5, .slice y6 m6 f6] (.ex k2 t2 n2 nms tys ags ms)) := Lib.hid fun V hV => by
      have hs := hV.size
      refine hxy.carry (fun b hb => ?_) (fun b hb => by have := hb.2; omega)
      rw [hV.block b (by have := hb.2; omega), ← hW8, heap_old hb.2]
    have SO : Hid (∀ V, Below W8.heap.size W8 V → V.cell? ⟨w4.heap.size, 0, none⟩ = some (.int .i64 k2) ∧ V.cell? ⟨w4.heap.size, 1, none⟩ = some (.string t2) ∧ V.cell? ⟨w4.heap.size, 2, none⟩ = some (.int .i64 n2) ∧ V.cell? ⟨w4.heap.size, 3, none⟩ = some (.slice x3 l3 e3) ∧ V.cell? ⟨w4.heap.size, 4, none⟩ = some (.slice x4 l4 e4) ∧ V.cell? ⟨w4.heap.size, 5, none⟩ = some (.slice x5 l5 e5) ∧ V.cell? ⟨w4.heap.size, 6, none⟩ = some (.slice x6 l6 e6) ∧ V.cell? ⟨w4.heap.size + 1, 0, none⟩ = some (.int .i64 k2) ∧ V.cell? ⟨w4.heap.size + 1, 1, none⟩ = some (.string (t2 ++ ⟨#[120]⟩)) ∧ V.cell? ⟨w4.heap.size + 1, 2, none⟩ = some (.int .i64 n2) ∧ V.cell? ⟨w4.heap.size + 1, 3, none⟩ = some (.slice x3 l3 e3) ∧ V.cell? ⟨w4.heap.size + 1, 4, none⟩ = some (.slice x4 l4 e4) ∧ V.cell? ⟨w4.heap.size + 1, 5, none⟩ = some (.slice x5 l5 e5) ∧ V.cell? ⟨w4.heap.size + 1, 6, none⟩ = some (.slice x6 l6 e6) ∧ V.cell? ⟨w7.heap.size, 0, none⟩ = some (.int .i64 k3) ∧ V.cell? ⟨w7.heap.size, 1, none⟩ = some (.string t3) ∧ V.cell? ⟨w7.heap.size, 2, none⟩ = some (.int .i64 n3) ∧ V.cell? ⟨w7.heap.size, 3, none⟩ = some (.slice y3 m3 f3) ∧ V.cell? ⟨w7.heap.size, 4, none⟩ = some (.slice y4 m4 f4) ∧ V.cell? ⟨w7.heap.size, 5, none⟩ = some (.slice y5 m5 f5) ∧ V.cell? ⟨w7.heap.size, 6, none⟩ = some (.slice y6 m6 f6)) := Lib.hid fun V hV => by
      have a1 := (hV.block w4.heap.size (by omega)).trans E8
      have a2 := (hV.block (w4.heap.size + 1) (by omega)).trans X8
      have a3 := (hV.block w7.heap.size (by omega)).trans Y8
      refine ⟨?_, ?_, ?_, ?_, ?_, ?_, ?_, ?_, ?_, ?_, ?_, ?_, ?_, ?_, ?_, ?_, ?_, ?_, ?_, ?_, ?_⟩ <;> first | (rw [Lib.cell_of_heap a1]; rfl) | (rw [Lib.cell_of_heap a2]; rfl) | (rw [Lib.cell_of_heap a3]; rfl)
    have C1 : Hid (∀ V, Below W8.heap.size W8 V → Calls Tryd.prog 12 #[.agg #[.int .i64 k2, .string t2, .int .i64 n2, .slice x3 l3 e3, .slice x4 l4 e4, .slice x5 l5 e5, .slice x6 l6 e6], .agg #[.int .i64 k2, .string (t2 ++ ⟨#[120]⟩), .int .i64 n2, .slice x3 l3 e3, .slice x4 l4 e4, .slice x5 l5 e5, .slice x6 l6 e6]] V fun e w' => e = .returned (.bool false) ∧ Below W8.heap.size W8 w') := Lib.hid fun V hV => by
      refine (sameNd_v (fun b => b < V.heap.size) _ _ _ _ _ _ _ _ _ _ _ _ _ _ V (.ex k2 t2 n2 nms tys ags ms) (.ex k2 (t2 ++ ⟨#[120]⟩) n2 nms tys ags ms) (Nat.le_trans HT.out.2.1 (by omega)) HT.out.2.2 (fun _ h => h) (XE8.out V hV) (XX8.out V hV)).mono ?_
      rintro e w' ⟨rfl, hB⟩
      exact ⟨by rw [same_no hne], hV.trans (hB.mono hV.size)⟩
    have C2 : Hid (∀ V, Below W8.heap.size W8 V → Calls Tryd.prog 12 #[.agg #[.int .i64 k2, .string (t2 ++ ⟨#[120]⟩), .int .i64 n2, .slice x3 l3 e3, .slice x4 l4 e4, .slice x5 l5 e5, .slice x6 l6 e6], .agg #[.int .i64 k2, .string t2, .int .i64 n2, .slice x3 l3 e3, .slice x4 l4 e4, .slice x5 l5 e5, .slice x6 l6 e6]] V fun e w' => e = .returned (.bool false) ∧ Below W8.heap.size W8 w') := Lib.hid fun V hV => by
      refine (sameNd_v (fun b => b < V.heap.size) _ _ _ _ _ _ _ _ _ _ _ _ _ _ V (.ex k2 (t2 ++ ⟨#[120]⟩) n2 nms tys ags ms) (.ex k2 t2 n2 nms tys ags ms) zu fu (fun _ h => h) (XX8.out V hV) (XE8.out V hV)).mono ?_
      rintro e w' ⟨rfl, hB⟩
      exact ⟨by rw [same_no (Ne.symm hne)], hV.trans (hB.mono hV.size)⟩
    have C3 : Hid (∀ V, Below W8.heap.size W8 V → Calls Tryd.prog 12 #[.agg #[.int .i64 k2, .string t2, .int .i64 n2, .slice x3 l3 e3, .slice x4 l4 e4, .slice x5 l5 e5, .slice x6 l6 e6], .agg #[.int .i64 k3, .string t3, .int .i64 n3, .slice y3 m3 f3, .slice y4 m4 f4, .slice y5 m5 f5, .slice y6 m6 f6]] V fun e w' => e = .returned (.bool true) ∧ Below W8.heap.size W8 w') := Lib.hid fun V hV => by
      refine (sameNd_v (fun b => b < V.heap.size) _ _ _ _ _ _ _ _ _ _ _ _ _ _ V (.ex k2 t2 n2 nms tys ags ms) (.ex k2 t2 n2 nms tys ags ms) (Nat.le_trans HT.out.2.1 (by omega)) HT.out.2.2 (fun _ h => h) (XE8.out V hV) (XY8.out V hV)).mono ?_
      rintro e w' ⟨rfl, hB⟩
      exact ⟨by rw [same_self], hV.trans (hB.mono hV.size)⟩
    obtain ⟨z, hz⟩ : ∃ z, ndSize (.ex k2 t2 n2 nms tys ags ms) = z := ⟨_, rfl⟩
    have C4 : Hid (∀ V, Below W8.heap.size W8 V → Calls Tryd.prog 20 #[.agg #[.int .i64 k3, .string t3, .int .i64 n3, .slice y3 m3 f3, .slice y4 m4 f4, .slice y5 m5 f5, .slice y6 m6 f6]] V fun e w' => e = .returned (.int .i64 z) ∧ Below W8.heap.size W8 w') := Lib.hid fun V hV => by
      refine (size_v (fun b => b < V.heap.size) _ _ _ _ _ _ _ V (.ex k2 t2 n2 nms tys ags ms) (Nat.le_trans HT.out.2.1 (by omega)) (fun _ h => h) (XY8.out V hV)).mono ?_
      rintro e w' ⟨rfl, hB⟩
      exact ⟨by rw [hz], hV.trans (hB.mono hV.size)⟩
    have C5 : Hid (∀ V, Below W8.heap.size W8 V → Calls Tryd.prog 20 #[.agg #[.int .i64 k2, .string t2, .int .i64 n2, .slice x3 l3 e3, .slice x4 l4 e4, .slice x5 l5 e5, .slice x6 l6 e6]] V fun e w' => e = .returned (.int .i64 z) ∧ Below W8.heap.size W8 w') := Lib.hid fun V hV => by
      refine (size_v (fun b => b < V.heap.size) _ _ _ _ _ _ _ V (.ex k2 t2 n2 nms tys ags ms) (Nat.le_trans HT.out.2.1 (by omega)) (fun _ h => h) (XE8.out V hV)).mono ?_
      rintro e w' ⟨rfl, hB⟩
      exact ⟨by rw [hz], hV.trans (hB.mono hV.size)⟩
    have zz : ((z : Int) == (z : Int)) = true := beq_self_eq_true _
    have hBB : Below W8.heap.size W8 W8.drew := (Below.refl _ _).drew
    have F8 := Lib.hid hw8
    clear hW8 s8 B8 E8 X8 Y8 hw8 hxy hpy hB7 s7 CO2 HXE6 hb6 s6 hB6 E6 X6 HXX hne zu fu hz
    refine wp_region_held_drew (S := fun V => V.cell? ⟨w4.heap.size, 0, none⟩ = some (.int .i64 k2) ∧ V.cell? ⟨w4.heap.size, 1, none⟩ = some (.string t2) ∧ V.cell? ⟨w4.heap.size, 2, none⟩ = some (.int .i64 n2) ∧ V.cell? ⟨w4.heap.size, 3, none⟩ = some (.slice x3 l3 e3) ∧ V.cell? ⟨w4.heap.size, 4, none⟩ = some (.slice x4 l4 e4) ∧ V.cell? ⟨w4.heap.size, 5, none⟩ = some (.slice x5 l5 e5) ∧ V.cell? ⟨w4.heap.size, 6, none⟩ = some (.slice x6 l6 e6) ∧ V.cell? ⟨w4.heap.size + 1, 0, none⟩ = some (.int .i64 k2) ∧ V.cell? ⟨w4.heap.size + 1, 1, none⟩ = some (.string (t2 ++ ⟨#[120]⟩)) ∧ V.cell? ⟨w4.heap.size + 1, 2, none⟩ = some (.int .i64 n2) ∧ V.cell? ⟨w4.heap.size + 1, 3, none⟩ = some (.slice x3 l3 e3) ∧ V.cell? ⟨w4.heap.size + 1, 4, none⟩ = some (.slice x4 l4 e4) ∧ V.cell? ⟨w4.heap.size + 1, 5, none⟩ = some (.slice x5 l5 e5) ∧ V.cell? ⟨w4.heap.size + 1, 6, none⟩ = some (.slice x6 l6 e6) ∧ V.cell? ⟨w7.heap.size, 0, none⟩ = some (.int .i64 k3) ∧ V.cell? ⟨w7.heap.size, 1, none⟩ = some (.string t3) ∧ V.cell? ⟨w7.heap.size, 2, none⟩ = some (.int .i64 n3) ∧ V.cell? ⟨w7.heap.size, 3, none⟩ = some (.slice y3 m3 f3) ∧ V.cell? ⟨w7.heap.size, 4, none⟩ = some (.slice y4 m4 f4) ∧ V.cell? ⟨w7.heap.size, 5, none⟩ = some (.slice y5 m5 f5) ∧ V.cell? ⟨w7.heap.size, 6, none⟩ = some (.slice y6 m6 f6)) (by kernel_rfl) (SO.out _ hBB) (fun hHeld => ?_)
    refine wpAnyH_take (i := 0) (v := ?_) rfl (by kernel_rfl) (by kernel_rfl) (by kernel_rfl) (fun _ _ _ h => h) (Or.inl ⟨by rfl, ?_⟩) (by assumption) ?_
    rotate_left
    · intro w hSw
      (try dsimp only at hSw)
      go_simp
      try with_reducible rfl
    try simp only [List.getElem_toArray, List.getElem_cons_zero, List.getElem_cons_succ, Act.put, List.setIfInBounds_toArray, List.set_cons_zero, List.set_cons_succ]
    refine wpAnyH_take (i := 1) (v := ?_) rfl (by kernel_rfl) (by kernel_rfl) (by kernel_rfl) (fun _ _ _ h => h) (Or.inl ⟨by rfl, ?_⟩) (by assumption) ?_
    rotate_left
    · intro w hSw
      (try dsimp only at hSw)
      go_simp
      try with_reducible rfl
    try simp only [List.getElem_toArray, List.getElem_cons_zero, List.getElem_cons_succ, Act.put, List.setIfInBounds_toArray, List.set_cons_zero, List.set_cons_succ]
    refine wpAnyH_ready (rs := [2]) (by kernel_rfl) (by simp) ?_
    refine AllReadyH.cons (by simp only [List.getElem?_toArray, List.getElem?_cons_zero, List.getElem?_cons_succ]; rfl) (fun K hK => ?_) AllReadyH.nil
    go_simp
    (go_at_call 12; with_reducible refine (C1.out _ hBB).mono ?_; rintro e9 w9 ⟨rfl, hBB⟩)
    go_wp2_with fail
    refine hK.out _ _ (by first | assumption | exact SO.out _ hBB) (fun hHeld => ?_)
    try simp only [List.getElem_toArray, List.getElem_cons_zero, List.getElem_cons_succ, Act.put, List.setIfInBounds_toArray, List.set_cons_zero, List.set_cons_succ]
    refine wpAnyH_take (i := 3) (v := ?_) rfl (by kernel_rfl) (by kernel_rfl) (by kernel_rfl) (fun _ _ _ h => h) (Or.inl ⟨by rfl, ?_⟩) (by assumption) ?_
    rotate_left
    · intro w hSw
      (try dsimp only at hSw)
      go_simp
      try with_reducible rfl
    try simp only [List.getElem_toArray, List.getElem_cons_zero, List.getElem_cons_succ, Act.put, List.setIfInBounds_toArray, List.set_cons_zero, List.set_cons_succ]
    refine wpAnyH_take (i := 4) (v := ?_) rfl (by kernel_rfl) (by kernel_rfl) (by kernel_rfl) (fun _ _ _ h => h) (Or.inl ⟨by rfl, ?_⟩) (by assumption) ?_
    rotate_left
    · intro w hSw
      (try dsimp only at hSw)
      go_simp
      try with_reducible rfl
    try simp only [List.getElem_toArray, List.getElem_cons_zero, List.getElem_cons_succ, Act.put, List.setIfInBounds_toArray, List.set_cons_zero, List.set_cons_succ]
    refine wpAnyH_take (i := 5) (v := ?_) rfl (by kernel_rfl) (by kernel_rfl) (by kernel_rfl) (fun _ _ _ h => h) (Or.inl ⟨by rfl, ?_⟩) (by assumption) ?_
    rotate_left
    · intro w hSw
      (try dsimp only at hSw)
      go_simp
      try with_reducible rfl
    try simp only [List.getElem_toArray, List.getElem_cons_zero, List.getElem_cons_succ, Act.put, List.setIfInBounds_toArray, List.set_cons_zero, List.set_cons_succ]
    refine wpAnyH_take (i := 6) (v := ?_) rfl (by kernel_rfl) (by kernel_rfl) (by kernel_rfl) (fun _ _ _ h => h) (Or.inl ⟨by rfl, ?_⟩) (by assumption) ?_
    rotate_left
    · intro w hSw
      (try dsimp only at hSw)
      go_simp
      try with_reducible rfl
    try simp only [List.getElem_toArray, List.getElem_cons_zero, List.getElem_cons_succ, Act.put, List.setIfInBounds_toArray, List.set_cons_zero, List.set_cons_succ]
    refine wpAnyH_ready (rs := [7]) (by kernel_rfl) (by simp) ?_
    refine AllReadyH.cons (by simp only [List.getElem?_toArray, List.getElem?_cons_zero, List.getElem?_cons_succ]; rfl) (fun K hK => ?_) AllReadyH.nil
    go_simp
    (go_at_call 12; with_reducible refine (C2.out _ hBB).mono ?_; rintro e9 w9 ⟨rfl, hBB⟩)
    go_wp2_with fail
    refine hK.out _ _ (by first | assumption | exact SO.out _ hBB) (fun hHeld => ?_)
    try simp only [List.getElem_toArray, List.getElem_cons_zero, List.getElem_cons_succ, Act.put, List.setIfInBounds_toArray, List.set_cons_zero, List.set_cons_succ]
    refine wpAnyH_take (i := 8) (v := ?_) rfl (by kernel_rfl) (by kernel_rfl) (by kernel_rfl) (fun _ _ _ h => h) (Or.inl ⟨by rfl, ?_⟩) (by assumption) ?_
    rotate_left
    · intro w hSw
      (try dsimp only at hSw)
      go_simp
      try with_reducible rfl
    try simp only [List.getElem_toArray, List.getElem_cons_zero, List.getElem_cons_succ, Act.put, List.setIfInBounds_toArray, List.set_cons_zero, List.set_cons_succ]
    refine wpAnyH_take (i := 9) (v := ?_) rfl (by kernel_rfl) (by kernel_rfl) (by kernel_rfl) (fun _ _ _ h => h) (Or.inl ⟨by rfl, ?_⟩) (by assumption) ?_
    rotate_left
    · intro w hSw
      (try dsimp only at hSw)
      go_simp
      try with_reducible rfl
    try simp only [List.getElem_toArray, List.getElem_cons_zero, List.getElem_cons_succ, Act.put, List.setIfInBounds_toArray, List.set_cons_zero, List.set_cons_succ]
    refine wpAnyH_take (i := 10) (v := ?_) rfl (by kernel_rfl) (by kernel_rfl) (by kernel_rfl) (fun _ _ _ h => h) (Or.inl ⟨by rfl, ?_⟩) (by assumption) ?_
    rotate_left
    · intro w hSw
      (try dsimp only at hSw)
      go_simp
      try with_reducible rfl
    try simp only [List.getElem_toArray, List.getElem_cons_zero, List.getElem_cons_succ, Act.put, List.setIfInBounds_toArray, List.set_cons_zero, List.set_cons_succ]
    refine wpAnyH_take (i := 11) (v := ?_) rfl (by kernel_rfl) (by kernel_rfl) (by kernel_rfl) (fun _ _ _ h => h) (Or.inl ⟨by rfl, ?_⟩) (by assumption) ?_
    rotate_left
    · intro w hSw
      (try dsimp only at hSw)
      go_simp
      try with_reducible rfl
    try simp only [List.getElem_toArray, List.getElem_cons_zero, List.getElem_cons_succ, Act.put, List.setIfInBounds_toArray, List.set_cons_zero, List.set_cons_succ]
    refine wpAnyH_take (i := 12) (v := ?_) rfl (by kernel_rfl) (by kernel_rfl) (by kernel_rfl) (fun _ _ _ h => h) (Or.inl ⟨by rfl, ?_⟩) (by assumption) ?_
    rotate_left
    · intro w hSw
      (try dsimp only at hSw)
      go_simp
      try with_reducible rfl
    try simp only [List.getElem_toArray, List.getElem_cons_zero, List.getElem_cons_succ, Act.put, List.setIfInBounds_toArray, List.set_cons_zero, List.set_cons_succ]
    refine wpAnyH_ready (rs := [13]) (by kernel_rfl) (by simp) ?_
    refine AllReadyH.cons (by simp only [List.getElem?_toArray, List.getElem?_cons_zero, List.getElem?_cons_succ]; rfl) (fun K hK => ?_) AllReadyH.nil
    go_simp
    (go_at_call 12; with_reducible refine (C3.out _ hBB).mono ?_; rintro e9 w9 ⟨rfl, hBB⟩)
    go_wp2_with fail
    refine hK.out _ _ (by first | assumption | exact SO.out _ hBB) (fun hHeld => ?_)
    try simp only [List.getElem_toArray, List.getElem_cons_zero, List.getElem_cons_succ, Act.put, List.setIfInBounds_toArray, List.set_cons_zero, List.set_cons_succ]
    refine wpAnyH_take (i := 14) (v := ?_) rfl (by kernel_rfl) (by kernel_rfl) (by kernel_rfl) (fun _ _ _ h => h) (Or.inl ⟨by rfl, ?_⟩) (by assumption) ?_
    rotate_left
    · intro w hSw
      (try dsimp only at hSw)
      go_simp
      try with_reducible rfl
    try simp only [List.getElem_toArray, List.getElem_cons_zero, List.getElem_cons_succ, Act.put, List.setIfInBounds_toArray, List.set_cons_zero, List.set_cons_succ]
    refine wpAnyH_take (i := 15) (v := ?_) rfl (by kernel_rfl) (by kernel_rfl) (by kernel_rfl) (fun _ _ _ h => h) (Or.inl ⟨by rfl, ?_⟩) (by assumption) ?_
    rotate_left
    · intro w hSw
      (try dsimp only at hSw)
      go_simp
      try with_reducible rfl
    try simp only [List.getElem_toArray, List.getElem_cons_zero, List.getElem_cons_succ, Act.put, List.setIfInBounds_toArray, List.set_cons_zero, List.set_cons_succ]
    refine wpAnyH_take (i := 16) (v := ?_) rfl (by kernel_rfl) (by kernel_rfl) (by kernel_rfl) (fun _ _ _ h => h) (Or.inl ⟨by rfl, ?_⟩) (by assumption) ?_
    rotate_left
    · intro w hSw
      (try dsimp only at hSw)
      go_simp
      try with_reducible rfl
    try simp only [List.getElem_toArray, List.getElem_cons_zero, List.getElem_cons_succ, Act.put, List.setIfInBounds_toArray, List.set_cons_zero, List.set_cons_succ]
    refine wpAnyH_take (i := 18) (v := ?_) rfl (by kernel_rfl) (by kernel_rfl) (by kernel_rfl) (fun _ _ _ h => h) (Or.inl ⟨by rfl, ?_⟩) (by assumption) ?_
    rotate_left
    · intro w hSw
      (try dsimp only at hSw)
      go_simp
      try with_reducible rfl
    try simp only [List.getElem_toArray, List.getElem_cons_zero, List.getElem_cons_succ, Act.put, List.setIfInBounds_toArray, List.set_cons_zero, List.set_cons_succ]
    refine wpAnyH_ready (rs := [17]) (by kernel_rfl) (by simp) ?_
    refine AllReadyH.cons (by simp only [List.getElem?_toArray, List.getElem?_cons_zero, List.getElem?_cons_succ]; rfl) (fun K hK => ?_) AllReadyH.nil
    go_simp
    (go_at_call 20; with_reducible refine (C4.out _ hBB).mono ?_; rintro e9 w9 ⟨rfl, hBB⟩)
    go_wp2_with fail
    refine hK.out _ _ (by first | assumption | exact SO.out _ hBB) (fun hHeld => ?_)
    try simp only [List.getElem_toArray, List.getElem_cons_zero, List.getElem_cons_succ, Act.put, List.setIfInBounds_toArray, List.set_cons_zero, List.set_cons_succ]
    refine wpAnyH_ready (rs := [19]) (by kernel_rfl) (by simp) ?_
    refine AllReadyH.cons (by simp only [List.getElem?_toArray, List.getElem?_cons_zero, List.getElem?_cons_succ]; rfl) (fun K hK => ?_) AllReadyH.nil
    go_simp
    (go_at_call 20; with_reducible refine (C5.out _ hBB).mono ?_; rintro e9 w9 ⟨rfl, hBB⟩)
    go_wp2_with fail
    refine hK.out _ _ (by first | assumption | exact SO.out _ hBB) (fun hHeld => ?_)
    try simp only [List.getElem_toArray, List.getElem_cons_zero, List.getElem_cons_succ, Act.put, List.setIfInBounds_toArray, List.set_cons_zero, List.set_cons_succ]
    refine wpAnyH_take (i := 20) (v := ?_) rfl (by kernel_rfl) (by kernel_rfl) (by kernel_rfl) (fun _ _ _ h => h) (Or.inl ⟨by rfl, ?_⟩) (by assumption) ?_
    rotate_left
    · intro w hSw
      (try dsimp only at hSw)
      go_simp
      try with_reducible rfl
    try simp only [List.getElem_toArray, List.getElem_cons_zero, List.getElem_cons_succ, Act.put, List.setIfInBounds_toArray, List.set_cons_zero, List.set_cons_succ]
    refine wpAnyH_take (i := 21) (v := ?_) rfl (by kernel_rfl) (by kernel_rfl) (by kernel_rfl) (fun _ _ _ h => h) (Or.inl ⟨by rfl, ?_⟩) (by assumption) ?_
    rotate_left
    · intro w hSw
      (try dsimp only at hSw)
      go_simp
      try with_reducible rfl
    try simp only [List.getElem_toArray, List.getElem_cons_zero, List.getElem_cons_succ, Act.put, List.setIfInBounds_toArray, List.set_cons_zero, List.set_cons_succ]
    refine wpAnyH_take (i := 22) (v := ?_) rfl (by kernel_rfl) (by kernel_rfl) (by kernel_rfl) (fun _ _ _ h => h) (Or.inl ⟨by rfl, ?_⟩) (by assumption) ?_
    rotate_left
    · intro w hSw
      (try dsimp only at hSw)
      go_simp
      try with_reducible rfl
    try simp only [List.getElem_toArray, List.getElem_cons_zero, List.getElem_cons_succ, Act.put, List.setIfInBounds_toArray, List.set_cons_zero, List.set_cons_succ]
    refine wpAnyH_done (by kernel_rfl) ?_ _
    go_wp2_with fail
    go_ret
    exact ⟨by rfl, F8.out.trans (hBB.mono F8.out.size)⟩

set_option linter.unusedSimpArgs false in
set_option maxHeartbeats 20000000 in
set_option maxRecDepth 100000 in
theorem apart_2 (T : TypeId) (v : Value) (l : List Pt) (vl : Value) (q : Int) (w : World) (hg : w.cell? ⟨0, 0, none⟩ = some (.iface T v)) (hgl : 0 < w.heap.size) (ha : PV w w.heap.size vl l)
    (hla : (l.length : Int) ≤ 140737488355328) (hq0 : 0 ≤ q) (hq1 : q ≤ 255) (hq : q % 7 = 2) :
    Calls Tryd.prog 5 #[vl, .int .u8 q] w fun e w' => e = .returned (.bool true) ∧ Below w.heap.size w w' := by
  have HG := Lib.hid hg
  have HA := Lib.hid (And.intro ha hla)
  have HQ := Lib.hid hq
  clear hg ha hla hq
  go_enter Tryd.func5, Tryd.ntmps5
  go_wp2_with fail
  refine (alive_any T v _ HG.out hgl).mono ?_
  rintro e w1 ⟨rfl, hB1⟩
  have s1 := hB1.size
  have PA1 := Lib.hid (HA.out.1.carry hB1)
  go_wp2_with fail
  refine (great2_any w.heap.size l vl w1 s1 HA.out.2 PA1.out).mono ?_
  rintro e w2 ⟨b1, rfl, hb1, hB2⟩
  have s2 := hB2.size
  cases b1 with
  | true =>
    go_wp2_with fail
    go_ret
    exact ⟨rfl, hB1.trans (hB2.mono s1)⟩
  | false =>
    have HL1 := Lib.hid (hb1 rfl)
    clear hb1
    have PA2 := Lib.hid (PA1.out.carry' hB2 s1)
    have CO := Lib.hid (of_any w.heap.size 2000 l vl w2 (by omega) (by have := HL1.out.1; omega) (by have := HL1.out.1; omega) PA2.out)
    go_wp2_with fail
    refine CO.out.mono ?_
    rintro e w4 ⟨c0, c1, c2, c3, c4, c5, c6, rest, rfl, hxe, hpe, hB4⟩
    obtain ⟨⟨x3, l3, e3, rfl⟩, ⟨x4, l4, e4, rfl⟩, ⟨x5, l5, e5, rfl⟩, ⟨x6, l6, e6, rfl⟩⟩ := hxe.shapes
    obtain ⟨k2, t2, n2, rfl, rfl, rfl⟩ := hxe.heads
    obtain ⟨t, ht⟩ : ∃ t, (ofL 2000 l).1 = t := ⟨_, rfl⟩
    have zt : ndSize t ≤ 400000 := by have := (ofL_fine 2000 l).2; have := HL1.out.1; rw [← ht]; omega
    have ft : TyFine t := by rw [← ht]; exact ofL_mild 2000 l
    have hd : headOk t := by rw [← ht]; exact ofL_head 2000 l HL1.out.2
    rw [ht] at hxe
    have HT := Lib.hid (And.intro ht (And.intro zt ft))
    have s4 := hB4.size
    have hxe2 := hxe
    obtain ⟨_, _, _, _, _, _, _, nms, tys, ags, ms, ga, oa, gn, on, gt, ot, gm, om, hvs, rfl, ha, hn, htt, hm, hs, hns, hts, hms, hax, hmx⟩ := hxe2
    simp only [List.cons.injEq, Value.int.injEq, Value.string.injEq, true_and, and_true] at hvs
    obtain ⟨rfl, rfl, rfl, rfl, rfl, rfl, rfl⟩ := hvs
    simp only [headOk] at hd
    obtain ⟨d1, d2, d3, d4, d5, d6⟩ := hd
    have BW4 : Below w.heap.size w w4 := hB1.trans ((hB2.mono s1).trans (hB4.mono (by omega)))
    have HXE := Lib.hid hxe
    have P4 := Lib.hid (PA2.out.carry' hB4 (by omega))
    have HD := Lib.hid (And.intro d1 (And.intro d2 (And.intro d3 (And.intro d4 (And.intro d5 d6)))))
    have HAll := Lib.hid (And.intro ha (And.intro hn (And.intro htt (And.intro hm (And.intro hs (And.intro hns (And.intro hts (And.intro hms (And.intro hax hmx)))))))))
    clear ha hn htt hm hs hns hts hms hax hmx hxe hpe ht zt ft CO d1 d2 d3 d4 d5 d6
    have hq := HQ.out
    go_wp2_with fail
    clear hq
    have hne : (.ex k2 t2 n2 nms tys ags ms : Nd) ≠ .ex k2 t2 (wrap64 (n2 + 1)) nms tys ags ms := fun h => by
      have h1 : n2 = wrap64 (n2 + 1) := by injection h
      unfold wrap64 at h1; omega
    have zu : ndSize (.ex k2 t2 (wrap64 (n2 + 1)) nms tys ags ms) ≤ 900000 := by have := HT.out.2.1; rw [ndSize_ex] at this ⊢; omega
    have fu : TyFine (.ex k2 t2 (wrap64 (n2 + 1)) nms tys ags ms) := by
      cases HT.out.2.2 with
      | ex h1 h2 h3 => exact .ex h1 h2 h3
    obtain ⟨W6, hW6⟩ : ∃ W6, ((w4.alloc (.cells #[.int .i64 k2, .string t2, .int .i64 n2, .slice x3 l3 e3, .slice x4 l4 e4, .slice x5 l5 e5, .slice x6 l6 e6] 33)).alloc (.cells #[.int .i64 k2, .string t2, .int .i64 (wrap64 (n2 + 1)), .slice x3 l3 e3, .slice x4 l4 e4, .slice x5 l5 e5, .slice x6 l6 e6] 33)) = W6 := ⟨_, rfl⟩
    rw [hW6]
    have hB6 : Below w4.heap.size w4 W6 := by rw [← hW6]; exact ((Below.refl _ _).alloc (Nat.le_refl _) _).alloc (by simp) _
    have E6 : W6.heap[w4.heap.size]? = some (.cells #[.int .i64 k2, .string t2, .int .i64 n2, .slice x3 l3 e3, .slice x4 l4 e4, .slice x5 l5 e5, .slice x6 l6 e6] 33) := by rw [← hW6, heap_old (by simp), heap_last rfl]
    have X6 : W6.heap[w4.heap.size + 1]? = some (.cells #[.int .i64 k2, .string t2, .int .i64 (wrap64 (n2 + 1)), .slice x3 l3 e3, .slice x4 l4 e4, .slice x5 l5 e5, .slice x6 l6 e6] 33) := by rw [← hW6, heap_last (by simp)]
    have HXX : ExV W6 (fun b => b < W6.heap.size) [.int .i64 k2, .string t2, .int .i64 (wrap64 (n2 + 1)), .slice x3 l3 e3, .slice x4 l4 e4, .slice x5 l5 e5, .slice x6 l6 e6] (.ex k2 t2 (wrap64 (n2 + 1)) nms tys ags ms) := by
      have h6 := hB6.size
      have k : Keeps (fun b => w2.heap.size < b ∧ b < w4.heap.size) w4 W6 := fun b hb => hB6.block b hb.2
      obtain ⟨ha, hn, htt, hm, hs, hns, hts, hms, hax, hmx⟩ := HAll.out
      have hC : ∀ b, (w2.heap.size < b ∧ b < w4.heap.size) → b < W6.heap.size := fun b hb => by omega
      exact ⟨_, _, _, _, _, _, _, nms, tys, ags, ms, ga, oa, gn, on, gt, ot, gm, om, rfl, rfl, ha.mono hC, hn.mono hC, htt.mono hC, hm.mono hC, fun i hi => (hs i hi).carry k hC, fun i hi => k.cell (hn.lt (by omega)) (hns i hi), fun i hi => (hts i hi).carry k hC, fun i hi => (hms i hi).carry k hC, hax, hmx⟩
    clear hW6
    have s6 := hB6.size
    have hb6 : w4.heap.size + 2 ≤ W6.heap.size := by
      rcases Nat.lt_or_ge (w4.heap.size + 1) W6.heap.size with h | h
      · omega
      · rw [Array.getElem?_eq_none h] at X6; cases X6
    have HXE6 : ExV W6 (fun b => b < W6.heap.size) [.int .i64 k2, .string t2, .int .i64 n2, .slice x3 l3 e3, .slice x4 l4 e4, .slice x5 l5 e5, .slice x6 l6 e6] (.ex k2 t2 n2 nms tys ags ms) := HXE.out.carry (fun b hb => hB6.block b hb.2) (fun b hb => by have := hb.2; omega)
    have CO2 := Lib.hid (of_any w.heap.size 2000 l vl W6 (by omega) (by have := HL1.out.1; omega) (by have := HL1.out.1; omega) (P4.out.carry' hB6 (by omega)))
    refine CO2.out.mono ?_
    rintro e w7 ⟨q0, q1, q2, q3, q4, q5, q6, rest2, rfl, hxy, hpy, hB7⟩
    obtain ⟨⟨y3, m3, f3, rfl⟩, ⟨y4, m4, f4, rfl⟩, ⟨y5, m5, f5, rfl⟩, ⟨y6, m6, f6, rfl⟩⟩ := hxy.shapes
    obtain ⟨k3, t3, n3, rfl, rfl, rfl⟩ := hxy.heads
    rw [HT.out.1] at hxy
    have s7 := hB7.size
    go_wp2_with fail
    obtain ⟨W8, hW8⟩ : ∃ W8, w7.alloc (.cells #[.int .i64 k3, .string t3, .int .i64 n3, .slice y3 m3 f3, .slice y4 m4 f4, .slice y5 m5 f5, .slice y6 m6 f6] 33) = W8 := ⟨_, rfl⟩
    rw [hW8]
    have s8 : W8.heap.size = w7.heap.size + 1 := by rw [← hW8]; simp
    have B8 : ∀ b, b < W6.heap.size → W8.heap[b]? = W6.heap[b]? := fun b hb => by rw [← hW8, heap_old (by omega), hB7.block b hb]
    have E8 := (B8 w4.heap.size (by omega)).trans E6
    have X8 := (B8 (w4.heap.size + 1) (by omega)).trans X6
    have Y8 : W8.heap[w7.heap.size]? = some (.cells #[.int .i64 k3, .string t3, .int .i64 n3, .slice y3 m3 f3, .slice y4 m4 f4, .slice y5 m5 f5, .slice y6 m6 f6] 33) := by rw [← hW8]; exact heap_last rfl
    have hw8 : Below w.heap.size w W8 := by
      rw [← hW8]
      exact ((BW4.trans (hB6.mono (by omega))).trans (hB7.mono (by omega))).alloc (by omega) _
    have XE8 : Hid (∀ V, Below W8.heap.size W8 V → ExV V (fun b => b < V.heap.size) [.int .i64 k2, .string t2, .int .i64 n2, .slice x3 l3 e3, .slice x4 l4 e4, .slice x5 l5 e5, .slice x6 l6 e6] (.ex k2 t2 n2 nms tys ags ms)) := Lib.hid fun V hV => by
      have hs := hV.size
      exact HXE6.carry (fun b hb => (hV.block b (by omega)).trans (B8 b hb)) (fun b hb => by omega)
    have XX8 : Hid (∀ V, Below W8.heap.size W8 V → ExV V (fun b => b < V.heap.size) [.int .i64 k2, .string t2, .int .i64 (wrap64 (n2 + 1)), .slice x3 l3 e3, .slice x4 l4 e4, .slice x5 l5 e5, .slice x6 l6 e6] (.ex k2 t2 (wrap64 (n2 + 1)) nms tys ags ms)) := Lib.hid fun V hV => by
      have hs := hV.size
      exact HXX.carry (fun b hb => (hV.block b (by omega)).trans (B8 b hb)) (fun b hb => by omega)
    have XY8 : Hid (∀ V, Below W8.heap.size W8 V → ExV V (fun b => b < V.heap.size) [.int .i64 k3, .string t3, .int .i64 n3, .slice y3 m3 f3, .slice y4 m4 f4, .slice y5 m5 f5, .slice y6 m6 f6] (.ex k2 t2 n2 nms tys ags ms)) := Lib.hid fun V hV => by
      have hs := hV.size
      refine hxy.carry (fun b hb => ?_) (fun b hb => by have := hb.2; omega)
      rw [hV.block b (by have := hb.2; omega), ← hW8, heap_old hb.2]
    have SO : Hid (∀ V, Below W8.heap.size W8 V → V.cell? ⟨w4.heap.size, 0, none⟩ = some (.int .i64 k2) ∧ V.cell? ⟨w4.heap.size, 1, none⟩ = some (.string t2) ∧ V.cell? ⟨w4.heap.size, 2, none⟩ = some (.int .i64 n2) ∧ V.cell? ⟨w4.heap.size, 3, none⟩ = some (.slice x3 l3 e3) ∧ V.cell? ⟨w4.heap.size, 4, none⟩ = some (.slice x4 l4 e4) ∧ V.cell? ⟨w4.heap.size, 5, none⟩ = some (.slice x5 l5 e5) ∧ V.cell? ⟨w4.heap.size, 6, none⟩ = some (.slice x6 l6 e6) ∧ V.cell? ⟨w4.heap.size + 1, 0, none⟩ = some (.int .i64 k2) ∧ V.cell? ⟨w4.heap.size + 1, 1, none⟩ = some (.string t2) ∧ V.cell? ⟨w4.heap.size + 1, 2, none⟩ = some (.int .i64 (wrap64 (n2 + 1))) ∧ V.cell? ⟨w4.heap.size + 1, 3, none⟩ = some (.slice x3 l3 e3) ∧ V.cell? ⟨w4.heap.size + 1, 4, none⟩ = some (.slice x4 l4 e4) ∧ V.cell? ⟨w4.heap.size + 1, 5, none⟩ = some (.slice x5 l5 e5) ∧ V.cell? ⟨w4.heap.size + 1, 6, none⟩ = some (.slice x6 l6 e6) ∧ V.cell? ⟨w7.heap.size, 0, none⟩ = some (.int .i64 k3) ∧ V.cell? ⟨w7.heap.size, 1, none⟩ = some (.string t3) ∧ V.cell? ⟨w7.heap.size, 2, none⟩ = some (.int .i64 n3) ∧ V.cell? ⟨w7.heap.size, 3, none⟩ = some (.slice y3 m3 f3) ∧ V.cell? ⟨w7.heap.size, 4, none⟩ = some (.slice y4 m4 f4) ∧ V.cell? ⟨w7.heap.size, 5, none⟩ = some (.slice y5 m5 f5) ∧ V.cell? ⟨w7.heap.size, 6, none⟩ = some (.slice y6 m6 f6)) := Lib.hid fun V hV => by
      have a1 := (hV.block w4.heap.size (by omega)).trans E8
      have a2 := (hV.block (w4.heap.size + 1) (by omega)).trans X8
      have a3 := (hV.block w7.heap.size (by omega)).trans Y8
      refine ⟨?_, ?_, ?_, ?_, ?_, ?_, ?_, ?_, ?_, ?_, ?_, ?_, ?_, ?_, ?_, ?_, ?_, ?_, ?_, ?_, ?_⟩ <;> first | (rw [Lib.cell_of_heap a1]; rfl) | (rw [Lib.cell_of_heap a2]; rfl) | (rw [Lib.cell_of_heap a3]; rfl)
    have C1 : Hid (∀ V, Below W8.heap.size W8 V → Calls Tryd.prog 12 #[.agg #[.int .i64 k2, .string t2, .int .i64 n2, .slice x3 l3 e3, .slice x4 l4 e4, .slice x5 l5 e5, .slice x6 l6 e6], .agg #[.int .i64 k2, .string t2, .int .i64 (wrap64 (n2 + 1)), .slice x3 l3 e3, .slice x4 l4 e4, .slice x5 l5 e5, .slice x6 l6 e6]] V fun e w' => e = .returned (.bool false) ∧ Below W8.heap.size W8 w') := Lib.hid fun V hV => by
      refine (sameNd_v (fun b => b < V.heap.size) _ _ _ _ _ _ _ _ _ _ _ _ _ _ V (.ex k2 t2 n2 nms tys ags ms) (.ex k2 t2 (wrap64 (n2 + 1)) nms tys ags ms) (Nat.le_trans HT.out.2.1 (by omega)) HT.out.2.2 (fun _ h => h) (XE8.out V hV) (XX8.out V hV)).mono ?_
      rintro e w' ⟨rfl, hB⟩
      exact ⟨by rw [same_no hne], hV.trans (hB.mono hV.size)⟩
    have C2 : Hid (∀ V, Below W8.heap.size W8 V → Calls Tryd.prog 12 #[.agg #[.int .i64 k2, .string t2, .int .i64 (wrap64 (n2 + 1)), .slice x3 l3 e3, .slice x4 l4 e4, .slice x5 l5 e5, .slice x6 l6 e6], .agg #[.int .i64 k2, .string t2, .int .i64 n2, .slice x3 l3 e3, .slice x4 l4 e4, .slice x5 l5 e5, .slice x6 l6 e6]] V fun e w' => e = .returned (.bool false) ∧ Below W8.heap.size W8 w') := Lib.hid fun V hV => by
      refine (sameNd_v (fun b => b < V.heap.size) _ _ _ _ _ _ _ _ _ _ _ _ _ _ V (.ex k2 t2 (wrap64 (n2 + 1)) nms tys ags ms) (.ex k2 t2 n2 nms tys ags ms) zu fu (fun _ h => h) (XX8.out V hV) (XE8.out V hV)).mono ?_
      rintro e w' ⟨rfl, hB⟩
      exact ⟨by rw [same_no (Ne.symm hne)], hV.trans (hB.mono hV.size)⟩
    have C3 : Hid (∀ V, Below W8.heap.size W8 V → Calls Tryd.prog 12 #[.agg #[.int .i64 k2, .string t2, .int .i64 n2, .slice x3 l3 e3, .slice x4 l4 e4, .slice x5 l5 e5, .slice x6 l6 e6], .agg #[.int .i64 k3, .string t3, .int .i64 n3, .slice y3 m3 f3, .slice y4 m4 f4, .slice y5 m5 f5, .slice y6 m6 f6]] V fun e w' => e = .returned (.bool true) ∧ Below W8.heap.size W8 w') := Lib.hid fun V hV => by
      refine (sameNd_v (fun b => b < V.heap.size) _ _ _ _ _ _ _ _ _ _ _ _ _ _ V (.ex k2 t2 n2 nms tys ags ms) (.ex k2 t2 n2 nms tys ags ms) (Nat.le_trans HT.out.2.1 (by omega)) HT.out.2.2 (fun _ h => h) (XE8.out V hV) (XY8.out V hV)).mono ?_
      rintro e w' ⟨rfl, hB⟩
      exact ⟨by rw [same_self], hV.trans (hB.mono hV.size)⟩
    obtain ⟨z, hz⟩ : ∃ z, ndSize (.ex k2 t2 n2 nms tys ags ms) = z := ⟨_, rfl⟩
    have C4 : Hid (∀ V, Below W8.heap.size W8 V → Calls Tryd.prog 20 #[.agg #[.int .i64 k3, .string t3, .int .i64 n3, .slice y3 m3 f3, .slice y4 m4 f4, .slice y5 m5 f5, .slice y6 m6 f6]] V fun e w' => e = .returned (.int .i64 z) ∧ Below W8.heap.size W8 w') := Lib.hid fun V hV => by
      refine (size_v (fun b => b < V.heap.size) _ _ _ _ _ _ _ V (.ex k2 t2 n2 nms tys ags ms) (Nat.le_trans HT.out.2.1 (by omega)) (fun _ h => h) (XY8.out V hV)).mono ?_
      rintro e w' ⟨rfl, hB⟩
      exact ⟨by rw [hz], hV.trans (hB.mono hV.size)⟩
    have C5 : Hid (∀ V, Below W8.heap.size W8 V → Calls Tryd.prog 20 #[.agg #[.int .i64 k2, .string t2, .int .i64 n2, .slice x3 l3 e3, .slice x4 l4 e4, .slice x5 l5 e5, .slice x6 l6 e6]] V fun e w' => e = .returned (.int .i64 z) ∧ Below W8.heap.size W8 w') := Lib.hid fun V hV => by
      refine (size_v (fun b => b < V.heap.size) _ _ _ _ _ _ _ V (.ex k2 t2 n2 nms tys ags ms) (Nat.le_trans HT.out.2.1 (by omega)) (fun _ h => h) (XE8.out V hV)).mono ?_
      rintro e w' ⟨rfl, hB⟩
      exact ⟨by rw [hz], hV.trans (hB.mono hV.size)⟩
    have zz : ((z : Int) == (z : Int)) = true := beq_self_eq_true _
    have hBB : Below W8.heap.size W8 W8.drew := (Below.refl _ _).drew
    have F8 := Lib.hid hw8
    clear hW8 s8 B8 E8 X8 Y8 hw8 hxy hpy hB7 s7 CO2 HXE6 hb6 s6 hB6 E6 X6 HXX hne zu fu hz
    refine wp_region_held_drew (S := fun V => V.cell? ⟨w4.heap.size, 0, none⟩ = some (.int .i64 k2) ∧ V.cell? ⟨w4.heap.size, 1, none⟩ = some (.string t2) ∧ V.cell? ⟨w4.heap.size, 2, none⟩ = some (.int .i64 n2) ∧ V.cell? ⟨w4.heap.size, 3, none⟩ = some (.slice x3 l3 e3) ∧ V.cell? ⟨w4.heap.size, 4, none⟩ = some (.slice x4 l4 e4) ∧ V.cell? ⟨w4.heap.size, 5, none⟩ = some (.slice x5 l5 e5) ∧ V.cell? ⟨w4.heap.size, 6, none⟩ = some (.slice x6 l6 e6) ∧ V.cell? ⟨w4.heap.size + 1, 0, none⟩ = some (.int .i64 k2) ∧ V.cell? ⟨w4.heap.size + 1, 1, none⟩ = some (.string t2) ∧ V.cell? ⟨w4.heap.size + 1, 2, none⟩ = some (.int .i64 (wrap64 (n2 + 1))) ∧ V.cell? ⟨w4.heap.size + 1, 3, none⟩ = some (.slice x3 l3 e3) ∧ V.cell? ⟨w4.heap.size + 1, 4, none⟩ = some (.slice x4 l4 e4) ∧ V.cell? ⟨w4.heap.size + 1, 5, none⟩ = some (.slice x5 l5 e5) ∧ V.cell? ⟨w4.heap.size + 1, 6, none⟩ = some (.slice x6 l6 e6) ∧ V.cell? ⟨w7.heap.size, 0, none⟩ = some (.int .i64 k3) ∧ V.cell? ⟨w7.heap.size, 1, none⟩ = some (.string t3) ∧ V.cell? ⟨w7.heap.size, 2, none⟩ = some (.int .i64 n3) ∧ V.cell? ⟨w7.heap.size, 3, none⟩ = some (.slice y3 m3 f3) ∧ V.cell? ⟨w7.heap.size, 4, none⟩ = some (.slice y4 m4 f4) ∧ V.cell? ⟨w7.heap.size, 5, none⟩ = some (.slice y5 m5 f5) ∧ V.cell? ⟨w7.heap.size, 6, none⟩ = some (.slice y6 m6 f6)) (by kernel_rfl) (SO.out _ hBB) (fun hHeld => ?_)
    refine wpAnyH_take (i := 0) (v := ?_) rfl (by kernel_rfl) (by kernel_rfl) (by kernel_rfl) (fun _ _ _ h => h) (Or.inl ⟨by rfl, ?_⟩) (by assumption) ?_
    rotate_left
    · intro w hSw
      (try dsimp only at hSw)
      go_simp
      try with_reducible rfl
    try simp only [List.getElem_toArray, List.getElem_cons_zero, List.getElem_cons_succ, Act.put, List.setIfInBounds_toArray, List.set_cons_zero, List.set_cons_succ]
    refine wpAnyH_take (i := 1) (v := ?_) rfl (by kernel_rfl) (by kernel_rfl) (by kernel_rfl) (fun _ _ _ h => h) (Or.inl ⟨by rfl, ?_⟩) (by assumption) ?_
    rotate_left
    · intro w hSw
      (try dsimp only at hSw)
      go_simp
      try with_reducible rfl
    try simp only [List.getElem_toArray, List.getElem_cons_zero, List.getElem_cons_succ, Act.put, List.setIfInBounds_toArray, List.set_cons_zero, List.set_cons_succ]
    refine wpAnyH_ready (rs := [2]) (by kernel_rfl) (by simp) ?_
    refine AllReadyH.cons (by simp only [List.getElem?_toArray, List.getElem?_cons_zero, List.getElem?_cons_succ]; rfl) (fun K hK => ?_) AllReadyH.nil
    go_simp
    (go_at_call 12; with_reducible refine (C1.out _ hBB).mono ?_; rintro e9 w9 ⟨rfl, hBB⟩)
    go_wp2_with fail
    refine hK.out _ _ (by first | assumption | exact SO.out _ hBB) (fun hHeld => ?_)
    try simp only [List.getElem_toArray, List.getElem_cons_zero, List.getElem_cons_succ, Act.put, List.setIfInBounds_toArray, List.set_cons_zero, List.set_cons_succ]
    refine wpAnyH_take (i := 3) (v := ?_) rfl (by kernel_rfl) (by kernel_rfl) (by kernel_rfl) (fun _ _ _ h => h) (Or.inl ⟨by rfl, ?_⟩) (by assumption) ?_
    rotate_left
    · intro w hSw
      (try dsimp only at hSw)
      go_simp
      try with_reducible rfl
    try simp only [List.getElem_toArray, List.getElem_cons_zero, List.getElem_cons_succ, Act.put, List.setIfInBounds_toArray, List.set_cons_zero, List.set_cons_succ]
    refine wpAnyH_take (i := 4) (v := ?_) rfl (by kernel_rfl) (by kernel_rfl) (by kernel_rfl) (fun _ _ _ h => h) (Or.inl ⟨by rfl, ?_⟩) (by assumption) ?_
    rotate_left
    · intro w hSw
      (try dsimp only at hSw)
      go_simp
      try with_reducible rfl
    try simp only [List.getElem_toArray, List.getElem_cons_zero, List.getElem_cons_succ, Act.put, List.setIfInBounds_toArray, List.set_cons_zero, List.set_cons_succ]
    refine wpAnyH_take (i := 5) (v := ?_) rfl (by kernel_rfl) (by kernel_rfl) (by kernel_rfl) (fun _ _ _ h => h) (Or.inl ⟨by rfl, ?_⟩) (by assumption) ?_
    rotate_left
    · intro w hSw
      (try dsimp only at hSw)
      go_simp
      try with_reducible rfl
    try simp only [List.getElem_toArray, List.getElem_cons_zero, List.getElem_cons_succ, Act.put, List.setIfInBounds_toArray, List.set_cons_zero, List.set_cons_succ]
    refine wpAnyH_take (i := 6) (v := ?_) rfl (by kernel_rfl) (by kernel_rfl) (by kernel_rfl) (fun _ _ _ h => h) (Or.inl ⟨by rfl, ?_⟩) (by assumption) ?_
    rotate_left
    · intro w hSw
      (try dsimp only at hSw)
      go_simp
      try with_reducible rfl
    try simp only [List.getElem_toArray, List.getElem_cons_zero, List.getElem_cons_succ, Act.put, List.setIfInBounds_toArray, List.set_cons_zero, List.set_cons_succ]
    refine wpAnyH_ready (rs := [7]) (by kernel_rfl) (by simp) ?_
    refine AllReadyH.cons (by simp only [List.getElem?_toArray, List.getElem?_cons_zero, List.getElem?_cons_succ]; rfl) (fun K hK => ?_) AllReadyH.nil
    go_simp
    (go_at_call 12; with_reducible refine (C2.out _ hBB).mono ?_; rintro e9 w9 ⟨rfl, hBB⟩)
    go_wp2_with fail
    refine hK.out _ _ (by first | assumption | exact SO.out _ hBB) (fun hHeld => ?_)
    try simp only [List.getElem_toArray, List.getElem_cons_zero, List.getElem_cons_succ, Act.put, List.setIfInBounds_toArray, List.set_cons_zero, List.set_cons_succ]
    refine wpAnyH_take (i := 8) (v := ?_) rfl (by kernel_rfl) (by kernel_rfl) (by kernel_rfl) (fun _ _ _ h => h) (Or.inl ⟨by rfl, ?_⟩) (by assumption) ?_
    rotate_left
    · intro w hSw
      (try dsimp only at hSw)
      go_simp
      try with_reducible rfl
    try simp only [List.getElem_toArray, List.getElem_cons_zero, List.getElem_cons_succ, Act.put, List.setIfInBounds_toArray, List.set_cons_zero, List.set_cons_succ]
    refine wpAnyH_take (i := 9) (v := ?_) rfl (by kernel_rfl) (by kernel_rfl) (by kernel_rfl) (fun _ _ _ h => h) (Or.inl ⟨by rfl, ?_⟩) (by assumption) ?_
    rotate_left
    · intro w hSw
      (try dsimp only at hSw)
      go_simp
      try with_reducible rfl
    try simp only [List.getElem_toArray, List.getElem_cons_zero, List.getElem_cons_succ, Act.put, List.setIfInBounds_toArray, List.set_cons_zero, List.set_cons_succ]
    refine wpAnyH_take (i := 10) (v := ?_) rfl (by kernel_rfl) (by kernel_rfl) (by kernel_rfl) (fun _ _ _ h => h) (Or.inl ⟨by rfl, ?_⟩) (by assumption) ?_
    rotate_left
    · intro w hSw
      (try dsimp only at hSw)
      go_simp
      try with_reducible rfl
    try simp only [List.getElem_toArray, List.getElem_cons_zero, List.getElem_cons_succ, Act.put, List.setIfInBounds_toArray, List.set_cons_zero, List.set_cons_succ]
    refine wpAnyH_take (i := 11) (v := ?_) rfl (by kernel_rfl) (by kernel_rfl) (by kernel_rfl) (fun _ _ _ h => h) (Or.inl ⟨by rfl, ?_⟩) (by assumption) ?_
    rotate_left
    · intro w hSw
      (try dsimp only at hSw)
      go_simp
      try with_reducible rfl
    try simp only [List.getElem_toArray, List.getElem_cons_zero, List.getElem_cons_succ, Act.put, List.setIfInBounds_toArray, List.set_cons_zero, List.set_cons_succ]
    refine wpAnyH_take (i := 12) (v := ?_) rfl (by kernel_rfl) (by kernel_rfl) (by kernel_rfl) (fun _ _ _ h => h) (Or.inl ⟨by rfl, ?_⟩) (by assumption) ?_
    rotate_left
    · intro w hSw
      (try dsimp only at hSw)
      go_simp
      try with_reducible rfl
    try simp only [List.getElem_toArray, List.getElem_cons_zero, List.getElem_cons_succ, Act.put, List.setIfInBounds_toArray, List.set_cons_zero, List.set_cons_succ]
    refine wpAnyH_ready (rs := [13]) (by kernel_rfl) (by simp) ?_
    refine AllReadyH.cons (by simp only [List.getElem?_toArray, List.getElem?_cons_zero, List.getElem?_cons_succ]; rfl) (fun K hK => ?_) AllReadyH.nil
    go_simp
    (go_at_call 12; with_reducible refine (C3.out _ hBB).mono ?_; rintro e9 w9 ⟨rfl, hBB⟩)
    go_wp2_with fail
    refine hK.out _ _ (by first | assumption | exact SO.out _ hBB) (fun hHeld => ?_)
    try simp only [List.getElem_toArray, List.getElem_cons_zero, List.getElem_cons_succ, Act.put, List.setIfInBounds_toArray, List.set_cons_zero, List.set_cons_succ]
    refine wpAnyH_take (i := 14) (v := ?_) rfl (by kernel_rfl) (by kernel_rfl) (by kernel_rfl) (fun _ _ _ h => h) (Or.inl ⟨by rfl, ?_⟩) (by assumption) ?_
    rotate_left
    · intro w hSw
      (try dsimp only at hSw)
      go_simp
      try with_reducible rfl
    try simp only [List.getElem_toArray, List.getElem_cons_zero, List.getElem_cons_succ, Act.put, List.setIfInBounds_toArray, List.set_cons_zero, List.set_cons_succ]
    refine wpAnyH_take (i := 15) (v := ?_) rfl (by kernel_rfl) (by kernel_rfl) (by kernel_rfl) (fun _ _ _ h => h) (Or.inl ⟨by rfl, ?_⟩) (by assumption) ?_
    rotate_left
    · intro w hSw
      (try dsimp only at hSw)
      go_simp
      try with_reducible rfl
    try simp only [List.getElem_toArray, List.getElem_cons_zero, List.getElem_cons_succ, Act.put, List.setIfInBounds_toArray, List.set_cons_zero, List.set_cons_succ]
    refine wpAnyH_take (i := 16) (v := ?_) rfl (by kernel_rfl) (by kernel_rfl) (by kernel_rfl) (fun _ _ _ h => h) (Or.inl ⟨by rfl, ?_⟩) (by assumption) ?_
    rotate_left
    · intro w hSw
      (try dsimp only at hSw)
      go_simp
      try with_reducible rfl
    try simp only [List.getElem_toArray, List.getElem_cons_zero, List.getElem_cons_succ, Act.put, List.setIfInBounds_toArray, List.set_cons_zero, List.set_cons_succ]
    refine wpAnyH_take (i := 18) (v := ?_) rfl (by kernel_rfl) (by kernel_rfl) (by kernel_rfl) (fun _ _ _ h => h) (Or.inl ⟨by rfl, ?_⟩) (by assumption) ?_
    rotate_left
    · intro w hSw
      (try dsimp only at hSw)
      go_simp
      try with_reducible rfl
    try simp only [List.getElem_toArray, List.getElem_cons_zero, List.getElem_cons_succ, Act.put, List.setIfInBounds_toArray, List.set_cons_zero, List.set_cons_succ]
    refine wpAnyH_ready (rs := [17]) (by kernel_rfl) (by simp) ?_
    refine AllReadyH.cons (by simp only [List.getElem?_toArray, List.getElem?_cons_zero, List.getElem?_cons_succ]; rfl) (fun K hK => ?_) AllReadyH.nil
    go_simp
    (go_at_call 20; with_reducible refine (C4.out _ hBB).mono ?_; rintro e9 w9 ⟨rfl, hBB⟩)
    go_wp2_with fail
    refine hK.out _ _ (by first | assumption | exact SO.out _ hBB) (fun hHeld => ?_)
    try simp only [List.getElem_toArray, List.getElem_cons_zero, List.getElem_cons_succ, Act.put, List.setIfInBounds_toArray, List.set_cons_zero, List.set_cons_succ]
    refine wpAnyH_ready (rs := [19]) (by kernel_rfl) (by simp) ?_
    refine AllReadyH.cons (by simp only [List.getElem?_toArray, List.getElem?_cons_zero, List.getElem?_cons_succ]; rfl) (fun K hK => ?_) AllReadyH.nil
    go_simp
    (go_at_call 20; with_reducible refine (C5.out _ hBB).mono ?_; rintro e9 w9 ⟨rfl, hBB⟩)
    go_wp2_with fail
    refine hK.out _ _ (by first | assumption | exact SO.out _ hBB) (fun hHeld => ?_)
    try simp only [List.getElem_toArray, List.getElem_cons_zero, List.getElem_cons_succ, Act.put, List.setIfInBounds_toArray, List.set_cons_zero, List.set_cons_succ]
    refine wpAnyH_take (i := 20) (v := ?_) rfl (by kernel_rfl) (by kernel_rfl) (by kernel_rfl) (fun _ _ _ h => h) (Or.inl ⟨by rfl, ?_⟩) (by assumption) ?_
    rotate_left
    · intro w hSw
      (try dsimp only at hSw)
      go_simp
      try with_reducible rfl
    try simp only [List.getElem_toArray, List.getElem_cons_zero, List.getElem_cons_succ, Act.put, List.setIfInBounds_toArray, List.set_cons_zero, List.set_cons_succ]
    refine wpAnyH_take (i := 21) (v := ?_) rfl (by kernel_rfl) (by kernel_rfl) (by kernel_rfl) (fun _ _ _ h => h) (Or.inl ⟨by rfl, ?_⟩) (by assumption) ?_
    rotate_left
    · intro w hSw
      (try dsimp only at hSw)
      go_simp
      try with_reducible rfl
    try simp only [List.getElem_toArray, List.getElem_cons_zero, List.getElem_cons_succ, Act.put, List.setIfInBounds_toArray, List.set_cons_zero, List.set_cons_succ]
    refine wpAnyH_take (i := 22) (v := ?_) rfl (by kernel_rfl) (by kernel_rfl) (by kernel_rfl) (fun _ _ _ h => h) (Or.inl ⟨by rfl, ?_⟩) (by assumption) ?_
    rotate_left
    · intro w hSw
      (try dsimp only at hSw)
      go_simp
      try with_reducible rfl
    try simp only [List.getElem_toArray, List.getElem_cons_zero, List.getElem_cons_succ, Act.put, List.setIfInBounds_toArray, List.set_cons_zero, List.set_cons_succ]
    refine wpAnyH_done (by kernel_rfl) ?_ _
    go_wp2_with fail
    go_ret
    exact ⟨by rfl, F8.out.trans (hBB.mono F8.out.size)⟩
end Go.Proofs.YtoopndgdaiblpaaDoor
