/- trefoillaw02.TreeParts, walked. -/
import Derived.Test.YtoopndgdaiblpaaDoorTpP
import Derived.Test.YtoopndgdaiblpaaDoorGrt2
import Derived.Test.YtoopndgdaiblpaaDoorAlive
import Derived.Deep.RegionHeld3
namespace Go.Proofs.YtoopndgdaiblpaaDoor
open Go.ChangeShapes Go.WideShapes Go.ChangeAt Go.RowKit

set_option linter.unusedSimpArgs false in
set_option maxHeartbeats 20000000 in
set_option maxRecDepth 100000 in
theorem parts_law (T : TypeId) (v : Value) (la : List Pt) (va : Value) (w : World) (hg : w.cell? ⟨0, 0, none⟩ = some (.iface T v)) (hgl : 0 < w.heap.size) (ha : PV w w.heap.size va la)
    (hla : (la.length : Int) ≤ 140737488355328) :
    Calls Tryd.prog 4 #[va] w fun e w' => e = .returned (.bool true) ∧ Below w.heap.size w w' := by
  have HA := Lib.hid (And.intro ha hla)
  have HG := Lib.hid hg
  clear hg ha hla
  go_enter Tryd.func4, Tryd.ntmps4
  go_wp2_with fail
  refine (alive_any T v _ HG.out hgl).mono ?_
  rintro e w1 ⟨rfl, hB1⟩
  have s1 := hB1.size
  have PA1 := Lib.hid (HA.out.1.carry hB1)
  go_wp2_with fail
  refine (great2_any w.heap.size la va w1 s1 HA.out.2 PA1.out).mono ?_
  rintro e w2 ⟨g1, rfl, hg1, hB2⟩
  have s2 := hB2.size
  have W02 : Below w.heap.size w w2 := hB1.trans (hB2.mono s1)
  cases g1 with
  | true =>
    go_wp2_with fail
    go_ret
    exact ⟨rfl, W02⟩
  | false =>
    have HL := Lib.hid (hg1 rfl)
    clear hg1
    have PA2 := Lib.hid (PA1.out.carry' hB2 s1)
    have CO := Lib.hid (of_any w.heap.size 2000 la va w2 (by omega) (by have := HL.out.1; omega) (by have := HL.out.1; omega) PA2.out)
    go_wp2_with fail
    refine CO.out.mono ?_
    rintro e w4 ⟨c0, c1, c2, c3, c4, c5, c6, rest, rfl, hxe, hpe, hB4⟩
    have HXE0 := Lib.hid hxe
    obtain ⟨k2, t2, n2, names, types, args, mems, x3, e3, x4, l4, e4, x5, l5, e5, x6, e6, ga, oa, gm, om, hta, rfl, rfl, rfl, rfl, rfl, rfl, rfl, ha1, ha2, ha3, hm1, hm2, hm3⟩ := hxe.open_
    clear hxe hpe CO
    obtain ⟨na, hna⟩ : ∃ n, args.length = n := ⟨_, rfl⟩
    obtain ⟨nm, hnm⟩ : ∃ n, mems.length = n := ⟨_, rfl⟩
    obtain ⟨ta, hte⟩ : ∃ t, (ofL 2000 la).1 = t := ⟨_, rfl⟩
    have fta : Fair ta := by rw [← hte]; exact (ofL_fair 2000 la HL.out.2).1
    have zta : ndSize ta ≤ 400000 := by have := (ofL_fine 2000 la).2; have := HL.out.1; rw [← hte]; omega
    have xta : isEx ta = true := by rw [← hte]; exact ofL_ex _ _
    have HXE := HXE0.out
    rw [hte] at hta HXE
    rw [hna, hnm] at HXE
    rw [hna, hnm]
    have HT := Lib.hid (And.intro hta (And.intro fta (And.intro zta xta)))
    have HN := Lib.hid (And.intro hna hnm)
    have HAM := Lib.hid (And.intro ha1 (And.intro ha2 (And.intro ha3 (And.intro hm1 (And.intro hm2 hm3)))))
    have s4 := hB4.size
    have W04 : Below w.heap.size w w4 := W02.trans (hB4.mono (by omega))
    clear hta fta zta xta hna hnm hte ha1 ha2 ha3 hm1 hm2 hm3 HXE0
    have HXE1 := Lib.hid HXE
    clear HXE
    go_wp2_with fail
    obtain ⟨W5, hW5⟩ : ∃ W5, w4.alloc (.cells #[.int .i64 k2, .string t2, .int .i64 n2, .slice x3 na e3, .slice x4 l4 e4, .slice x5 l5 e5, .slice x6 nm e6] 33) = W5 := ⟨_, rfl⟩
    rw [hW5]
    have s5 : W5.heap.size = w4.heap.size + 1 := by rw [← hW5]; simp
    have E5 : W5.heap[w4.heap.size]? = some (.cells #[.int .i64 k2, .string t2, .int .i64 n2, .slice x3 na e3, .slice x4 l4 e4, .slice x5 l5 e5, .slice x6 nm e6] 33) := by rw [← hW5]; exact heap_last rfl
    have B5 : Below w.heap.size w W5 := by rw [← hW5]; exact W04.alloc (by omega) _
    have K5 : ∀ b, b < w4.heap.size → W5.heap[b]? = w4.heap[b]? := fun b hb => by rw [← hW5]; exact heap_old hb
    have H5 := Lib.hid (And.intro E5 (And.intro B5 K5))
    clear hW5 E5 B5 K5
    -- what is known in any later world
    have XE : Hid (∀ V, Below W5.heap.size W5 V → ExV V (fun b => b < W5.heap.size) [.int .i64 k2, .string t2, .int .i64 n2, .slice x3 na e3, .slice x4 l4 e4, .slice x5 l5 e5, .slice x6 nm e6] ta) := Lib.hid fun V hV => by
      refine HXE1.out.carry (fun b hb => ?_) (fun b hb => by have := hb.2; omega)
      rw [hV.block b (by have := hb.2; omega), H5.out.2.2 b hb.2]
    have XG : Hid (∀ V, Below W5.heap.size W5 V → V.cell? ⟨0, 0, none⟩ = some (.iface T v) ∧ 0 < V.heap.size) := Lib.hid fun V hV => by
      have h9 := H5.out.2.1.trans (hV.mono H5.out.2.1.size)
      exact ⟨(h9.cell (p := ⟨_, 0, none⟩) hgl).trans HG.out, by have := h9.size; omega⟩
    have XB : Hid (∀ V, Below W5.heap.size W5 V → V.heap[w4.heap.size]? = some (.cells #[.int .i64 k2, .string t2, .int .i64 n2, .slice x3 na e3, .slice x4 l4 e4, .slice x5 l5 e5, .slice x6 nm e6] 33)) := Lib.hid fun V hV => (hV.block _ (by omega)).trans H5.out.1
    have XA : Hid (∀ V, Below W5.heap.size W5 V → ∀ i (h : i < args.length), NdAt V (fun b => b < W5.heap.size) ga (oa + i * 7) args[i]) := Lib.hid fun V hV i hi => by
      refine (HAM.out.2.1 i hi).carry (fun b hb => ?_) (fun b hb => by have := hb.2; omega)
      rw [hV.block b (by have := hb.2; omega), H5.out.2.2 b hb.2]
    have XM : Hid (∀ V, Below W5.heap.size W5 V → ∀ i (h : i < mems.length), NdAt V (fun b => b < W5.heap.size) gm (om + i * 5) mems[i]) := Lib.hid fun V hV i hi => by
      refine (HAM.out.2.2.2.2.1 i hi).carry (fun b hb => ?_) (fun b hb => by have := hb.2; omega)
      rw [hV.block b (by have := hb.2; omega), H5.out.2.2 b hb.2]
    refine (check_v (fun b => b < W5.heap.size) k2 t2 n2 _ _ _ _ W5 ta T v (XG.out _ (Below.refl _ _)).1 (XG.out _ (Below.refl _ _)).2 (by have := HT.out.2.2.1; omega) HT.out.2.1 (fun _ h => h) (XE.out _ (Below.refl _ _))).mono ?_
    rintro e w6 ⟨rfl, hB6⟩
    obtain ⟨r, hr⟩ : ∃ r, errE ta = r := ⟨_, rfl⟩
    have hway := errE_ways ta
    rw [hr] at hway ⊢
    have HR := Lib.hid hr
    clear hr
    have F6 := Lib.hid hB6
    have s6 := hB6.size
    have B06 : Below w.heap.size w w6 := H5.out.2.1.trans (hB6.mono H5.out.2.1.size)
    have HB06 := Lib.hid B06
    clear hB6 B06
    rcases hway with rfl | rfl | rfl
    rotate_left
    · go_wp2_with fail
      go_ret
      exact ⟨rfl, HB06.out⟩
    · go_wp2_with fail
      go_ret
      exact ⟨rfl, HB06.out⟩
    · have HBX := XB.out w6 F6.out
      have b0 : w6.cell? ⟨w4.heap.size, 0, none⟩ = some (.int .i64 k2) := by rw [Lib.cell_of_heap HBX]; rfl
      have b1 : w6.cell? ⟨w4.heap.size, 1, none⟩ = some (.string t2) := by rw [Lib.cell_of_heap HBX]; rfl
      have b2 : w6.cell? ⟨w4.heap.size, 2, none⟩ = some (.int .i64 n2) := by rw [Lib.cell_of_heap HBX]; rfl
      have b3 : w6.cell? ⟨w4.heap.size, 3, none⟩ = some (.slice x3 na e3) := by rw [Lib.cell_of_heap HBX]; rfl
      have b4 : w6.cell? ⟨w4.heap.size, 4, none⟩ = some (.slice x4 l4 e4) := by rw [Lib.cell_of_heap HBX]; rfl
      have b5 : w6.cell? ⟨w4.heap.size, 5, none⟩ = some (.slice x5 l5 e5) := by rw [Lib.cell_of_heap HBX]; rfl
      have b6 : w6.cell? ⟨w4.heap.size, 6, none⟩ = some (.slice x6 nm e6) := by rw [Lib.cell_of_heap HBX]; rfl
      clear HBX
      go_wp2_with fail
      clear b0 b1 b2 b3 b4 b5 b6
      go_loopg [28] na (fun gk i wr => ∃ j : Nat, gk = na - j ∧ j ≤ na ∧ i = .int .i64 j ∧ Below W5.heap.size W5 wr)
      case atStart => exact ⟨0, rfl, Nat.zero_le _, rfl, F6.out⟩
      case round =>
        obtain ⟨j, rfl, hj, rfl, hBr⟩ := hrel
        have sr := hBr.size
        have FR := Lib.hid hBr
        clear hBr
        by_cases hlt : j < na
        · have hi' : (j : Int) < (na : Int) := by omega
          have hjl : j < args.length := by have := HN.out.1; omega
          obtain ⟨rfl, hca, hcm, hga⟩ := HAM.out.1 (by omega)
          unfold maxLen at hcm
          rw [HN.out.1] at hca
          have hga' := hga.2
          obtain ⟨xj, hxj⟩ : ∃ x, args[j] = x := ⟨_, rfl⟩
          have hnd := XA.out wr FR.out j hjl
          have hex : isEx xj = true := by rw [← hxj]; exact HAM.out.2.2.1 _ (List.getElem_mem hjl)
          have hmem : xj ∈ args := by rw [← hxj]; exact List.getElem_mem hjl
          rw [hxj] at hnd
          obtain ⟨kx, sx, nx, y3, m3, f3, y4, m4, f4, y5, m5, f5, y6, m6, f6, hgb, d0, d1, d2, d3, d4, d5, d6, hxv⟩ := hnd.open_ex hex
          have HXV := Lib.hid (And.intro hxv hmem)
          clear hxv hmem hnd hex hxj
          have hgw : ga < wr.heap.size := by omega
          go_wp2_with fail
          obtain ⟨W1, hW1⟩ : ∃ W1, wr.alloc (.cells #[.int .i64 kx, .string sx, .int .i64 nx, .slice y3 m3 f3, .slice y4 m4 f4, .slice y5 m5 f5, .slice y6 m6 f6] 33) = W1 := ⟨_, rfl⟩
          rw [hW1]
          have t1 : W1.heap.size = wr.heap.size + 1 := by rw [← hW1]; simp
          have X1 : W1.heap[wr.heap.size]? = some (.cells #[.int .i64 kx, .string sx, .int .i64 nx, .slice y3 m3 f3, .slice y4 m4 f4, .slice y5 m5 f5, .slice y6 m6 f6] 33) := by rw [← hW1]; exact heap_last rfl
          have F1 : Below W5.heap.size W5 W1 := by rw [← hW1]; exact FR.out.alloc (by omega) _
          have XX : Hid (∀ V, Below W1.heap.size W1 V → ExV V (fun b => b < V.heap.size) [.int .i64 kx, .string sx, .int .i64 nx, .slice y3 m3 f3, .slice y4 m4 f4, .slice y5 m5 f5, .slice y6 m6 f6] xj) := Lib.hid fun V hV => by
            have hs := hV.size
            refine HXV.out.1.carry (fun b hb => ?_) (fun b hb => by omega)
            rw [hV.block b (by omega), ← hW1, heap_old (by omega)]
          have G1 := Lib.hid (And.intro X1 F1)
          clear hW1 X1 F1 d0 d1 d2 d3 d4 d5 d6
          have SO : Hid (∀ V, Below W1.heap.size W1 V → V.cell? ⟨w4.heap.size, 0, none⟩ = some (.int .i64 k2) ∧ V.cell? ⟨w4.heap.size, 1, none⟩ = some (.string t2) ∧ V.cell? ⟨w4.heap.size, 2, none⟩ = some (.int .i64 n2) ∧ V.cell? ⟨w4.heap.size, 3, none⟩ = some (.slice (some ⟨ga, oa, none⟩) na e3) ∧ V.cell? ⟨w4.heap.size, 4, none⟩ = some (.slice x4 l4 e4) ∧ V.cell? ⟨w4.heap.size, 5, none⟩ = some (.slice x5 l5 e5) ∧ V.cell? ⟨w4.heap.size, 6, none⟩ = some (.slice x6 nm e6) ∧ V.cell? ⟨wr.heap.size, 0, none⟩ = some (.int .i64 kx) ∧ V.cell? ⟨wr.heap.size, 1, none⟩ = some (.string sx) ∧ V.cell? ⟨wr.heap.size, 2, none⟩ = some (.int .i64 nx) ∧ V.cell? ⟨wr.heap.size, 3, none⟩ = some (.slice y3 m3 f3) ∧ V.cell? ⟨wr.heap.size, 4, none⟩ = some (.slice y4 m4 f4) ∧ V.cell? ⟨wr.heap.size, 5, none⟩ = some (.slice y5 m5 f5) ∧ V.cell? ⟨wr.heap.size, 6, none⟩ = some (.slice y6 m6 f6)) := Lib.hid fun V hV => by
            have a1 := XB.out V (G1.out.2.trans (hV.mono (by omega)))
            have a2 := (hV.block wr.heap.size (by omega)).trans G1.out.1
            refine ⟨?_, ?_, ?_, ?_, ?_, ?_, ?_, ?_, ?_, ?_, ?_, ?_, ?_, ?_⟩ <;> first | (rw [Lib.cell_of_heap a1]; rfl) | (rw [Lib.cell_of_heap a2]; rfl)
          have fx : Fair xj := by have h := HT.out.2.1; rw [HT.out.1] at h; exact h.arg HXV.out.2
          have zx : ndSize xj < ndSize ta := by rw [HT.out.1]; exact size_arg HXV.out.2
          have dx : ndDeep xj < ndDeep ta := by rw [HT.out.1]; exact deep_arg fx HXV.out.2
          have ex : errE xj = 0 := by have h := HR.out; rw [HT.out.1] at h; exact errE_arg fx h HXV.out.2
          obtain ⟨p1, hp1⟩ : ∃ p, ndSize xj = p := ⟨_, rfl⟩
          obtain ⟨p2, hp2⟩ : ∃ p, ndSize ta = p := ⟨_, rfl⟩
          obtain ⟨q1, hq1⟩ : ∃ p, ndDeep xj = p := ⟨_, rfl⟩
          obtain ⟨q2, hq2⟩ : ∃ p, ndDeep ta = p := ⟨_, rfl⟩
          have zta := HT.out.2.2.1
          rw [hp1, hp2] at zx
          rw [hq1, hq2] at dx
          rw [hp2] at zta
          have HE := Lib.hid (And.intro fx (And.intro ex (And.intro hp1 (And.intro hp2 (And.intro hq1 hq2)))))
          have HE2 := Lib.hid (And.intro zx (And.intro dx zta))
          have dz : decide ((q2 : Int) ≤ (q1 : Int)) = false := decide_eq_false (by omega)
          have sz : decide ((p2 : Int) ≤ (p1 : Int)) = false := decide_eq_false (by omega)
          have dz2 : decide (q2 ≤ q1) = false := decide_eq_false (by omega)
          have sz2 : decide (p2 ≤ p1) = false := decide_eq_false (by omega)
          clear fx ex hp1 hp2 hq1 hq2 zx dx zta
          have C1 : Hid (∀ V, Below W1.heap.size W1 V → Calls Tryd.prog 18 #[.agg #[.int .i64 kx, .string sx, .int .i64 nx, .slice y3 m3 f3, .slice y4 m4 f4, .slice y5 m5 f5, .slice y6 m6 f6]] V fun e w' => e = .returned (.int .i64 0) ∧ Below W1.heap.size W1 w') := Lib.hid fun V hV => by
            have g := XG.out V (G1.out.2.trans (hV.mono (by omega)))
            refine (check_v (fun b => b < V.heap.size) _ _ _ _ _ _ _ V xj T v g.1 g.2 (by have h1 := HE2.out; have h2 := HE.out.2.2.1; omega) HE.out.1 (fun _ h => h) (XX.out V hV)).mono ?_
            rintro e w' ⟨rfl, hB⟩
            exact ⟨by rw [HE.out.2.1], hV.trans (hB.mono hV.size)⟩
          have C2 : Hid (∀ V, Below W1.heap.size W1 V → Calls Tryd.prog 19 #[.agg #[.int .i64 kx, .string sx, .int .i64 nx, .slice y3 m3 f3, .slice y4 m4 f4, .slice y5 m5 f5, .slice y6 m6 f6]] V fun e w' => e = .returned (.int .i64 q1) ∧ Below W1.heap.size W1 w') := Lib.hid fun V hV => by
            refine (deep_v (fun b => b < V.heap.size) _ _ _ _ _ _ _ V xj (by have h1 := HE2.out; have h2 := HE.out.2.2.1; omega) (fun _ h => h) (XX.out V hV)).mono ?_
            rintro e w' ⟨rfl, hB⟩
            exact ⟨by rw [HE.out.2.2.2.2.1], hV.trans (hB.mono hV.size)⟩
          have C3 : Hid (∀ V, Below W1.heap.size W1 V → Calls Tryd.prog 19 #[.agg #[.int .i64 k2, .string t2, .int .i64 n2, .slice (some ⟨ga, oa, none⟩) na e3, .slice x4 l4 e4, .slice x5 l5 e5, .slice x6 nm e6]] V fun e w' => e = .returned (.int .i64 q2) ∧ Below W1.heap.size W1 w') := Lib.hid fun V hV => by
            have hs := hV.size
            refine (deep_v (fun b => b < W5.heap.size) _ _ _ _ _ _ _ V ta (by have h1 := HE2.out; have h2 := HE.out.2.2.2.1; omega) (fun b h => by omega) (XE.out V (G1.out.2.trans (hV.mono (by omega))))).mono ?_
            rintro e w' ⟨rfl, hB⟩
            exact ⟨by rw [HE.out.2.2.2.2.2], hV.trans (hB.mono hV.size)⟩
          have C4 : Hid (∀ V, Below W1.heap.size W1 V → Calls Tryd.prog 20 #[.agg #[.int .i64 kx, .string sx, .int .i64 nx, .slice y3 m3 f3, .slice y4 m4 f4, .slice y5 m5 f5, .slice y6 m6 f6]] V fun e w' => e = .returned (.int .i64 p1) ∧ Below W1.heap.size W1 w') := Lib.hid fun V hV => by
            refine (size_v (fun b => b < V.heap.size) _ _ _ _ _ _ _ V xj (by have h1 := HE2.out; have h2 := HE.out.2.2.1; omega) (fun _ h => h) (XX.out V hV)).mono ?_
            rintro e w' ⟨rfl, hB⟩
            exact ⟨by rw [HE.out.2.2.1], hV.trans (hB.mono hV.size)⟩
          have C5 : Hid (∀ V, Below W1.heap.size W1 V → Calls Tryd.prog 20 #[.agg #[.int .i64 k2, .string t2, .int .i64 n2, .slice (some ⟨ga, oa, none⟩) na e3, .slice x4 l4 e4, .slice x5 l5 e5, .slice x6 nm e6]] V fun e w' => e = .returned (.int .i64 p2) ∧ Below W1.heap.size W1 w') := Lib.hid fun V hV => by
            have hs := hV.size
            refine (size_v (fun b => b < W5.heap.size) _ _ _ _ _ _ _ V ta (by have h1 := HE2.out; have h2 := HE.out.2.2.2.1; omega) (fun b h => by omega) (XE.out V (G1.out.2.trans (hV.mono (by omega))))).mono ?_
            rintro e w' ⟨rfl, hB⟩
            exact ⟨by rw [HE.out.2.2.2.1], hV.trans (hB.mono hV.size)⟩
          have hBB : Below W1.heap.size W1 W1.drew := (Below.refl _ _).drew
          refine wp_region_held_drew (S := fun V => V.cell? ⟨w4.heap.size, 0, none⟩ = some (.int .i64 k2) ∧ V.cell? ⟨w4.heap.size, 1, none⟩ = some (.string t2) ∧ V.cell? ⟨w4.heap.size, 2, none⟩ = some (.int .i64 n2) ∧ V.cell? ⟨w4.heap.size, 3, none⟩ = some (.slice (some ⟨ga, oa, none⟩) na e3) ∧ V.cell? ⟨w4.heap.size, 4, none⟩ = some (.slice x4 l4 e4) ∧ V.cell? ⟨w4.heap.size, 5, none⟩ = some (.slice x5 l5 e5) ∧ V.cell? ⟨w4.heap.size, 6, none⟩ = some (.slice x6 nm e6) ∧ V.cell? ⟨wr.heap.size, 0, none⟩ = some (.int .i64 kx) ∧ V.cell? ⟨wr.heap.size, 1, none⟩ = some (.string sx) ∧ V.cell? ⟨wr.heap.size, 2, none⟩ = some (.int .i64 nx) ∧ V.cell? ⟨wr.heap.size, 3, none⟩ = some (.slice y3 m3 f3) ∧ V.cell? ⟨wr.heap.size, 4, none⟩ = some (.slice y4 m4 f4) ∧ V.cell? ⟨wr.heap.size, 5, none⟩ = some (.slice y5 m5 f5) ∧ V.cell? ⟨wr.heap.size, 6, none⟩ = some (.slice y6 m6 f6)) (by kernel_rfl) (SO.out _ hBB) (fun hHeld => ?_)
          refine wpAnyH_take (i := 0) (v := ?_) rfl (by kernel_rfl) (by kernel_rfl) (by kernel_rfl) (fun _ _ _ h => h) (Or.inl ⟨by rfl, ?_⟩) (by assumption) ?_
          rotate_left
          · intro w hSw
            (try dsimp only at hSw)
            go_simp
            try with_reducible rfl
          try simp only [List.getElem_toArray, List.getElem_cons_zero, List.getElem_cons_succ, Act.put, List.setIfInBounds_toArray, List.set_cons_zero, List.set_cons_succ]
          refine wpAnyH_ready (rs := [1]) (by kernel_rfl) (by simp) ?_
          refine AllReadyH.cons (by simp only [List.getElem?_toArray, List.getElem?_cons_zero, List.getElem?_cons_succ]; rfl) (fun K hK => ?_) AllReadyH.nil
          go_simp
          (go_at_call 18; with_reducible refine (C1.out _ hBB).mono ?_; rintro e9 w9 ⟨rfl, hBB⟩)
          go_wp2_with fail
          refine hK.out _ _ (by first | assumption | exact SO.out _ (by first | exact hBB | exact dN_below hBB _ | exact hBB.drew)) (fun hHeld => ?_)
          try simp only [List.getElem_toArray, List.getElem_cons_zero, List.getElem_cons_succ, Act.put, List.setIfInBounds_toArray, List.set_cons_zero, List.set_cons_succ]
          refine wpAnyH_take (i := 2) (v := ?_) rfl (by kernel_rfl) (by kernel_rfl) (by kernel_rfl) (fun _ _ _ h => h) (Or.inl ⟨by rfl, ?_⟩) (by assumption) ?_
          rotate_left
          · intro w hSw
            (try dsimp only at hSw)
            go_simp
            try with_reducible rfl
          try simp only [List.getElem_toArray, List.getElem_cons_zero, List.getElem_cons_succ, Act.put, List.setIfInBounds_toArray, List.set_cons_zero, List.set_cons_succ]
          refine wpAnyH_take (i := 3) (v := ?_) rfl (by kernel_rfl) (by kernel_rfl) (by kernel_rfl) (fun _ _ _ h => h) (Or.inl ⟨by rfl, ?_⟩) (by assumption) ?_
          rotate_left
          · intro w hSw
            (try dsimp only at hSw)
            go_simp
            try with_reducible rfl
          try simp only [List.getElem_toArray, List.getElem_cons_zero, List.getElem_cons_succ, Act.put, List.setIfInBounds_toArray, List.set_cons_zero, List.set_cons_succ]
          refine wpAnyH_take (i := 4) (v := ?_) rfl (by kernel_rfl) (by kernel_rfl) (by kernel_rfl) (fun _ _ _ h => h) (Or.inl ⟨by rfl, ?_⟩) (by assumption) ?_
          rotate_left
          · intro w hSw
            (try dsimp only at hSw)
            go_simp
            try with_reducible rfl
          try simp only [List.getElem_toArray, List.getElem_cons_zero, List.getElem_cons_succ, Act.put, List.setIfInBounds_toArray, List.set_cons_zero, List.set_cons_succ]
          refine wpAnyH_take (i := 6) (v := ?_) rfl (by kernel_rfl) (by kernel_rfl) (by kernel_rfl) (fun _ _ _ h => h) (Or.inl ⟨by rfl, ?_⟩) (by assumption) ?_
          rotate_left
          · intro w hSw
            (try dsimp only at hSw)
            go_simp
            try with_reducible rfl
          try simp only [List.getElem_toArray, List.getElem_cons_zero, List.getElem_cons_succ, Act.put, List.setIfInBounds_toArray, List.set_cons_zero, List.set_cons_succ]
          refine wpAnyH_ready (rs := [5]) (by kernel_rfl) (by simp) ?_
          refine AllReadyH.cons (by simp only [List.getElem?_toArray, List.getElem?_cons_zero, List.getElem?_cons_succ]; rfl) (fun K hK => ?_) AllReadyH.nil
          go_simp
          (go_at_call 19; with_reducible refine (C2.out _ hBB).mono ?_; rintro e9 w9 ⟨rfl, hBB⟩)
          go_wp2_with fail
          refine hK.out _ _ (by first | assumption | exact SO.out _ (by first | exact hBB | exact dN_below hBB _ | exact hBB.drew)) (fun hHeld => ?_)
          try simp only [List.getElem_toArray, List.getElem_cons_zero, List.getElem_cons_succ, Act.put, List.setIfInBounds_toArray, List.set_cons_zero, List.set_cons_succ]
          refine wpAnyH_ready (rs := [7]) (by kernel_rfl) (by simp) ?_
          refine AllReadyH.cons (by simp only [List.getElem?_toArray, List.getElem?_cons_zero, List.getElem?_cons_succ]; rfl) (fun K hK => ?_) AllReadyH.nil
          go_simp
          (go_at_call 19; with_reducible refine (C3.out _ hBB).mono ?_; rintro e9 w9 ⟨rfl, hBB⟩)
          go_wp2_with fail
          refine hK.out _ _ (by first | assumption | exact SO.out _ (by first | exact hBB | exact dN_below hBB _ | exact hBB.drew)) (fun hHeld => ?_)
          try simp only [List.getElem_toArray, List.getElem_cons_zero, List.getElem_cons_succ, Act.put, List.setIfInBounds_toArray, List.set_cons_zero, List.set_cons_succ]
          refine wpAnyH_take (i := 8) (v := ?_) rfl (by kernel_rfl) (by kernel_rfl) (by kernel_rfl) (fun _ _ _ h => h) (Or.inl ⟨by rfl, ?_⟩) (by assumption) ?_
          rotate_left
          · intro w hSw
            (try dsimp only at hSw)
            go_simp
            try with_reducible rfl
          try simp only [List.getElem_toArray, List.getElem_cons_zero, List.getElem_cons_succ, Act.put, List.setIfInBounds_toArray, List.set_cons_zero, List.set_cons_succ]
          refine wpAnyH_take (i := 9) (v := ?_) rfl (by kernel_rfl) (by kernel_rfl) (by kernel_rfl) (fun _ _ _ h => h) (Or.inl ⟨by rfl, ?_⟩) (by assumption) ?_
          rotate_left
          · intro w hSw
            (try dsimp only at hSw)
            go_simp
            try with_reducible rfl
          try simp only [List.getElem_toArray, List.getElem_cons_zero, List.getElem_cons_succ, Act.put, List.setIfInBounds_toArray, List.set_cons_zero, List.set_cons_succ]
          refine wpAnyH_take (i := 10) (v := ?_) rfl (by kernel_rfl) (by kernel_rfl) (by kernel_rfl) (fun _ _ _ h => h) (Or.inl ⟨by rfl, ?_⟩) (by assumption) ?_
          rotate_left
          · intro w hSw
            (try dsimp only at hSw)
            go_simp
            try with_reducible rfl
          try simp only [List.getElem_toArray, List.getElem_cons_zero, List.getElem_cons_succ, Act.put, List.setIfInBounds_toArray, List.set_cons_zero, List.set_cons_succ]
          refine wpAnyH_take (i := 11) (v := ?_) rfl (by kernel_rfl) (by kernel_rfl) (by kernel_rfl) (fun _ _ _ h => h) (Or.inl ⟨by rfl, ?_⟩) (by assumption) ?_
          rotate_left
          · intro w hSw
            (try dsimp only at hSw)
            go_simp
            try with_reducible rfl
          try simp only [List.getElem_toArray, List.getElem_cons_zero, List.getElem_cons_succ, Act.put, List.setIfInBounds_toArray, List.set_cons_zero, List.set_cons_succ]
          refine wpAnyH_take (i := 13) (v := ?_) rfl (by kernel_rfl) (by kernel_rfl) (by kernel_rfl) (fun _ _ _ h => h) (Or.inl ⟨by rfl, ?_⟩) (by assumption) ?_
          rotate_left
          · intro w hSw
            (try dsimp only at hSw)
            go_simp
            try with_reducible rfl
          try simp only [List.getElem_toArray, List.getElem_cons_zero, List.getElem_cons_succ, Act.put, List.setIfInBounds_toArray, List.set_cons_zero, List.set_cons_succ]
          refine wpAnyH_ready (rs := [12]) (by kernel_rfl) (by simp) ?_
          refine AllReadyH.cons (by simp only [List.getElem?_toArray, List.getElem?_cons_zero, List.getElem?_cons_succ]; rfl) (fun K hK => ?_) AllReadyH.nil
          go_simp
          (go_at_call 20; with_reducible refine (C4.out _ hBB).mono ?_; rintro e9 w9 ⟨rfl, hBB⟩)
          go_wp2_with fail
          refine hK.out _ _ (by first | assumption | exact SO.out _ (by first | exact hBB | exact dN_below hBB _ | exact hBB.drew)) (fun hHeld => ?_)
          try simp only [List.getElem_toArray, List.getElem_cons_zero, List.getElem_cons_succ, Act.put, List.setIfInBounds_toArray, List.set_cons_zero, List.set_cons_succ]
          refine wpAnyH_ready (rs := [14]) (by kernel_rfl) (by simp) ?_
          refine AllReadyH.cons (by simp only [List.getElem?_toArray, List.getElem?_cons_zero, List.getElem?_cons_succ]; rfl) (fun K hK => ?_) AllReadyH.nil
          go_simp
          (go_at_call 20; with_reducible refine (C5.out _ hBB).mono ?_; rintro e9 w9 ⟨rfl, hBB⟩)
          go_wp2_with fail
          refine hK.out _ _ (by first | assumption | exact SO.out _ (by first | exact hBB | exact dN_below hBB _ | exact hBB.drew)) (fun hHeld => ?_)
          try simp only [List.getElem_toArray, List.getElem_cons_zero, List.getElem_cons_succ, Act.put, List.setIfInBounds_toArray, List.set_cons_zero, List.set_cons_succ]
          refine wpAnyH_take (i := 15) (v := ?_) rfl (by kernel_rfl) (by kernel_rfl) (by kernel_rfl) (fun _ _ _ h => h) (Or.inl ⟨by rfl, ?_⟩) (by assumption) ?_
          rotate_left
          · intro w hSw
            (try dsimp only at hSw)
            go_simp
            try with_reducible rfl
          try simp only [List.getElem_toArray, List.getElem_cons_zero, List.getElem_cons_succ, Act.put, List.setIfInBounds_toArray, List.set_cons_zero, List.set_cons_succ]
          refine wpAnyH_take (i := 16) (v := ?_) rfl (by kernel_rfl) (by kernel_rfl) (by kernel_rfl) (fun _ _ _ h => h) (Or.inl ⟨by rfl, ?_⟩) (by assumption) ?_
          rotate_left
          · intro w hSw
            (try dsimp only at hSw)
            go_simp
            try with_reducible rfl
          try simp only [List.getElem_toArray, List.getElem_cons_zero, List.getElem_cons_succ, Act.put, List.setIfInBounds_toArray, List.set_cons_zero, List.set_cons_succ]
          refine wpAnyH_done (by kernel_rfl) ?_ _
          go_wp2_with fail
          go_roundg (na - (j + 1))
          case measure => omega
          case rel => exact ⟨j + 1, rfl, hlt, by first | rfl | simp, G1.out.2.trans ((show Below W1.heap.size W1 _ by first | exact hBB | exact dN_below hBB _ | exact hBB.drew).mono (by omega))⟩
        · have hi' : ¬ (j : Int) < (na : Int) := by omega
          have HBX := XB.out wr FR.out
          have b0 : wr.cell? ⟨w4.heap.size, 0, none⟩ = some (.int .i64 k2) := by rw [Lib.cell_of_heap HBX]; rfl
          have b1 : wr.cell? ⟨w4.heap.size, 1, none⟩ = some (.string t2) := by rw [Lib.cell_of_heap HBX]; rfl
          have b2 : wr.cell? ⟨w4.heap.size, 2, none⟩ = some (.int .i64 n2) := by rw [Lib.cell_of_heap HBX]; rfl
          have b3 : wr.cell? ⟨w4.heap.size, 3, none⟩ = some (.slice x3 na e3) := by rw [Lib.cell_of_heap HBX]; rfl
          have b4 : wr.cell? ⟨w4.heap.size, 4, none⟩ = some (.slice x4 l4 e4) := by rw [Lib.cell_of_heap HBX]; rfl
          have b5 : wr.cell? ⟨w4.heap.size, 5, none⟩ = some (.slice x5 l5 e5) := by rw [Lib.cell_of_heap HBX]; rfl
          have b6 : wr.cell? ⟨w4.heap.size, 6, none⟩ = some (.slice x6 nm e6) := by rw [Lib.cell_of_heap HBX]; rfl
          clear HBX
          go_wp2_with fail
          clear b0 b1 b2 b3 b4 b5 b6
          go_loopg [53] nm (fun gk i wr => ∃ j : Nat, gk = nm - j ∧ j ≤ nm ∧ i = .int .i64 j ∧ Below W5.heap.size W5 wr)
          case atStart => exact ⟨0, rfl, Nat.zero_le _, rfl, FR.out⟩
          case round =>
            obtain ⟨j2, rfl, hj2, rfl, hBr2⟩ := hrel
            have sr2 := hBr2.size
            have FR2 := Lib.hid hBr2
            clear hBr2
            clear FR
            by_cases hlt2 : j2 < nm
            · obtain ⟨wo, rfl⟩ : ∃ wo, wo = wr := ⟨_, rfl⟩
              have hi2 : (j2 : Int) < (nm : Int) := by omega
              have hjl : j2 < mems.length := by have := HN.out.2; omega
              obtain ⟨rfl, hca, hcm, hga⟩ := HAM.out.2.2.2.1 (by omega)
              unfold maxLen at hcm
              rw [HN.out.2] at hca
              have hga' := hga.2
              obtain ⟨xj, hxj⟩ : ∃ x, mems[j2] = x := ⟨_, rfl⟩
              have hnd := XM.out wo FR2.out j2 hjl
              have hex : isEx xj = false := by rw [← hxj]; exact HAM.out.2.2.2.2.2 _ (List.getElem_mem hjl)
              have hmem : xj ∈ mems := by rw [← hxj]; exact List.getElem_mem hjl
              rw [hxj] at hnd
              obtain ⟨km, sm, am, v3, h3, v4, q4, h4, gk2, ok2, hgb, d0, d1, d2, d3, d4, hav, hkids, hkx⟩ := hnd.open_me hex
              obtain ⟨nk, hnk⟩ : ∃ n, (meArgs xj).length = n := ⟨_, rfl⟩
              rw [hnk] at d3
              have HM := Lib.hid (And.intro hmem (And.intro hnk (And.intro hav (And.intro hkids hkx))))
              clear hmem hnd hex hxj hnk hav hkids hkx
              have hgw : gm < wo.heap.size := by omega
              go_wp2_with fail
              obtain ⟨W1, hW1⟩ : ∃ W1, wo.alloc (.cells #[.int .i64 km, .string sm, .string am, .slice v3 nk h3, .slice v4 q4 h4] 47) = W1 := ⟨_, rfl⟩
              rw [hW1]
              have t1 : W1.heap.size = wo.heap.size + 1 := by rw [← hW1]; simp
              have F1 : Below W5.heap.size W5 W1 := by rw [← hW1]; exact FR2.out.alloc (by omega) _
              have KW : ∀ b, b < wo.heap.size → W1.heap[b]? = wo.heap[b]? := fun b hb => by rw [← hW1, heap_old hb]
              have G1 := Lib.hid (And.intro F1 KW)
              clear hW1 F1 KW d0 d1 d2 d3 d4
              go_loopg [60] nk (fun gk i wr => ∃ j : Nat, gk = nk - j ∧ j ≤ nk ∧ i = .int .i64 j ∧ Below W1.heap.size W1 wr)
              case atStart => exact ⟨0, rfl, Nat.zero_le _, rfl, Below.refl _ _⟩
              case round =>
                obtain ⟨j3, rfl, hj3, rfl, hBr3⟩ := hrel
                have sr3 := hBr3.size
                have FR3 := Lib.hid hBr3
                clear hBr3
                by_cases hlt3 : j3 < nk
                · have hi3 : (j3 : Int) < (nk : Int) := by omega
                  have hjl3 : j3 < (meArgs xj).length := by have := HM.out.2.1; omega
                  obtain ⟨rfl, hca3, hcm3, hga3⟩ := HM.out.2.2.1 (by omega)
                  unfold maxLen at hcm3
                  rw [HM.out.2.1] at hca3
                  obtain ⟨yj, hyj⟩ : ∃ x, (meArgs xj)[j3] = x := ⟨_, rfl⟩
                  have hnd := (HM.out.2.2.2.1 j3 hjl3).carry (W' := wr) (fun b hb => (FR3.out.block b (by omega)).trans (G1.out.2 b (by omega))) (fun _ h => h)
                  have hex : isEx yj = true := by rw [← hyj]; exact HM.out.2.2.2.2 _ (List.getElem_mem hjl3)
                  have hmem : yj ∈ meArgs xj := by rw [← hyj]; exact List.getElem_mem hjl3
                  rw [hyj] at hnd
                  obtain ⟨ky, sy, ny, z3, p3, g3, z4, p4, g4, z5, p5, g5, z6, p6, g6, hgb3, d0, d1, d2, d3, d4, d5, d6, hxv⟩ := hnd.open_ex hex
                  have HXV := Lib.hid (And.intro hxv hmem)
                  clear hxv hmem hnd hex hyj
                  have hgw3 : gk2 < wr.heap.size := by omega
                  have fx : Fair yj := by have h := HT.out.2.1; rw [HT.out.1] at h; exact h.mem HM.out.1 HXV.out.2
                  have zx : ndSize yj < ndSize ta := by rw [HT.out.1]; exact size_mem HM.out.1 HXV.out.2
                  have ex : errE yj = 0 := by have h := HR.out; rw [HT.out.1] at h; exact errE_mem fx h HM.out.1 HXV.out.2 (by have h := HAM.out.2.2.2.2.2 _ HM.out.1; exact h)
                  have HE := Lib.hid (And.intro fx (And.intro zx ex))
                  clear fx zx ex
                  have C1 : Hid (∀ V, Below wr.heap.size wr V → Calls Tryd.prog 18 #[.agg #[.int .i64 ky, .string sy, .int .i64 ny, .slice z3 p3 g3, .slice z4 p4 g4, .slice z5 p5 g5, .slice z6 p6 g6]] V fun e w' => e = .returned (.int .i64 0) ∧ Below wr.heap.size wr w') := Lib.hid fun V hV => by
                    have hs := hV.size
                    have g := XG.out V (G1.out.1.trans ((FR3.out.trans (hV.mono (by omega))).mono (by omega)))
                    refine (check_v (fun b => b < W5.heap.size) _ _ _ _ _ _ _ V yj T v g.1 g.2 (by have h1 := HE.out.2.1; have h2 := HT.out.2.2.1; omega) HE.out.1 (fun b h => by omega) (HXV.out.1.carry (fun b hb => hV.block b (by omega)) (fun _ h => h))).mono ?_
                    rintro e w' ⟨rfl, hB⟩
                    exact ⟨by rw [HE.out.2.2], hV.trans (hB.mono hV.size)⟩
                  go_wp2_with fail
                  refine (C1.out _ (by first | exact (Below.refl _ _).alloc (Nat.le_refl _) _ | exact ((Below.refl _ _).alloc (Nat.le_refl _) _).drew)).mono ?_
                  rintro e9 w9 ⟨rfl, hB9⟩
                  go_wp2_with fail
                  go_roundg (nk - (j3 + 1))
                  case measure => omega
                  case rel => exact ⟨j3 + 1, rfl, hlt3, by first | rfl | simp, FR3.out.trans (hB9.mono (by omega))⟩
                · have hi3 : ¬ (j3 : Int) < (nk : Int) := by omega
                  go_wp2_with fail
                  go_roundg (nm - (j2 + 1))
                  case measure => omega
                  case rel => exact ⟨j2 + 1, rfl, hlt2, by first | rfl | simp, G1.out.1.trans (FR3.out.mono (by omega))⟩
            · have hi2 : ¬ (j2 : Int) < (nm : Int) := by omega
              have HBX := XB.out wr FR2.out
              have b0 : wr.cell? ⟨w4.heap.size, 0, none⟩ = some (.int .i64 k2) := by rw [Lib.cell_of_heap HBX]; rfl
              have b1 : wr.cell? ⟨w4.heap.size, 1, none⟩ = some (.string t2) := by rw [Lib.cell_of_heap HBX]; rfl
              have b2 : wr.cell? ⟨w4.heap.size, 2, none⟩ = some (.int .i64 n2) := by rw [Lib.cell_of_heap HBX]; rfl
              have b3 : wr.cell? ⟨w4.heap.size, 3, none⟩ = some (.slice x3 na e3) := by rw [Lib.cell_of_heap HBX]; rfl
              have b4 : wr.cell? ⟨w4.heap.size, 4, none⟩ = some (.slice x4 l4 e4) := by rw [Lib.cell_of_heap HBX]; rfl
              have b5 : wr.cell? ⟨w4.heap.size, 5, none⟩ = some (.slice x5 l5 e5) := by rw [Lib.cell_of_heap HBX]; rfl
              have b6 : wr.cell? ⟨w4.heap.size, 6, none⟩ = some (.slice x6 nm e6) := by rw [Lib.cell_of_heap HBX]; rfl
              clear HBX
              go_wp2_with fail
              clear b0 b1 b2 b3 b4 b5 b6
              obtain ⟨W7, hW7⟩ : ∃ W7, (wr.alloc (.cells #[.int .i64 k2, .string t2, .int .i64 n2, .slice x3 na e3, .slice x4 l4 e4, .slice x5 l5 e5, .slice x6 nm e6, .int .i64 k2, .string t2, .int .i64 n2, .slice x3 na e3, .slice x4 l4 e4, .slice x5 l5 e5, .slice x6 nm e6] 33)).alloc (.cells #[.int .i64 10, .string ⟨#[]⟩, .int .i64 0, .slice (some ⟨wr.heap.size, 0, none⟩) 2 2, .slice none 0 0, .slice none 0 0, .slice none 0 0] 33) = W7 := ⟨_, rfl⟩
              rw [hW7]
              have t7 : W7.heap.size = wr.heap.size + 2 := by rw [← hW7]; simp
              have X7 : W7.heap[wr.heap.size]? = some (.cells #[.int .i64 k2, .string t2, .int .i64 n2, .slice x3 na e3, .slice x4 l4 e4, .slice x5 l5 e5, .slice x6 nm e6, .int .i64 k2, .string t2, .int .i64 n2, .slice x3 na e3, .slice x4 l4 e4, .slice x5 l5 e5, .slice x6 nm e6] 33) := by rw [← hW7, heap_old (by simp)]; exact heap_last rfl
              have Y7 : W7.heap[wr.heap.size + 1]? = some (.cells #[.int .i64 10, .string ⟨#[]⟩, .int .i64 0, .slice (some ⟨wr.heap.size, 0, none⟩) 2 2, .slice none 0 0, .slice none 0 0, .slice none 0 0] 33) := by rw [← hW7]; exact heap_last (by simp)
              have F7 : Below W5.heap.size W5 W7 := by rw [← hW7]; exact (FR2.out.alloc (by omega) _).alloc (by simp; omega) _
              have G7 := Lib.hid (And.intro X7 (And.intro Y7 F7))
              clear hW7 X7 Y7 F7
              have XP : Hid (∀ V, Below W7.heap.size W7 V → ExV V (fun b => b < W7.heap.size) [.int .i64 10, .string ⟨#[]⟩, .int .i64 0, .slice (some ⟨wr.heap.size, 0, none⟩) 2 2, .slice none 0 0, .slice none 0 0, .slice none 0 0] (pairN ta)) := Lib.hid fun V hV => by
                have hs := hV.size
                have h1 := XE.out V (G7.out.2.2.trans (hV.mono (by omega)))
                refine pair_ExV (c := [.int .i64 k2, .string t2, .int .i64 n2, .slice x3 na e3, .slice x4 l4 e4, .slice x5 l5 e5, .slice x6 nm e6]) (h1.carry (fun _ _ => rfl) (fun b hb => by omega)) rfl (by omega) HT.out.2.2.2 (fun j u hj => ?_)
                have hb := (hV.block wr.heap.size (by omega)).trans G7.out.1
                rw [Lib.cell_of_heap hb]
                simpa using hj
              have zta := HT.out.2.2.1
              have fpa : Fair (pairN ta) := fair_pair HT.out.2.1
              have zpa : ndSize (pairN ta) ≤ 900000 := by rw [pair_size]; omega
              have ZP := Lib.hid (And.intro fpa zpa)
              clear fpa zpa
              refine (check_v (fun b => b < W7.heap.size) _ _ _ _ _ _ _ W7 (pairN ta) T v (XG.out _ G7.out.2.2).1 (XG.out _ G7.out.2.2).2 ZP.out.2 ZP.out.1 (fun _ h => h) (XP.out _ (Below.refl _ _))).mono ?_
              rintro e w8 ⟨rfl, hB8⟩
              have s8 := hB8.size
              have SO : Hid (∀ V, Below w8.heap.size w8 V → V.cell? ⟨w4.heap.size, 0, none⟩ = some (.int .i64 k2) ∧ V.cell? ⟨w4.heap.size, 1, none⟩ = some (.string t2) ∧ V.cell? ⟨w4.heap.size, 2, none⟩ = some (.int .i64 n2) ∧ V.cell? ⟨w4.heap.size, 3, none⟩ = some (.slice x3 na e3) ∧ V.cell? ⟨w4.heap.size, 4, none⟩ = some (.slice x4 l4 e4) ∧ V.cell? ⟨w4.heap.size, 5, none⟩ = some (.slice x5 l5 e5) ∧ V.cell? ⟨w4.heap.size, 6, none⟩ = some (.slice x6 nm e6) ∧ V.cell? ⟨(wr.heap.size + 1), 0, none⟩ = some (.int .i64 10) ∧ V.cell? ⟨(wr.heap.size + 1), 1, none⟩ = some (.string ⟨#[]⟩) ∧ V.cell? ⟨(wr.heap.size + 1), 2, none⟩ = some (.int .i64 0) ∧ V.cell? ⟨(wr.heap.size + 1), 3, none⟩ = some (.slice (some ⟨wr.heap.size, 0, none⟩) 2 2) ∧ V.cell? ⟨(wr.heap.size + 1), 4, none⟩ = some (.slice none 0 0) ∧ V.cell? ⟨(wr.heap.size + 1), 5, none⟩ = some (.slice none 0 0) ∧ V.cell? ⟨(wr.heap.size + 1), 6, none⟩ = some (.slice none 0 0)) := Lib.hid fun V hV => by
                have a1 := XB.out V (G7.out.2.2.trans ((hB8.trans (hV.mono (by omega))).mono (by omega)))
                have a2 := ((hV.block (wr.heap.size + 1) (by omega)).trans (hB8.block (wr.heap.size + 1) (by omega))).trans G7.out.2.1
                refine ⟨?_, ?_, ?_, ?_, ?_, ?_, ?_, ?_, ?_, ?_, ?_, ?_, ?_, ?_⟩ <;> first | (rw [Lib.cell_of_heap a1]; rfl) | (rw [Lib.cell_of_heap a2]; rfl)
              obtain ⟨p2, hp2⟩ : ∃ p, ndSize ta = p := ⟨_, rfl⟩
              obtain ⟨q2, hq2⟩ : ∃ p, ndDeep ta = p := ⟨_, rfl⟩
              obtain ⟨r2, hr2⟩ : ∃ p, valueB ta = p := ⟨_, rfl⟩
              have perr := pair_err HT.out.2.1 HR.out
              have pdeep := pair_deep HT.out.2.1
              have dle : ndDeep ta ≤ 900001 := deep_le_size HT.out.2.1 (by omega)
              rw [hq2] at pdeep dle
              rw [pdeep] at perr
              rw [hp2] at zta
              have HP := Lib.hid (And.intro hp2 (And.intro hq2 (And.intro hr2 pdeep)))
              clear hp2 hq2 hr2 pdeep
              have F8 := Lib.hid hB8
              clear hB8
              have C1 : Hid (∀ V, Below w8.heap.size w8 V → Calls Tryd.prog 20 #[.agg #[.int .i64 10, .string ⟨#[]⟩, .int .i64 0, .slice (some ⟨wr.heap.size, 0, none⟩) 2 2, .slice none 0 0, .slice none 0 0, .slice none 0 0]] V fun e w' => e = .returned (.int .i64 (2 * (p2 : Int) + 1)) ∧ Below w8.heap.size w8 w') := Lib.hid fun V hV => by
                have hs := hV.size
                refine (size_v (fun b => b < W7.heap.size) _ _ _ _ _ _ _ V (pairN ta) ZP.out.2 (fun b h => by omega) (XP.out V (F8.out.trans (hV.mono (by omega))))).mono ?_
                rintro e w' ⟨rfl, hB⟩
                exact ⟨by rw [pair_size, HP.out.1]; rfl, hV.trans (hB.mono hV.size)⟩
              have C2 : Hid (∀ V, Below w8.heap.size w8 V → Calls Tryd.prog 20 #[.agg #[.int .i64 k2, .string t2, .int .i64 n2, .slice x3 na e3, .slice x4 l4 e4, .slice x5 l5 e5, .slice x6 nm e6]] V fun e w' => e = .returned (.int .i64 p2) ∧ Below w8.heap.size w8 w') := Lib.hid fun V hV => by
                have hs := hV.size
                refine (size_v (fun b => b < W5.heap.size) _ _ _ _ _ _ _ V ta (by have h2 := HT.out.2.2.1; omega) (fun b h => by omega) (XE.out V (G7.out.2.2.trans ((F8.out.trans (hV.mono (by omega))).mono (by omega))))).mono ?_
                rintro e w' ⟨rfl, hB⟩
                exact ⟨by rw [HP.out.1], hV.trans (hB.mono hV.size)⟩
              have C3 : Hid (∀ V, Below w8.heap.size w8 V → Calls Tryd.prog 19 #[.agg #[.int .i64 10, .string ⟨#[]⟩, .int .i64 0, .slice (some ⟨wr.heap.size, 0, none⟩) 2 2, .slice none 0 0, .slice none 0 0, .slice none 0 0]] V fun e w' => e = .returned (.int .i64 ((q2 : Int) + 1)) ∧ Below w8.heap.size w8 w') := Lib.hid fun V hV => by
                have hs := hV.size
                refine (deep_v (fun b => b < W7.heap.size) _ _ _ _ _ _ _ V (pairN ta) ZP.out.2 (fun b h => by omega) (XP.out V (F8.out.trans (hV.mono (by omega))))).mono ?_
                rintro e w' ⟨rfl, hB⟩
                exact ⟨by rw [HP.out.2.2.2]; rfl, hV.trans (hB.mono hV.size)⟩
              have C4 : Hid (∀ V, Below w8.heap.size w8 V → Calls Tryd.prog 19 #[.agg #[.int .i64 k2, .string t2, .int .i64 n2, .slice x3 na e3, .slice x4 l4 e4, .slice x5 l5 e5, .slice x6 nm e6]] V fun e w' => e = .returned (.int .i64 q2) ∧ Below w8.heap.size w8 w') := Lib.hid fun V hV => by
                have hs := hV.size
                refine (deep_v (fun b => b < W5.heap.size) _ _ _ _ _ _ _ V ta (by have h2 := HT.out.2.2.1; omega) (fun b h => by omega) (XE.out V (G7.out.2.2.trans ((F8.out.trans (hV.mono (by omega))).mono (by omega))))).mono ?_
                rintro e w' ⟨rfl, hB⟩
                exact ⟨by rw [HP.out.2.1], hV.trans (hB.mono hV.size)⟩
              have C5 : Hid (∀ V, Below w8.heap.size w8 V → Calls Tryd.prog 21 #[.agg #[.int .i64 10, .string ⟨#[]⟩, .int .i64 0, .slice (some ⟨wr.heap.size, 0, none⟩) 2 2, .slice none 0 0, .slice none 0 0, .slice none 0 0]] V fun e w' => e = .returned (.bool r2) ∧ Below w8.heap.size w8 w') := Lib.hid fun V hV => by
                have hs := hV.size
                refine (value_v (fun b => b < W7.heap.size) _ _ _ _ _ _ _ V (pairN ta) (by have := ZP.out.2; omega) (fun b h => by omega) (XP.out V (F8.out.trans (hV.mono (by omega))))).mono ?_
                rintro e w' ⟨rfl, hB⟩
                exact ⟨by rw [pair_value, HP.out.2.2.1], hV.trans (hB.mono hV.size)⟩
              have C6 : Hid (∀ V, Below w8.heap.size w8 V → Calls Tryd.prog 21 #[.agg #[.int .i64 k2, .string t2, .int .i64 n2, .slice x3 na e3, .slice x4 l4 e4, .slice x5 l5 e5, .slice x6 nm e6]] V fun e w' => e = .returned (.bool r2) ∧ Below w8.heap.size w8 w') := Lib.hid fun V hV => by
                have hs := hV.size
                refine (value_v (fun b => b < W5.heap.size) _ _ _ _ _ _ _ V ta (by have h2 := HT.out.2.2.1; omega) (fun b h => by omega) (XE.out V (G7.out.2.2.trans ((F8.out.trans (hV.mono (by omega))).mono (by omega))))).mono ?_
                rintro e w' ⟨rfl, hB⟩
                exact ⟨by rw [HP.out.2.2.1], hV.trans (hB.mono hV.size)⟩
              have hBB : Below w8.heap.size w8 w8.drew := (Below.refl _ _).drew
              have FF : Hid (Below w.heap.size w w8) := Lib.hid (H5.out.2.1.trans ((G7.out.2.2.trans (F8.out.mono (by omega))).mono (by have := H5.out.2.1.size; omega)))
              have hw1 : IntKind.i64.wrap (2 * (p2 : Int)) = 2 * (p2 : Int) := by rw [IntKind.wrap_i64]; omega
              have hw2 : IntKind.i64.wrap (2 * (p2 : Int) + 1) = 2 * (p2 : Int) + 1 := by rw [IntKind.wrap_i64]; omega
              have hw3 : IntKind.i64.wrap ((q2 : Int) + 1) = (q2 : Int) + 1 := by rw [IntKind.wrap_i64]; omega
              have hw4 : ((2 * (p2 : Int) + 1) == 2 * (p2 : Int) + 1) = true := by simp
              have hw5 : (((q2 : Int) + 1) == (q2 : Int) + 1) = true := by simp
              have hw6 : (r2 == r2) = true := by simp
              rcases perr with pe | ⟨pe, pd⟩
              · rw [pe]
                clear pe
                go_wp2_with fail
                refine wp_region_held_drew (S := fun V => V.cell? ⟨w4.heap.size, 0, none⟩ = some (.int .i64 k2) ∧ V.cell? ⟨w4.heap.size, 1, none⟩ = some (.string t2) ∧ V.cell? ⟨w4.heap.size, 2, none⟩ = some (.int .i64 n2) ∧ V.cell? ⟨w4.heap.size, 3, none⟩ = some (.slice x3 na e3) ∧ V.cell? ⟨w4.heap.size, 4, none⟩ = some (.slice x4 l4 e4) ∧ V.cell? ⟨w4.heap.size, 5, none⟩ = some (.slice x5 l5 e5) ∧ V.cell? ⟨w4.heap.size, 6, none⟩ = some (.slice x6 nm e6) ∧ V.cell? ⟨(wr.heap.size + 1), 0, none⟩ = some (.int .i64 10) ∧ V.cell? ⟨(wr.heap.size + 1), 1, none⟩ = some (.string ⟨#[]⟩) ∧ V.cell? ⟨(wr.heap.size + 1), 2, none⟩ = some (.int .i64 0) ∧ V.cell? ⟨(wr.heap.size + 1), 3, none⟩ = some (.slice (some ⟨wr.heap.size, 0, none⟩) 2 2) ∧ V.cell? ⟨(wr.heap.size + 1), 4, none⟩ = some (.slice none 0 0) ∧ V.cell? ⟨(wr.heap.size + 1), 5, none⟩ = some (.slice none 0 0) ∧ V.cell? ⟨(wr.heap.size + 1), 6, none⟩ = some (.slice none 0 0)) (by kernel_rfl) (SO.out _ hBB) (fun hHeld => ?_)
                refine wpAnyH_take (i := 0) (v := ?_) rfl (by kernel_rfl) (by kernel_rfl) (by kernel_rfl) (fun _ _ _ h => h) (Or.inl ⟨by rfl, ?_⟩) (by assumption) ?_
                rotate_left
                · intro w hSw
                  (try dsimp only at hSw)
                  go_simp
                  try with_reducible rfl
                try simp only [List.getElem_toArray, List.getElem_cons_zero, List.getElem_cons_succ, Act.put, List.setIfInBounds_toArray, List.set_cons_zero, List.set_cons_succ]
                refine wpAnyH_take (i := 2) (v := ?_) rfl (by kernel_rfl) (by kernel_rfl) (by kernel_rfl) (fun _ _ _ h => h) (Or.inl ⟨by rfl, ?_⟩) (by assumption) ?_
                rotate_left
                · intro w hSw
                  (try dsimp only at hSw)
                  go_simp
                  try with_reducible rfl
                try simp only [List.getElem_toArray, List.getElem_cons_zero, List.getElem_cons_succ, Act.put, List.setIfInBounds_toArray, List.set_cons_zero, List.set_cons_succ]
                refine wpAnyH_ready (rs := [1]) (by kernel_rfl) (by simp) ?_
                refine AllReadyH.cons (by simp only [List.getElem?_toArray, List.getElem?_cons_zero, List.getElem?_cons_succ]; rfl) (fun K hK => ?_) AllReadyH.nil
                go_simp
                (go_at_call 20; with_reducible refine (C1.out _ hBB).mono ?_; rintro e9 w9 ⟨rfl, hBB⟩)
                go_wp2_with fail
                refine hK.out _ _ (by first | assumption | exact SO.out _ (by first | exact hBB | exact dN_below hBB _ | exact hBB.drew)) (fun hHeld => ?_)
                try simp only [List.getElem_toArray, List.getElem_cons_zero, List.getElem_cons_succ, Act.put, List.setIfInBounds_toArray, List.set_cons_zero, List.set_cons_succ]
                refine wpAnyH_ready (rs := [3]) (by kernel_rfl) (by simp) ?_
                refine AllReadyH.cons (by simp only [List.getElem?_toArray, List.getElem?_cons_zero, List.getElem?_cons_succ]; rfl) (fun K hK => ?_) AllReadyH.nil
                go_simp
                (go_at_call 20; with_reducible refine (C2.out _ hBB).mono ?_; rintro e9 w9 ⟨rfl, hBB⟩)
                go_wp2_with fail
                refine hK.out _ _ (by first | assumption | exact SO.out _ (by first | exact hBB | exact dN_below hBB _ | exact hBB.drew)) (fun hHeld => ?_)
                try simp only [List.getElem_toArray, List.getElem_cons_zero, List.getElem_cons_succ, Act.put, List.setIfInBounds_toArray, List.set_cons_zero, List.set_cons_succ]
                refine wpAnyH_take (i := 4) (v := ?_) rfl (by kernel_rfl) (by kernel_rfl) (by kernel_rfl) (fun _ _ _ h => h) (Or.inl ⟨by rfl, ?_⟩) (by assumption) ?_
                rotate_left
                · intro w hSw
                  (try dsimp only at hSw)
                  go_simp
                  try with_reducible rfl
                try simp only [List.getElem_toArray, List.getElem_cons_zero, List.getElem_cons_succ, Act.put, List.setIfInBounds_toArray, List.set_cons_zero, List.set_cons_succ]
                refine wpAnyH_take (i := 5) (v := ?_) rfl (by kernel_rfl) (by kernel_rfl) (by kernel_rfl) (fun _ _ _ h => h) (Or.inl ⟨by rfl, ?_⟩) (by assumption) ?_
                rotate_left
                · intro w hSw
                  (try dsimp only at hSw)
                  go_simp
                  try with_reducible rfl
                try simp only [List.getElem_toArray, List.getElem_cons_zero, List.getElem_cons_succ, Act.put, List.setIfInBounds_toArray, List.set_cons_zero, List.set_cons_succ]
                refine wpAnyH_take (i := 6) (v := ?_) rfl (by kernel_rfl) (by kernel_rfl) (by kernel_rfl) (fun _ _ _ h => h) (Or.inl ⟨by rfl, ?_⟩) (by assumption) ?_
                rotate_left
                · intro w hSw
                  (try dsimp only at hSw)
                  go_simp
                  try with_reducible rfl
                try simp only [List.getElem_toArray, List.getElem_cons_zero, List.getElem_cons_succ, Act.put, List.setIfInBounds_toArray, List.set_cons_zero, List.set_cons_succ]
                refine wpAnyH_take (i := 7) (v := ?_) rfl (by kernel_rfl) (by kernel_rfl) (by kernel_rfl) (fun _ _ _ h => h) (Or.inl ⟨by rfl, ?_⟩) (by assumption) ?_
                rotate_left
                · intro w hSw
                  (try dsimp only at hSw)
                  go_simp
                  try with_reducible rfl
                try simp only [List.getElem_toArray, List.getElem_cons_zero, List.getElem_cons_succ, Act.put, List.setIfInBounds_toArray, List.set_cons_zero, List.set_cons_succ]
                refine wpAnyH_take (i := 8) (v := ?_) rfl (by kernel_rfl) (by kernel_rfl) (by kernel_rfl) (fun _ _ _ h => h) (Or.inl ⟨by rfl, ?_⟩) (by assumption) ?_
                rotate_left
                · intro w hSw
                  (try dsimp only at hSw)
                  go_simp
                  try with_reducible rfl
                try simp only [List.getElem_toArray, List.getElem_cons_zero, List.getElem_cons_succ, Act.put, List.setIfInBounds_toArray, List.set_cons_zero, List.set_cons_succ]
                refine wpAnyH_take (i := 10) (v := ?_) rfl (by kernel_rfl) (by kernel_rfl) (by kernel_rfl) (fun _ _ _ h => h) (Or.inl ⟨by rfl, ?_⟩) (by assumption) ?_
                rotate_left
                · intro w hSw
                  (try dsimp only at hSw)
                  go_simp
                  try with_reducible rfl
                try simp only [List.getElem_toArray, List.getElem_cons_zero, List.getElem_cons_succ, Act.put, List.setIfInBounds_toArray, List.set_cons_zero, List.set_cons_succ]
                refine wpAnyH_ready (rs := [9]) (by kernel_rfl) (by simp) ?_
                refine AllReadyH.cons (by simp only [List.getElem?_toArray, List.getElem?_cons_zero, List.getElem?_cons_succ]; rfl) (fun K hK => ?_) AllReadyH.nil
                go_simp
                (go_at_call 19; with_reducible refine (C3.out _ hBB).mono ?_; rintro e9 w9 ⟨rfl, hBB⟩)
                go_wp2_with fail
                refine hK.out _ _ (by first | assumption | exact SO.out _ (by first | exact hBB | exact dN_below hBB _ | exact hBB.drew)) (fun hHeld => ?_)
                try simp only [List.getElem_toArray, List.getElem_cons_zero, List.getElem_cons_succ, Act.put, List.setIfInBounds_toArray, List.set_cons_zero, List.set_cons_succ]
                refine wpAnyH_ready (rs := [11]) (by kernel_rfl) (by simp) ?_
                refine AllReadyH.cons (by simp only [List.getElem?_toArray, List.getElem?_cons_zero, List.getElem?_cons_succ]; rfl) (fun K hK => ?_) AllReadyH.nil
                go_simp
                (go_at_call 19; with_reducible refine (C4.out _ hBB).mono ?_; rintro e9 w9 ⟨rfl, hBB⟩)
                go_wp2_with fail
                refine hK.out _ _ (by first | assumption | exact SO.out _ (by first | exact hBB | exact dN_below hBB _ | exact hBB.drew)) (fun hHeld => ?_)
                try simp only [List.getElem_toArray, List.getElem_cons_zero, List.getElem_cons_succ, Act.put, List.setIfInBounds_toArray, List.set_cons_zero, List.set_cons_succ]
                refine wpAnyH_take (i := 12) (v := ?_) rfl (by kernel_rfl) (by kernel_rfl) (by kernel_rfl) (fun _ _ _ h => h) (Or.inl ⟨by rfl, ?_⟩) (by assumption) ?_
                rotate_left
                · intro w hSw
                  (try dsimp only at hSw)
                  go_simp
                  try with_reducible rfl
                try simp only [List.getElem_toArray, List.getElem_cons_zero, List.getElem_cons_succ, Act.put, List.setIfInBounds_toArray, List.set_cons_zero, List.set_cons_succ]
                refine wpAnyH_take (i := 13) (v := ?_) rfl (by kernel_rfl) (by kernel_rfl) (by kernel_rfl) (fun _ _ _ h => h) (Or.inl ⟨by rfl, ?_⟩) (by assumption) ?_
                rotate_left
                · intro w hSw
                  (try dsimp only at hSw)
                  go_simp
                  try with_reducible rfl
                try simp only [List.getElem_toArray, List.getElem_cons_zero, List.getElem_cons_succ, Act.put, List.setIfInBounds_toArray, List.set_cons_zero, List.set_cons_succ]
                refine wpAnyH_take (i := 14) (v := ?_) rfl (by kernel_rfl) (by kernel_rfl) (by kernel_rfl) (fun _ _ _ h => h) (Or.inl ⟨by rfl, ?_⟩) (by assumption) ?_
                rotate_left
                · intro w hSw
                  (try dsimp only at hSw)
                  go_simp
                  try with_reducible rfl
                try simp only [List.getElem_toArray, List.getElem_cons_zero, List.getElem_cons_succ, Act.put, List.setIfInBounds_toArray, List.set_cons_zero, List.set_cons_succ]
                refine wpAnyH_take (i := 15) (v := ?_) rfl (by kernel_rfl) (by kernel_rfl) (by kernel_rfl) (fun _ _ _ h => h) (Or.inl ⟨by rfl, ?_⟩) (by assumption) ?_
                rotate_left
                · intro w hSw
                  (try dsimp only at hSw)
                  go_simp
                  try with_reducible rfl
                try simp only [List.getElem_toArray, List.getElem_cons_zero, List.getElem_cons_succ, Act.put, List.setIfInBounds_toArray, List.set_cons_zero, List.set_cons_succ]
                refine wpAnyH_take (i := 16) (v := ?_) rfl (by kernel_rfl) (by kernel_rfl) (by kernel_rfl) (fun _ _ _ h => h) (Or.inl ⟨by rfl, ?_⟩) (by assumption) ?_
                rotate_left
                · intro w hSw
                  (try dsimp only at hSw)
                  go_simp
                  try with_reducible rfl
                try simp only [List.getElem_toArray, List.getElem_cons_zero, List.getElem_cons_succ, Act.put, List.setIfInBounds_toArray, List.set_cons_zero, List.set_cons_succ]
                refine wpAnyH_take (i := 18) (v := ?_) rfl (by kernel_rfl) (by kernel_rfl) (by kernel_rfl) (fun _ _ _ h => h) (Or.inl ⟨by rfl, ?_⟩) (by assumption) ?_
                rotate_left
                · intro w hSw
                  (try dsimp only at hSw)
                  go_simp
                  try with_reducible rfl
                try simp only [List.getElem_toArray, List.getElem_cons_zero, List.getElem_cons_succ, Act.put, List.setIfInBounds_toArray, List.set_cons_zero, List.set_cons_succ]
                refine wpAnyH_ready (rs := [17]) (by kernel_rfl) (by simp) ?_
                refine AllReadyH.cons (by simp only [List.getElem?_toArray, List.getElem?_cons_zero, List.getElem?_cons_succ]; rfl) (fun K hK => ?_) AllReadyH.nil
                go_simp
                (go_at_call 21; with_reducible refine (C5.out _ hBB).mono ?_; rintro e9 w9 ⟨rfl, hBB⟩)
                go_wp2_with fail
                refine hK.out _ _ (by first | assumption | exact SO.out _ (by first | exact hBB | exact dN_below hBB _ | exact hBB.drew)) (fun hHeld => ?_)
                try simp only [List.getElem_toArray, List.getElem_cons_zero, List.getElem_cons_succ, Act.put, List.setIfInBounds_toArray, List.set_cons_zero, List.set_cons_succ]
                refine wpAnyH_ready (rs := [19]) (by kernel_rfl) (by simp) ?_
                refine AllReadyH.cons (by simp only [List.getElem?_toArray, List.getElem?_cons_zero, List.getElem?_cons_succ]; rfl) (fun K hK => ?_) AllReadyH.nil
                go_simp
                (go_at_call 21; with_reducible refine (C6.out _ hBB).mono ?_; rintro e9 w9 ⟨rfl, hBB⟩)
                go_wp2_with fail
                refine hK.out _ _ (by first | assumption | exact SO.out _ (by first | exact hBB | exact dN_below hBB _ | exact hBB.drew)) (fun hHeld => ?_)
                try simp only [List.getElem_toArray, List.getElem_cons_zero, List.getElem_cons_succ, Act.put, List.setIfInBounds_toArray, List.set_cons_zero, List.set_cons_succ]
                refine wpAnyH_take (i := 20) (v := ?_) rfl (by kernel_rfl) (by kernel_rfl) (by kernel_rfl) (fun _ _ _ h => h) (Or.inl ⟨by rfl, ?_⟩) (by assumption) ?_
                rotate_left
                · intro w hSw
                  (try dsimp only at hSw)
                  go_simp
                  try with_reducible rfl
                try simp only [List.getElem_toArray, List.getElem_cons_zero, List.getElem_cons_succ, Act.put, List.setIfInBounds_toArray, List.set_cons_zero, List.set_cons_succ]
                refine wpAnyH_take (i := 21) (v := ?_) rfl (by kernel_rfl) (by kernel_rfl) (by kernel_rfl) (fun _ _ _ h => h) (Or.inl ⟨by rfl, ?_⟩) (by assumption) ?_
                rotate_left
                · intro w hSw
                  (try dsimp only at hSw)
                  go_simp
                  try with_reducible rfl
                try simp only [List.getElem_toArray, List.getElem_cons_zero, List.getElem_cons_succ, Act.put, List.setIfInBounds_toArray, List.set_cons_zero, List.set_cons_succ]
                refine wpAnyH_take (i := 22) (v := ?_) rfl (by kernel_rfl) (by kernel_rfl) (by kernel_rfl) (fun _ _ _ h => h) (Or.inl ⟨by rfl, ?_⟩) (by assumption) ?_
                rotate_left
                · intro w hSw
                  (try dsimp only at hSw)
                  go_simp
                  try with_reducible rfl
                try simp only [List.getElem_toArray, List.getElem_cons_zero, List.getElem_cons_succ, Act.put, List.setIfInBounds_toArray, List.set_cons_zero, List.set_cons_succ]
                refine wpAnyH_take (i := 23) (v := ?_) rfl (by kernel_rfl) (by kernel_rfl) (by kernel_rfl) (fun _ _ _ h => h) (Or.inl ⟨by rfl, ?_⟩) (by assumption) ?_
                rotate_left
                · intro w hSw
                  (try dsimp only at hSw)
                  go_simp
                  try with_reducible rfl
                try simp only [List.getElem_toArray, List.getElem_cons_zero, List.getElem_cons_succ, Act.put, List.setIfInBounds_toArray, List.set_cons_zero, List.set_cons_succ]
                refine wpAnyH_take (i := 24) (v := ?_) rfl (by kernel_rfl) (by kernel_rfl) (by kernel_rfl) (fun _ _ _ h => h) (Or.inl ⟨by rfl, ?_⟩) (by assumption) ?_
                rotate_left
                · intro w hSw
                  (try dsimp only at hSw)
                  go_simp
                  try with_reducible rfl
                try simp only [List.getElem_toArray, List.getElem_cons_zero, List.getElem_cons_succ, Act.put, List.setIfInBounds_toArray, List.set_cons_zero, List.set_cons_succ]
                refine wpAnyH_take (i := 25) (v := ?_) rfl (by kernel_rfl) (by kernel_rfl) (by kernel_rfl) (fun _ _ _ h => h) (Or.inl ⟨by rfl, ?_⟩) (by assumption) ?_
                rotate_left
                · intro w hSw
                  (try dsimp only at hSw)
                  go_simp
                  try with_reducible rfl
                try simp only [List.getElem_toArray, List.getElem_cons_zero, List.getElem_cons_succ, Act.put, List.setIfInBounds_toArray, List.set_cons_zero, List.set_cons_succ]
                refine wpAnyH_take (i := 26) (v := undef) rfl (by kernel_rfl) (by kernel_rfl) (by kernel_rfl) (fun _ _ _ h => h) (Or.inr ⟨by rfl, rfl⟩) (by assumption) ?_
                try simp only [List.getElem_toArray, List.getElem_cons_zero, List.getElem_cons_succ, Act.put, List.setIfInBounds_toArray, List.set_cons_zero, List.set_cons_succ]
                refine wpAnyH_take (i := 27) (v := undef) rfl (by kernel_rfl) (by kernel_rfl) (by kernel_rfl) (fun _ _ _ h => h) (Or.inr ⟨by rfl, rfl⟩) (by assumption) ?_
                try simp only [List.getElem_toArray, List.getElem_cons_zero, List.getElem_cons_succ, Act.put, List.setIfInBounds_toArray, List.set_cons_zero, List.set_cons_succ]
                refine wpAnyH_take (i := 28) (v := undef) rfl (by kernel_rfl) (by kernel_rfl) (by kernel_rfl) (fun _ _ _ h => h) (Or.inr ⟨by rfl, rfl⟩) (by assumption) ?_
                try simp only [List.getElem_toArray, List.getElem_cons_zero, List.getElem_cons_succ, Act.put, List.setIfInBounds_toArray, List.set_cons_zero, List.set_cons_succ]
                refine wpAnyH_take (i := 29) (v := undef) rfl (by kernel_rfl) (by kernel_rfl) (by kernel_rfl) (fun _ _ _ h => h) (Or.inr ⟨by rfl, rfl⟩) (by assumption) ?_
                try simp only [List.getElem_toArray, List.getElem_cons_zero, List.getElem_cons_succ, Act.put, List.setIfInBounds_toArray, List.set_cons_zero, List.set_cons_succ]
                refine wpAnyH_take (i := 30) (v := undef) rfl (by kernel_rfl) (by kernel_rfl) (by kernel_rfl) (fun _ _ _ h => h) (Or.inr ⟨by rfl, rfl⟩) (by assumption) ?_
                try simp only [List.getElem_toArray, List.getElem_cons_zero, List.getElem_cons_succ, Act.put, List.setIfInBounds_toArray, List.set_cons_zero, List.set_cons_succ]
                refine wpAnyH_take (i := 31) (v := undef) rfl (by kernel_rfl) (by kernel_rfl) (by kernel_rfl) (fun _ _ _ h => h) (Or.inr ⟨by rfl, rfl⟩) (by assumption) ?_
                try simp only [List.getElem_toArray, List.getElem_cons_zero, List.getElem_cons_succ, Act.put, List.setIfInBounds_toArray, List.set_cons_zero, List.set_cons_succ]
                refine wpAnyH_take (i := 32) (v := undef) rfl (by kernel_rfl) (by kernel_rfl) (by kernel_rfl) (fun _ _ _ h => h) (Or.inr ⟨by rfl, rfl⟩) (by assumption) ?_
                try simp only [List.getElem_toArray, List.getElem_cons_zero, List.getElem_cons_succ, Act.put, List.setIfInBounds_toArray, List.set_cons_zero, List.set_cons_succ]
                refine wpAnyH_take (i := 33) (v := ?_) rfl (by kernel_rfl) (by kernel_rfl) (by kernel_rfl) (fun _ _ _ h => h) (Or.inl ⟨by rfl, ?_⟩) (by assumption) ?_
                rotate_left
                · intro w hSw
                  (try dsimp only at hSw)
                  go_simp
                  try with_reducible rfl
                try simp only [List.getElem_toArray, List.getElem_cons_zero, List.getElem_cons_succ, Act.put, List.setIfInBounds_toArray, List.set_cons_zero, List.set_cons_succ]
                refine wpAnyH_take (i := 34) (v := ?_) rfl (by kernel_rfl) (by kernel_rfl) (by kernel_rfl) (fun _ _ _ h => h) (Or.inl ⟨by rfl, ?_⟩) (by assumption) ?_
                rotate_left
                · intro w hSw
                  (try dsimp only at hSw)
                  go_simp
                  try with_reducible rfl
                try simp only [List.getElem_toArray, List.getElem_cons_zero, List.getElem_cons_succ, Act.put, List.setIfInBounds_toArray, List.set_cons_zero, List.set_cons_succ]
                refine wpAnyH_take (i := 35) (v := ?_) rfl (by kernel_rfl) (by kernel_rfl) (by kernel_rfl) (fun _ _ _ h => h) (Or.inl ⟨by rfl, ?_⟩) (by assumption) ?_
                rotate_left
                · intro w hSw
                  (try dsimp only at hSw)
                  go_simp
                  try with_reducible rfl
                try simp only [List.getElem_toArray, List.getElem_cons_zero, List.getElem_cons_succ, Act.put, List.setIfInBounds_toArray, List.set_cons_zero, List.set_cons_succ]
                refine wpAnyH_done (by kernel_rfl) ?_ _
                go_wp2_with fail
                go_ret
                exact ⟨by rfl, FF.out.trans ((show Below w8.heap.size w8 _ by first | exact hBB | exact dN_below hBB _ | exact hBB.drew).mono FF.out.size)⟩
              · rw [pe]
                have pd2 : decide ((200 : Int) < (q2 : Int) + 1) = true := decide_eq_true (by omega)
                clear pe pd
                go_wp2_with fail
                refine wp_region_held_drew (S := fun V => V.cell? ⟨w4.heap.size, 0, none⟩ = some (.int .i64 k2) ∧ V.cell? ⟨w4.heap.size, 1, none⟩ = some (.string t2) ∧ V.cell? ⟨w4.heap.size, 2, none⟩ = some (.int .i64 n2) ∧ V.cell? ⟨w4.heap.size, 3, none⟩ = some (.slice x3 na e3) ∧ V.cell? ⟨w4.heap.size, 4, none⟩ = some (.slice x4 l4 e4) ∧ V.cell? ⟨w4.heap.size, 5, none⟩ = some (.slice x5 l5 e5) ∧ V.cell? ⟨w4.heap.size, 6, none⟩ = some (.slice x6 nm e6) ∧ V.cell? ⟨(wr.heap.size + 1), 0, none⟩ = some (.int .i64 10) ∧ V.cell? ⟨(wr.heap.size + 1), 1, none⟩ = some (.string ⟨#[]⟩) ∧ V.cell? ⟨(wr.heap.size + 1), 2, none⟩ = some (.int .i64 0) ∧ V.cell? ⟨(wr.heap.size + 1), 3, none⟩ = some (.slice (some ⟨wr.heap.size, 0, none⟩) 2 2) ∧ V.cell? ⟨(wr.heap.size + 1), 4, none⟩ = some (.slice none 0 0) ∧ V.cell? ⟨(wr.heap.size + 1), 5, none⟩ = some (.slice none 0 0) ∧ V.cell? ⟨(wr.heap.size + 1), 6, none⟩ = some (.slice none 0 0)) (by kernel_rfl) (SO.out _ hBB) (fun hHeld => ?_)
                refine wpAnyH_take (i := 0) (v := ?_) rfl (by kernel_rfl) (by kernel_rfl) (by kernel_rfl) (fun _ _ _ h => h) (Or.inl ⟨by rfl, ?_⟩) (by assumption) ?_
                rotate_left
                · intro w hSw
                  (try dsimp only at hSw)
                  go_simp
                  try with_reducible rfl
                try simp only [List.getElem_toArray, List.getElem_cons_zero, List.getElem_cons_succ, Act.put, List.setIfInBounds_toArray, List.set_cons_zero, List.set_cons_succ]
                refine wpAnyH_take (i := 2) (v := ?_) rfl (by kernel_rfl) (by kernel_rfl) (by kernel_rfl) (fun _ _ _ h => h) (Or.inl ⟨by rfl, ?_⟩) (by assumption) ?_
                rotate_left
                · intro w hSw
                  (try dsimp only at hSw)
                  go_simp
                  try with_reducible rfl
                try simp only [List.getElem_toArray, List.getElem_cons_zero, List.getElem_cons_succ, Act.put, List.setIfInBounds_toArray, List.set_cons_zero, List.set_cons_succ]
                refine wpAnyH_ready (rs := [1]) (by kernel_rfl) (by simp) ?_
                refine AllReadyH.cons (by simp only [List.getElem?_toArray, List.getElem?_cons_zero, List.getElem?_cons_succ]; rfl) (fun K hK => ?_) AllReadyH.nil
                go_simp
                (go_at_call 20; with_reducible refine (C1.out _ hBB).mono ?_; rintro e9 w9 ⟨rfl, hBB⟩)
                go_wp2_with fail
                refine hK.out _ _ (by first | assumption | exact SO.out _ (by first | exact hBB | exact dN_below hBB _ | exact hBB.drew)) (fun hHeld => ?_)
                try simp only [List.getElem_toArray, List.getElem_cons_zero, List.getElem_cons_succ, Act.put, List.setIfInBounds_toArray, List.set_cons_zero, List.set_cons_succ]
                refine wpAnyH_ready (rs := [3]) (by kernel_rfl) (by simp) ?_
                refine AllReadyH.cons (by simp only [List.getElem?_toArray, List.getElem?_cons_zero, List.getElem?_cons_succ]; rfl) (fun K hK => ?_) AllReadyH.nil
                go_simp
                (go_at_call 20; with_reducible refine (C2.out _ hBB).mono ?_; rintro e9 w9 ⟨rfl, hBB⟩)
                go_wp2_with fail
                refine hK.out _ _ (by first | assumption | exact SO.out _ (by first | exact hBB | exact dN_below hBB _ | exact hBB.drew)) (fun hHeld => ?_)
                try simp only [List.getElem_toArray, List.getElem_cons_zero, List.getElem_cons_succ, Act.put, List.setIfInBounds_toArray, List.set_cons_zero, List.set_cons_succ]
                refine wpAnyH_take (i := 4) (v := ?_) rfl (by kernel_rfl) (by kernel_rfl) (by kernel_rfl) (fun _ _ _ h => h) (Or.inl ⟨by rfl, ?_⟩) (by assumption) ?_
                rotate_left
                · intro w hSw
                  (try dsimp only at hSw)
                  go_simp
                  try with_reducible rfl
                try simp only [List.getElem_toArray, List.getElem_cons_zero, List.getElem_cons_succ, Act.put, List.setIfInBounds_toArray, List.set_cons_zero, List.set_cons_succ]
                refine wpAnyH_take (i := 5) (v := ?_) rfl (by kernel_rfl) (by kernel_rfl) (by kernel_rfl) (fun _ _ _ h => h) (Or.inl ⟨by rfl, ?_⟩) (by assumption) ?_
                rotate_left
                · intro w hSw
                  (try dsimp only at hSw)
                  go_simp
                  try with_reducible rfl
                try simp only [List.getElem_toArray, List.getElem_cons_zero, List.getElem_cons_succ, Act.put, List.setIfInBounds_toArray, List.set_cons_zero, List.set_cons_succ]
                refine wpAnyH_take (i := 6) (v := ?_) rfl (by kernel_rfl) (by kernel_rfl) (by kernel_rfl) (fun _ _ _ h => h) (Or.inl ⟨by rfl, ?_⟩) (by assumption) ?_
                rotate_left
                · intro w hSw
                  (try dsimp only at hSw)
                  go_simp
                  try with_reducible rfl
                try simp only [List.getElem_toArray, List.getElem_cons_zero, List.getElem_cons_succ, Act.put, List.setIfInBounds_toArray, List.set_cons_zero, List.set_cons_succ]
                refine wpAnyH_take (i := 7) (v := ?_) rfl (by kernel_rfl) (by kernel_rfl) (by kernel_rfl) (fun _ _ _ h => h) (Or.inl ⟨by rfl, ?_⟩) (by assumption) ?_
                rotate_left
                · intro w hSw
                  (try dsimp only at hSw)
                  go_simp
                  try with_reducible rfl
                try simp only [List.getElem_toArray, List.getElem_cons_zero, List.getElem_cons_succ, Act.put, List.setIfInBounds_toArray, List.set_cons_zero, List.set_cons_succ]
                refine wpAnyH_take (i := 8) (v := ?_) rfl (by kernel_rfl) (by kernel_rfl) (by kernel_rfl) (fun _ _ _ h => h) (Or.inl ⟨by rfl, ?_⟩) (by assumption) ?_
                rotate_left
                · intro w hSw
                  (try dsimp only at hSw)
                  go_simp
                  try with_reducible rfl
                try simp only [List.getElem_toArray, List.getElem_cons_zero, List.getElem_cons_succ, Act.put, List.setIfInBounds_toArray, List.set_cons_zero, List.set_cons_succ]
                refine wpAnyH_take (i := 10) (v := ?_) rfl (by kernel_rfl) (by kernel_rfl) (by kernel_rfl) (fun _ _ _ h => h) (Or.inl ⟨by rfl, ?_⟩) (by assumption) ?_
                rotate_left
                · intro w hSw
                  (try dsimp only at hSw)
                  go_simp
                  try with_reducible rfl
                try simp only [List.getElem_toArray, List.getElem_cons_zero, List.getElem_cons_succ, Act.put, List.setIfInBounds_toArray, List.set_cons_zero, List.set_cons_succ]
                refine wpAnyH_ready (rs := [9]) (by kernel_rfl) (by simp) ?_
                refine AllReadyH.cons (by simp only [List.getElem?_toArray, List.getElem?_cons_zero, List.getElem?_cons_succ]; rfl) (fun K hK => ?_) AllReadyH.nil
                go_simp
                (go_at_call 19; with_reducible refine (C3.out _ hBB).mono ?_; rintro e9 w9 ⟨rfl, hBB⟩)
                go_wp2_with fail
                refine hK.out _ _ (by first | assumption | exact SO.out _ (by first | exact hBB | exact dN_below hBB _ | exact hBB.drew)) (fun hHeld => ?_)
                try simp only [List.getElem_toArray, List.getElem_cons_zero, List.getElem_cons_succ, Act.put, List.setIfInBounds_toArray, List.set_cons_zero, List.set_cons_succ]
                refine wpAnyH_ready (rs := [11]) (by kernel_rfl) (by simp) ?_
                refine AllReadyH.cons (by simp only [List.getElem?_toArray, List.getElem?_cons_zero, List.getElem?_cons_succ]; rfl) (fun K hK => ?_) AllReadyH.nil
                go_simp
                (go_at_call 19; with_reducible refine (C4.out _ hBB).mono ?_; rintro e9 w9 ⟨rfl, hBB⟩)
                go_wp2_with fail
                refine hK.out _ _ (by first | assumption | exact SO.out _ (by first | exact hBB | exact dN_below hBB _ | exact hBB.drew)) (fun hHeld => ?_)
                try simp only [List.getElem_toArray, List.getElem_cons_zero, List.getElem_cons_succ, Act.put, List.setIfInBounds_toArray, List.set_cons_zero, List.set_cons_succ]
                refine wpAnyH_take (i := 12) (v := ?_) rfl (by kernel_rfl) (by kernel_rfl) (by kernel_rfl) (fun _ _ _ h => h) (Or.inl ⟨by rfl, ?_⟩) (by assumption) ?_
                rotate_left
                · intro w hSw
                  (try dsimp only at hSw)
                  go_simp
                  try with_reducible rfl
                try simp only [List.getElem_toArray, List.getElem_cons_zero, List.getElem_cons_succ, Act.put, List.setIfInBounds_toArray, List.set_cons_zero, List.set_cons_succ]
                refine wpAnyH_take (i := 13) (v := ?_) rfl (by kernel_rfl) (by kernel_rfl) (by kernel_rfl) (fun _ _ _ h => h) (Or.inl ⟨by rfl, ?_⟩) (by assumption) ?_
                rotate_left
                · intro w hSw
                  (try dsimp only at hSw)
                  go_simp
                  try with_reducible rfl
                try simp only [List.getElem_toArray, List.getElem_cons_zero, List.getElem_cons_succ, Act.put, List.setIfInBounds_toArray, List.set_cons_zero, List.set_cons_succ]
                refine wpAnyH_take (i := 14) (v := ?_) rfl (by kernel_rfl) (by kernel_rfl) (by kernel_rfl) (fun _ _ _ h => h) (Or.inl ⟨by rfl, ?_⟩) (by assumption) ?_
                rotate_left
                · intro w hSw
                  (try dsimp only at hSw)
                  go_simp
                  try with_reducible rfl
                try simp only [List.getElem_toArray, List.getElem_cons_zero, List.getElem_cons_succ, Act.put, List.setIfInBounds_toArray, List.set_cons_zero, List.set_cons_succ]
                refine wpAnyH_take (i := 15) (v := ?_) rfl (by kernel_rfl) (by kernel_rfl) (by kernel_rfl) (fun _ _ _ h => h) (Or.inl ⟨by rfl, ?_⟩) (by assumption) ?_
                rotate_left
                · intro w hSw
                  (try dsimp only at hSw)
                  go_simp
                  try with_reducible rfl
                try simp only [List.getElem_toArray, List.getElem_cons_zero, List.getElem_cons_succ, Act.put, List.setIfInBounds_toArray, List.set_cons_zero, List.set_cons_succ]
                refine wpAnyH_take (i := 16) (v := ?_) rfl (by kernel_rfl) (by kernel_rfl) (by kernel_rfl) (fun _ _ _ h => h) (Or.inl ⟨by rfl, ?_⟩) (by assumption) ?_
                rotate_left
                · intro w hSw
                  (try dsimp only at hSw)
                  go_simp
                  try with_reducible rfl
                try simp only [List.getElem_toArray, List.getElem_cons_zero, List.getElem_cons_succ, Act.put, List.setIfInBounds_toArray, List.set_cons_zero, List.set_cons_succ]
                refine wpAnyH_take (i := 18) (v := ?_) rfl (by kernel_rfl) (by kernel_rfl) (by kernel_rfl) (fun _ _ _ h => h) (Or.inl ⟨by rfl, ?_⟩) (by assumption) ?_
                rotate_left
                · intro w hSw
                  (try dsimp only at hSw)
                  go_simp
                  try with_reducible rfl
                try simp only [List.getElem_toArray, List.getElem_cons_zero, List.getElem_cons_succ, Act.put, List.setIfInBounds_toArray, List.set_cons_zero, List.set_cons_succ]
                refine wpAnyH_ready (rs := [17]) (by kernel_rfl) (by simp) ?_
                refine AllReadyH.cons (by simp only [List.getElem?_toArray, List.getElem?_cons_zero, List.getElem?_cons_succ]; rfl) (fun K hK => ?_) AllReadyH.nil
                go_simp
                (go_at_call 21; with_reducible refine (C5.out _ hBB).mono ?_; rintro e9 w9 ⟨rfl, hBB⟩)
                go_wp2_with fail
                refine hK.out _ _ (by first | assumption | exact SO.out _ (by first | exact hBB | exact dN_below hBB _ | exact hBB.drew)) (fun hHeld => ?_)
                try simp only [List.getElem_toArray, List.getElem_cons_zero, List.getElem_cons_succ, Act.put, List.setIfInBounds_toArray, List.set_cons_zero, List.set_cons_succ]
                refine wpAnyH_ready (rs := [19]) (by kernel_rfl) (by simp) ?_
                refine AllReadyH.cons (by simp only [List.getElem?_toArray, List.getElem?_cons_zero, List.getElem?_cons_succ]; rfl) (fun K hK => ?_) AllReadyH.nil
                go_simp
                (go_at_call 21; with_reducible refine (C6.out _ hBB).mono ?_; rintro e9 w9 ⟨rfl, hBB⟩)
                go_wp2_with fail
                refine hK.out _ _ (by first | assumption | exact SO.out _ (by first | exact hBB | exact dN_below hBB _ | exact hBB.drew)) (fun hHeld => ?_)
                try simp only [List.getElem_toArray, List.getElem_cons_zero, List.getElem_cons_succ, Act.put, List.setIfInBounds_toArray, List.set_cons_zero, List.set_cons_succ]
                refine wpAnyH_take (i := 20) (v := ?_) rfl (by kernel_rfl) (by kernel_rfl) (by kernel_rfl) (fun _ _ _ h => h) (Or.inl ⟨by rfl, ?_⟩) (by assumption) ?_
                rotate_left
                · intro w hSw
                  (try dsimp only at hSw)
                  go_simp
                  try with_reducible rfl
                try simp only [List.getElem_toArray, List.getElem_cons_zero, List.getElem_cons_succ, Act.put, List.setIfInBounds_toArray, List.set_cons_zero, List.set_cons_succ]
                refine wpAnyH_take (i := 21) (v := ?_) rfl (by kernel_rfl) (by kernel_rfl) (by kernel_rfl) (fun _ _ _ h => h) (Or.inl ⟨by rfl, ?_⟩) (by assumption) ?_
                rotate_left
                · intro w hSw
                  (try dsimp only at hSw)
                  go_simp
                  try with_reducible rfl
                try simp only [List.getElem_toArray, List.getElem_cons_zero, List.getElem_cons_succ, Act.put, List.setIfInBounds_toArray, List.set_cons_zero, List.set_cons_succ]
                refine wpAnyH_take (i := 22) (v := ?_) rfl (by kernel_rfl) (by kernel_rfl) (by kernel_rfl) (fun _ _ _ h => h) (Or.inl ⟨by rfl, ?_⟩) (by assumption) ?_
                rotate_left
                · intro w hSw
                  (try dsimp only at hSw)
                  go_simp
                  try with_reducible rfl
                try simp only [List.getElem_toArray, List.getElem_cons_zero, List.getElem_cons_succ, Act.put, List.setIfInBounds_toArray, List.set_cons_zero, List.set_cons_succ]
                refine wpAnyH_take (i := 23) (v := ?_) rfl (by kernel_rfl) (by kernel_rfl) (by kernel_rfl) (fun _ _ _ h => h) (Or.inl ⟨by rfl, ?_⟩) (by assumption) ?_
                rotate_left
                · intro w hSw
                  (try dsimp only at hSw)
                  go_simp
                  try with_reducible rfl
                try simp only [List.getElem_toArray, List.getElem_cons_zero, List.getElem_cons_succ, Act.put, List.setIfInBounds_toArray, List.set_cons_zero, List.set_cons_succ]
                refine wpAnyH_take (i := 24) (v := ?_) rfl (by kernel_rfl) (by kernel_rfl) (by kernel_rfl) (fun _ _ _ h => h) (Or.inl ⟨by rfl, ?_⟩) (by assumption) ?_
                rotate_left
                · intro w hSw
                  (try dsimp only at hSw)
                  go_simp
                  try with_reducible rfl
                try simp only [List.getElem_toArray, List.getElem_cons_zero, List.getElem_cons_succ, Act.put, List.setIfInBounds_toArray, List.set_cons_zero, List.set_cons_succ]
                refine wpAnyH_take (i := 25) (v := ?_) rfl (by kernel_rfl) (by kernel_rfl) (by kernel_rfl) (fun _ _ _ h => h) (Or.inl ⟨by rfl, ?_⟩) (by assumption) ?_
                rotate_left
                · intro w hSw
                  (try dsimp only at hSw)
                  go_simp
                  try with_reducible rfl
                try simp only [List.getElem_toArray, List.getElem_cons_zero, List.getElem_cons_succ, Act.put, List.setIfInBounds_toArray, List.set_cons_zero, List.set_cons_succ]
                refine wpAnyH_take (i := 26) (v := ?_) rfl (by kernel_rfl) (by kernel_rfl) (by kernel_rfl) (fun _ _ _ h => h) (Or.inl ⟨by rfl, ?_⟩) (by assumption) ?_
                rotate_left
                · intro w hSw
                  (try dsimp only at hSw)
                  go_simp
                  try with_reducible rfl
                try simp only [List.getElem_toArray, List.getElem_cons_zero, List.getElem_cons_succ, Act.put, List.setIfInBounds_toArray, List.set_cons_zero, List.set_cons_succ]
                refine wpAnyH_take (i := 27) (v := ?_) rfl (by kernel_rfl) (by kernel_rfl) (by kernel_rfl) (fun _ _ _ h => h) (Or.inl ⟨by rfl, ?_⟩) (by assumption) ?_
                rotate_left
                · intro w hSw
                  (try dsimp only at hSw)
                  go_simp
                  try with_reducible rfl
                try simp only [List.getElem_toArray, List.getElem_cons_zero, List.getElem_cons_succ, Act.put, List.setIfInBounds_toArray, List.set_cons_zero, List.set_cons_succ]
                refine wpAnyH_take (i := 28) (v := ?_) rfl (by kernel_rfl) (by kernel_rfl) (by kernel_rfl) (fun _ _ _ h => h) (Or.inl ⟨by rfl, ?_⟩) (by assumption) ?_
                rotate_left
                · intro w hSw
                  (try dsimp only at hSw)
                  go_simp
                  try with_reducible rfl
                try simp only [List.getElem_toArray, List.getElem_cons_zero, List.getElem_cons_succ, Act.put, List.setIfInBounds_toArray, List.set_cons_zero, List.set_cons_succ]
                refine wpAnyH_take (i := 29) (v := ?_) rfl (by kernel_rfl) (by kernel_rfl) (by kernel_rfl) (fun _ _ _ h => h) (Or.inl ⟨by rfl, ?_⟩) (by assumption) ?_
                rotate_left
                · intro w hSw
                  (try dsimp only at hSw)
                  go_simp
                  try with_reducible rfl
                try simp only [List.getElem_toArray, List.getElem_cons_zero, List.getElem_cons_succ, Act.put, List.setIfInBounds_toArray, List.set_cons_zero, List.set_cons_succ]
                refine wpAnyH_ready (rs := [30]) (by kernel_rfl) (by simp) ?_
                refine AllReadyH.cons (by simp only [List.getElem?_toArray, List.getElem?_cons_zero, List.getElem?_cons_succ]; rfl) (fun K hK => ?_) AllReadyH.nil
                go_simp
                (go_at_call 19; with_reducible refine (C3.out _ hBB).mono ?_; rintro e9 w9 ⟨rfl, hBB⟩)
                go_wp2_with fail
                refine hK.out _ _ (by first | assumption | exact SO.out _ (by first | exact hBB | exact dN_below hBB _ | exact hBB.drew)) (fun hHeld => ?_)
                try simp only [List.getElem_toArray, List.getElem_cons_zero, List.getElem_cons_succ, Act.put, List.setIfInBounds_toArray, List.set_cons_zero, List.set_cons_succ]
                refine wpAnyH_take (i := 31) (v := ?_) rfl (by kernel_rfl) (by kernel_rfl) (by kernel_rfl) (fun _ _ _ h => h) (Or.inl ⟨by rfl, ?_⟩) (by assumption) ?_
                rotate_left
                · intro w hSw
                  (try dsimp only at hSw)
                  go_simp
                  try with_reducible rfl
                try simp only [List.getElem_toArray, List.getElem_cons_zero, List.getElem_cons_succ, Act.put, List.setIfInBounds_toArray, List.set_cons_zero, List.set_cons_succ]
                refine wpAnyH_take (i := 32) (v := ?_) rfl (by kernel_rfl) (by kernel_rfl) (by kernel_rfl) (fun _ _ _ h => h) (Or.inl ⟨by rfl, ?_⟩) (by assumption) ?_
                rotate_left
                · intro w hSw
                  (try dsimp only at hSw)
                  go_simp
                  try with_reducible rfl
                try simp only [List.getElem_toArray, List.getElem_cons_zero, List.getElem_cons_succ, Act.put, List.setIfInBounds_toArray, List.set_cons_zero, List.set_cons_succ]
                refine wpAnyH_take (i := 33) (v := ?_) rfl (by kernel_rfl) (by kernel_rfl) (by kernel_rfl) (fun _ _ _ h => h) (Or.inl ⟨by rfl, ?_⟩) (by assumption) ?_
                rotate_left
                · intro w hSw
                  (try dsimp only at hSw)
                  go_simp
                  try with_reducible rfl
                try simp only [List.getElem_toArray, List.getElem_cons_zero, List.getElem_cons_succ, Act.put, List.setIfInBounds_toArray, List.set_cons_zero, List.set_cons_succ]
                refine wpAnyH_take (i := 34) (v := ?_) rfl (by kernel_rfl) (by kernel_rfl) (by kernel_rfl) (fun _ _ _ h => h) (Or.inl ⟨by rfl, ?_⟩) (by assumption) ?_
                rotate_left
                · intro w hSw
                  (try dsimp only at hSw)
                  go_simp
                  try with_reducible rfl
                try simp only [List.getElem_toArray, List.getElem_cons_zero, List.getElem_cons_succ, Act.put, List.setIfInBounds_toArray, List.set_cons_zero, List.set_cons_succ]
                refine wpAnyH_take (i := 35) (v := ?_) rfl (by kernel_rfl) (by kernel_rfl) (by kernel_rfl) (fun _ _ _ h => h) (Or.inl ⟨by rfl, ?_⟩) (by assumption) ?_
                rotate_left
                · intro w hSw
                  (try dsimp only at hSw)
                  go_simp
                  try with_reducible rfl
                try simp only [List.getElem_toArray, List.getElem_cons_zero, List.getElem_cons_succ, Act.put, List.setIfInBounds_toArray, List.set_cons_zero, List.set_cons_succ]
                refine wpAnyH_done (by kernel_rfl) ?_ _
                go_wp2_with fail
                go_ret
                exact ⟨by rfl, FF.out.trans ((show Below w8.heap.size w8 _ by first | exact hBB | exact dN_below hBB _ | exact hBB.drew).mono FF.out.size)⟩
end Go.Proofs.YtoopndgdaiblpaaDoor
