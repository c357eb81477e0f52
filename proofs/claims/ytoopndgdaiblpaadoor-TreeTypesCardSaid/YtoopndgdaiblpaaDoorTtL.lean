/- trefoillaw02.TreeTypes, walked. -/
import Derived.Test.YtoopndgdaiblpaaDoorTtP
import Derived.Test.YtoopndgdaiblpaaDoorGrt2
import Derived.Test.YtoopndgdaiblpaaDoorAlive
import Derived.Deep.RegionHeld3
import Derived.Test.YtoopndgdaiblpaaDoorLw5
namespace Go.Proofs.YtoopndgdaiblpaaDoor
open Go.ChangeShapes Go.WideShapes Go.ChangeAt Go.RowKit

set_option linter.unusedSimpArgs false in
set_option maxHeartbeats 20000000 in
set_option maxRecDepth 100000 in
theorem types_law (T : TypeId) (v : Value) (la : List Pt) (va : Value) (p more : Int) (w : World) (hg : w.cell? ⟨0, 0, none⟩ = some (.iface T v)) (hgl : 0 < w.heap.size) (ha : PV w w.heap.size va la)
    (hla : (la.length : Int) ≤ 140737488355328) (hp0 : 0 ≤ p) (hp1 : p ≤ 255) (hm0 : 0 ≤ more) (hm1 : more ≤ 65535) :
    Calls Tryd.prog 6 #[va, .int .u8 p, .int .u16 more] w fun e w' => e = .returned (.bool true) ∧ Below w.heap.size w w' := by
  have HA := Lib.hid (And.intro ha hla)
  have HG := Lib.hid hg
  clear hg ha hla
  go_enter Tryd.func6, Tryd.ntmps6
  go_wp2_with fail
  refine (alive_any T v _ HG.out hgl).mono ?_
  rintro e w1 ⟨rfl, hB1⟩
  have s1 := hB1.size
  have PA1 := Lib.hid (HA.out.1.carry hB1)
  go_wp2_with fail
  refine (great2_any w.heap.size la va w1 s1 HA.out.2 PA1.out).mono ?_
  rintro e w2 ⟨g1, rfl, hg1, hB2⟩
  have s2 := hB2.size
  have W02 : Below w.heap.size w w2 := hB1.trans (hB2.mono s1)
  cases g1 with
  | true =>
    go_wp2_with fail
    go_ret
    exact ⟨rfl, W02⟩
  | false =>
    have HL := Lib.hid (hg1 rfl)
    clear hg1
    have PA2 := Lib.hid (PA1.out.carry' hB2 s1)
    have CO := Lib.hid (of_any w.heap.size 2000 la va w2 (by omega) (by have := HL.out.1; omega) (by have := HL.out.1; omega) PA2.out)
    go_wp2_with fail
    refine CO.out.mono ?_
    rintro e w4 ⟨c0, c1, c2, c3, c4, c5, c6, rest, rfl, hxe, hpe, hB4⟩
    have HXE0 := Lib.hid hxe
    obtain ⟨k2, t2, n2, names, types, args, mems, x3, e3, x4, l4, e4, x5, l5, e5, x6, e6, ga, oa, gm, om, hta, rfl, rfl, rfl, rfl, rfl, rfl, rfl, ha1, ha2, ha3, hm1, hm2, hm3⟩ := hxe.open_
    clear hxe hpe CO ha1 ha2 ha3 hm1 hm2 hm3
    obtain ⟨na, hna⟩ : ∃ n, args.length = n := ⟨_, rfl⟩
    obtain ⟨nm, hnm⟩ : ∃ n, mems.length = n := ⟨_, rfl⟩
    obtain ⟨ta, hte⟩ : ∃ t, (ofL 2000 la).1 = t := ⟨_, rfl⟩
    have fta : Fair ta := by rw [← hte]; exact (ofL_fair 2000 la HL.out.2).1
    have zta : ndSize ta ≤ 400000 := by have := (ofL_fine 2000 la).2; have := HL.out.1; rw [← hte]; omega
    have xta : isEx ta = true := by rw [← hte]; exact ofL_ex _ _
    have HXE := HXE0.out
    rw [hte] at HXE
    rw [hna, hnm] at HXE
    rw [hna, hnm]
    have HT := Lib.hid (And.intro fta (And.intro zta xta))
    have s4 := hB4.size
    have W04 : Below w.heap.size w w4 := W02.trans (hB4.mono (by omega))
    clear hta fta zta xta hna hnm hte HXE0
    have HXE1 := Lib.hid HXE
    clear HXE
    have CT := Lib.hid (typ_any p (w4.alloc (.cells #[.int .i64 k2, .string t2, .int .i64 n2, .slice x3 na e3, .slice x4 l4 e4, .slice x5 l5 e5, .slice x6 nm e6] 33)) hp0 hp1)
    go_wp2_with fail
    refine CT.out.mono ?_
    rintro e w6 ⟨u0, u1, u2, u3, u4, rfl, htx, hB6⟩
    have s6 := hB6.size
    simp only [World.size_alloc] at s6
    obtain ⟨kx, sx, ax, lx, nax, cax, nlx, clx, ox, rfl, rfl, rfl, rfl, rfl⟩ := htx.shapes5
    have HTX := Lib.hid htx
    clear htx CT
    go_wp2_with fail
    obtain ⟨W9, hW9⟩ : ∃ W9, w6.alloc (.cells #[.int .i64 kx, .string sx, .slice ax nax cax, .slice lx nlx clx, .bool ox] 37) = W9 := ⟨_, rfl⟩
    rw [hW9]
    have s9 : W9.heap.size = w6.heap.size + 1 := by rw [← hW9]; simp
    have X9 : W9.heap[w6.heap.size]? = some (.cells #[.int .i64 kx, .string sx, .slice ax nax cax, .slice lx nlx clx, .bool ox] 37) := by rw [← hW9]; exact heap_last rfl
    have B69 : Below w6.heap.size w6 W9 := by rw [← hW9]; exact (Below.refl _ _).alloc (Nat.le_refl _) _
    have E9 : W9.heap[w4.heap.size]? = some (.cells #[.int .i64 k2, .string t2, .int .i64 n2, .slice x3 na e3, .slice x4 l4 e4, .slice x5 l5 e5, .slice x6 nm e6] 33) := by rw [B69.block _ (by omega), hB6.block _ (by simp)]; exact heap_last rfl
    have K9 : ∀ b, b < w4.heap.size → W9.heap[b]? = w4.heap[b]? := fun b hb => by rw [B69.block _ (by omega), hB6.block _ (by simp; omega)]; exact heap_old hb
    have B09 : Below w.heap.size w W9 := ((W04.alloc (by omega) _).trans (hB6.mono (by simp; omega))).trans (B69.mono (by omega))
    have HTX9 : TyV W9 (fun b => b < W9.heap.size ∧ b ≠ w6.heap.size) [.int .i64 kx, .string sx, .slice ax nax cax, .slice lx nlx clx, .bool ox] (typeOf p) := HTX.out.carry (fun b hb => B69.block b hb.2) (fun b hb => by omega)
    obtain ⟨M, hM⟩ : ∃ M : Nat, more % 300 = (M : Int) := ⟨(more % 300).toNat, by omega⟩
    have hM3 : M < 300 := by omega
    rw [hM]
    have H9 := Lib.hid (And.intro X9 (And.intro E9 (And.intro HTX9 (And.intro K9 (And.intro B09 hM)))))
    clear hW9 X9 E9 HTX9 B69 hM hm0 hm1 K9 B09
    go_loopg [28] M (fun gk i wr => ∃ (j : Nat) (X : Ty) (kz : Int) (sz : ByteArray) (az lz : Option Addr) (nz cz mz dz : Nat) (oz : Bool), gk = M - j ∧ j ≤ M ∧ i = .int .u16 j ∧ wr.heap[w6.heap.size]? = some (.cells #[.int .i64 kz, .string sz, .slice az nz cz, .slice lz mz dz, .bool oz] 37) ∧ TyV wr (fun b => b < wr.heap.size ∧ b ≠ w6.heap.size) [.int .i64 kz, .string sz, .slice az nz cz, .slice lz mz dz, .bool oz] X ∧ KT X ∧ tySize X ≤ 3 + j ∧ Below w6.heap.size W9 wr)
    case atStart => exact ⟨0, typeOf p, kx, sx, ax, lx, nax, cax, nlx, clx, ox, rfl, Nat.zero_le _, rfl, H9.out.1, H9.out.2.2.1, kt_typeOf p, typeOf_small p, Below.refl _ _⟩
    case round =>
      obtain ⟨j, X, kz, sz, az, lz, nz, cz, mz, dz, oz, rfl, hj, rfl, hbz, hX, hkx, hsx, hB⟩ := hrel
      have hbs := hB.size
      have HZ := Lib.hid (And.intro hbz (And.intro hX (And.intro hkx hsx)))
      have b0 := Lib.cell_of_heap hbz 0
      have b1 := Lib.cell_of_heap hbz 1
      have b2 := Lib.cell_of_heap hbz 2
      have b3 := Lib.cell_of_heap hbz 3
      have b4 := Lib.cell_of_heap hbz 4
      simp only [List.getElem?_toArray, List.getElem?_cons_zero, List.getElem?_cons_succ] at b0 b1 b2 b3 b4
      by_cases hlt : j < M
      · have hi' : (j : Int) < (M : Int) := by omega
        have hz1 : w6.heap.size < wr.heap.size := by omega
        have f0 := Lib.frozen_of_heap hbz 0
        have f1 := Lib.frozen_of_heap hbz 1
        have f2 := Lib.frozen_of_heap hbz 2
        have f3 := Lib.frozen_of_heap hbz 3
        have f4 := Lib.frozen_of_heap hbz 4
        clear hbz hX hkx hsx
        go_wp2_with fail
        go_roundg (M - (j + 1))
        case measure => omega
        case rel =>
          obtain ⟨hbz, hX, hkx, hsx⟩ := HZ.out
          have h5 := five_set5 wr w6.heap.size _ _ _ _ _ _ (.int .i64 4) (.string ⟨#[97]⟩) (.slice (some ⟨wr.heap.size, 0, none⟩) 1 1) (.slice none 0 0) (.bool false) hbz
          have o5 := fun c (hc : c ≠ w6.heap.size) => five_other5 wr w6.heap.size c (.int .i64 4) (.string ⟨#[97]⟩) (.slice (some ⟨wr.heap.size, 0, none⟩) 1 1) (.slice none 0 0) (.bool false) hc
          have z5 : (((((wr.setCell ⟨w6.heap.size, 0, none⟩ (.int .i64 4)).setCell ⟨w6.heap.size, 1, none⟩ (.string ⟨#[97]⟩)).setCell ⟨w6.heap.size, 2, none⟩ (.slice (some ⟨wr.heap.size, 0, none⟩) 1 1)).setCell ⟨w6.heap.size, 3, none⟩ (.slice none 0 0)).setCell ⟨w6.heap.size, 4, none⟩ (.bool false)).heap.size = wr.heap.size := by simp
          have B5 : Below w6.heap.size W9 (((((wr.setCell ⟨w6.heap.size, 0, none⟩ (.int .i64 4)).setCell ⟨w6.heap.size, 1, none⟩ (.string ⟨#[97]⟩)).setCell ⟨w6.heap.size, 2, none⟩ (.slice (some ⟨wr.heap.size, 0, none⟩) 1 1)).setCell ⟨w6.heap.size, 3, none⟩ (.slice none 0 0)).setCell ⟨w6.heap.size, 4, none⟩ (.bool false)) := ((((hB.setCell (p := ⟨w6.heap.size, 0, none⟩) (by simp) _).setCell (p := ⟨w6.heap.size, 1, none⟩) (by simp) _).setCell (p := ⟨w6.heap.size, 2, none⟩) (by simp) _).setCell (p := ⟨w6.heap.size, 3, none⟩) (by simp) _).setCell (p := ⟨w6.heap.size, 4, none⟩) (by simp) _
          generalize (((((wr.setCell ⟨w6.heap.size, 0, none⟩ (.int .i64 4)).setCell ⟨w6.heap.size, 1, none⟩ (.string ⟨#[97]⟩)).setCell ⟨w6.heap.size, 2, none⟩ (.slice (some ⟨wr.heap.size, 0, none⟩) 1 1)).setCell ⟨w6.heap.size, 3, none⟩ (.slice none 0 0)).setCell ⟨w6.heap.size, 4, none⟩ (.bool false)) = W5 at h5 o5 z5 B5 ⊢
          refine ⟨j + 1, wrapS X, 4, ⟨#[97]⟩, some ⟨wr.heap.size, 0, none⟩, none, 1, 1, 0, 0, false, rfl, hlt, by first | rfl | simp, ?_, ?_, kt_wrapS hkx, by rw [size_wrapS]; omega, B5.alloc (by omega) _⟩
          · rw [heap_old (by omega)]; exact h5
          · refine ⟨4, ⟨#[97]⟩, _, _, false, [X], [], wr.heap.size, 0, 0, 0, rfl, rfl, .inr ⟨1, rfl, by simp, by decide, ⟨by simp; omega, by omega⟩⟩, .inl ⟨rfl, rfl⟩, fun i hi => ?_, fun i hi => absurd hi (Nat.not_lt_zero _)⟩
            match i, hi with
            | 0, _ =>
              refine (hX.carry (fun b hb => ?_) (fun b hb => ⟨by simp; omega, hb.2⟩)).at_ ⟨by simp; omega, by omega⟩ (fun q u hq => ?_)
              · rw [heap_old (by omega)]
                exact o5 b hb.2
              · have hh : (W5.alloc (.cells #[.int .i64 kz, .string sz, .slice az nz cz, .slice lz mz dz, .bool oz] 37)).heap[wr.heap.size]? = _ := heap_last (by omega)
                rw [Lib.cell_of_heap hh, Nat.zero_mul, Nat.zero_add]
                simpa using hq
      · have hi' : ¬ (j : Int) < (M : Int) := by omega
        obtain rfl : M = j := by omega
        clear b0 b1 b2 b3 b4 HZ
        have hwr : Below w.heap.size w wr := H9.out.2.2.2.2.1.trans (hB.mono (by omega))
        have ER : wr.heap[w4.heap.size]? = some (.cells #[.int .i64 k2, .string t2, .int .i64 n2, .slice x3 na e3, .slice x4 l4 e4, .slice x5 l5 e5, .slice x6 nm e6] 33) := (hB.block _ (by omega)).trans H9.out.2.1
        have K4 : ∀ b, b < w4.heap.size → wr.heap[b]? = w4.heap[b]? := fun b hb => (hB.block b (by omega)).trans (H9.out.2.2.2.1 b hb)
        have XE : Hid (∀ V, Below wr.heap.size wr V → ExV V (fun b => b < wr.heap.size) [.int .i64 k2, .string t2, .int .i64 n2, .slice x3 na e3, .slice x4 l4 e4, .slice x5 l5 e5, .slice x6 nm e6] ta) := Lib.hid fun V hV => by
          exact HXE1.out.carry (fun b hb => (hV.block b (by omega)).trans (K4 b hb.2)) (fun b hb => by have := hb.2; omega)
        have XX : Hid (∀ V, Below wr.heap.size wr V → TyV V (fun b => b < wr.heap.size) [.int .i64 kz, .string sz, .slice az nz cz, .slice lz mz dz, .bool oz] X) := Lib.hid fun V hV => by
          exact hX.carry (fun b hb => hV.block b hb.1) (fun b hb => hb.1)
        have XG : Hid (∀ V, Below wr.heap.size wr V → ErrAt T v V) := Lib.hid fun V hV => by
          have h9 := hwr.trans (hV.mono hwr.size)
          exact ⟨(h9.cell (p := ⟨_, 0, none⟩) hgl).trans HG.out, by have := h9.size; omega⟩
        have XB : Hid (∀ V, Below wr.heap.size wr V → V.heap[w4.heap.size]? = some (.cells #[.int .i64 k2, .string t2, .int .i64 n2, .slice x3 na e3, .slice x4 l4 e4, .slice x5 l5 e5, .slice x6 nm e6] 33) ∧ V.heap[w6.heap.size]? = some (.cells #[.int .i64 kz, .string sz, .slice az nz cz, .slice lz mz dz, .bool oz] 37)) := Lib.hid fun V hV => ⟨(hV.block _ (by omega)).trans ER, (hV.block _ (by omega)).trans hbz⟩
        have HS := Lib.hid (And.intro hkx (show tySize X ≤ 900000 by omega))
        have F0 := Lib.hid hwr
        clear hwr ER K4 hX hkx hsx hbz
        have HBX := (XB.out wr (Below.refl _ _)).1
        have b0 : wr.cell? ⟨w4.heap.size, 0, none⟩ = some (.int .i64 k2) := by rw [Lib.cell_of_heap HBX]; rfl
        have b1 : wr.cell? ⟨w4.heap.size, 1, none⟩ = some (.string t2) := by rw [Lib.cell_of_heap HBX]; rfl
        have b2 : wr.cell? ⟨w4.heap.size, 2, none⟩ = some (.int .i64 n2) := by rw [Lib.cell_of_heap HBX]; rfl
        have b3 : wr.cell? ⟨w4.heap.size, 3, none⟩ = some (.slice x3 na e3) := by rw [Lib.cell_of_heap HBX]; rfl
        have b4 : wr.cell? ⟨w4.heap.size, 4, none⟩ = some (.slice x4 l4 e4) := by rw [Lib.cell_of_heap HBX]; rfl
        have b5 : wr.cell? ⟨w4.heap.size, 5, none⟩ = some (.slice x5 l5 e5) := by rw [Lib.cell_of_heap HBX]; rfl
        have b6 : wr.cell? ⟨w4.heap.size, 6, none⟩ = some (.slice x6 nm e6) := by rw [Lib.cell_of_heap HBX]; rfl
        clear HBX
        have HBX := (XB.out wr (Below.refl _ _)).2
        have c0 : wr.cell? ⟨w6.heap.size, 0, none⟩ = some (.int .i64 kz) := by rw [Lib.cell_of_heap HBX]; rfl
        have c1 : wr.cell? ⟨w6.heap.size, 1, none⟩ = some (.string sz) := by rw [Lib.cell_of_heap HBX]; rfl
        have c2 : wr.cell? ⟨w6.heap.size, 2, none⟩ = some (.slice az nz cz) := by rw [Lib.cell_of_heap HBX]; rfl
        have c3 : wr.cell? ⟨w6.heap.size, 3, none⟩ = some (.slice lz mz dz) := by rw [Lib.cell_of_heap HBX]; rfl
        have c4 : wr.cell? ⟨w6.heap.size, 4, none⟩ = some (.bool oz) := by rw [Lib.cell_of_heap HBX]; rfl
        clear HBX
        have hz1 : w6.heap.size < wr.heap.size := by omega
        have hz2 : w4.heap.size < wr.heap.size := by omega
        go_wp2_with fail
        obtain ⟨W7, hW7⟩ : ∃ W7, (wr.alloc (.cells #[.int .i64 k2, .string t2, .int .i64 n2, .slice x3 na e3, .slice x4 l4 e4, .slice x5 l5 e5, .slice x6 nm e6] 33)).alloc (.cells #[.int .i64 kz, .string sz, .slice az nz cz, .slice lz mz dz, .bool oz] 37) = W7 := ⟨_, rfl⟩
        rw [hW7]
        clear b0 b1 b2 b3 b4 b5 b6 c0 c1 c2 c3 c4
        have t7 : W7.heap.size = wr.heap.size + 2 := by rw [← hW7]; simp
        have F7 : Below wr.heap.size wr W7 := by rw [← hW7]; exact ((Below.refl _ _).alloc (Nat.le_refl _) _).alloc (by simp) _
        have X7 : W7.heap[wr.heap.size]? = some (.cells #[.int .i64 k2, .string t2, .int .i64 n2, .slice x3 na e3, .slice x4 l4 e4, .slice x5 l5 e5, .slice x6 nm e6] 33) := by rw [← hW7, heap_old (by simp)]; exact heap_last rfl
        have Y7 : W7.heap[wr.heap.size + 1]? = some (.cells #[.int .i64 kz, .string sz, .slice az nz cz, .slice lz mz dz, .bool oz] 37) := by rw [← hW7]; exact heap_last (by simp)
        have XN : ExV W7 (fun b => b < W7.heap.size) [.int .i64 19, .string ⟨#[]⟩, .int .i64 0, .slice (some ⟨wr.heap.size, 0, none⟩) 1 1, .slice none 0 0, .slice (some ⟨wr.heap.size + 1, 0, none⟩) 1 1, .slice none 0 0] (annotN ta X) := by
          refine annot_ExV (c := [.int .i64 k2, .string t2, .int .i64 n2, .slice x3 na e3, .slice x4 l4 e4, .slice x5 l5 e5, .slice x6 nm e6]) (d := [.int .i64 kz, .string sz, .slice az nz cz, .slice lz mz dz, .bool oz]) ((XE.out W7 F7).carry (fun _ _ => rfl) (fun b hb => by omega)) ((XX.out W7 F7).carry (fun _ _ => rfl) (fun b hb => by omega)) (by omega) (by omega) HT.out.2.2 (fun i u hi => ?_) (fun i u hi => ?_)
          · rw [Lib.cell_of_heap X7]; simpa using hi
          · rw [Lib.cell_of_heap Y7]; simpa using hi
        have zN : ndSize (annotN ta X) ≤ 900000 := by rw [annot_size]; have := HT.out.2.1; omega
        have CN := Lib.hid (check_v (fun b => b < W7.heap.size) _ _ _ _ _ _ _ W7 (annotN ta X) T v (XG.out _ F7).1 (XG.out _ F7).2 zN (fair_annot HT.out.1 HS.out.1 HS.out.2) (fun _ h => h) XN)
        have HF7 := Lib.hid F7
        clear hW7 X7 Y7 XN zN F7
        refine CN.out.mono ?_
        rintro e w8 ⟨rfl, hB8⟩
        have s8 := hB8.size
        have HF8 := Lib.hid (HF7.out.trans (hB8.mono (by omega)))
        clear hB8
        have XD := Lib.hid (And.intro (annot_ways HT.out.1 X) True.intro)
        have CE : Hid (∀ V, Below w8.heap.size w8 V → Calls Tryd.prog 18 #[.agg #[.int .i64 k2, .string t2, .int .i64 n2, .slice x3 na e3, .slice x4 l4 e4, .slice x5 l5 e5, .slice x6 nm e6]] V fun e w' => e = .returned (.int .i64 (errE ta)) ∧ Below w8.heap.size w8 w') := Lib.hid fun V hV => by
          have hV9 := HF8.out.trans (hV.mono (by omega))
          have hs := hV9.size
          refine (check_v (fun b => b < wr.heap.size) _ _ _ _ _ _ _ V ta T v (XG.out V hV9).1 (XG.out V hV9).2 (by have := HT.out.2.1; omega) HT.out.1 (fun b h => by omega) (XE.out V hV9)).mono ?_
          rintro e w' ⟨rfl, hB⟩
          exact ⟨rfl, hV.trans (hB.mono hV.size)⟩
        have CY : Hid (∀ V, Below w8.heap.size w8 V → Calls Tryd.prog 16 #[.agg #[.int .i64 kz, .string sz, .slice az nz cz, .slice lz mz dz, .bool oz]] V fun e w' => e = .returned (.int .i64 (errT X)) ∧ Below w8.heap.size w8 w') := Lib.hid fun V hV => by
          have hV9 := HF8.out.trans (hV.mono (by omega))
          have hs := hV9.size
          refine (checkType_v T v (fun b => b < wr.heap.size) _ _ _ _ _ V X (XG.out V hV9) HS.out.2 HS.out.1 (fun b h => by omega) (XX.out V hV9)).mono ?_
          rintro e w' ⟨rfl, hB⟩
          exact ⟨rfl, hV.trans (hB.mono hV.size)⟩
        have SO : Hid (∀ V, Below w8.heap.size w8 V → V.cell? ⟨w4.heap.size, 0, none⟩ = some (.int .i64 k2) ∧ V.cell? ⟨w4.heap.size, 1, none⟩ = some (.string t2) ∧ V.cell? ⟨w4.heap.size, 2, none⟩ = some (.int .i64 n2) ∧ V.cell? ⟨w4.heap.size, 3, none⟩ = some (.slice x3 na e3) ∧ V.cell? ⟨w4.heap.size, 4, none⟩ = some (.slice x4 l4 e4) ∧ V.cell? ⟨w4.heap.size, 5, none⟩ = some (.slice x5 l5 e5) ∧ V.cell? ⟨w4.heap.size, 6, none⟩ = some (.slice x6 nm e6) ∧ V.cell? ⟨w6.heap.size, 0, none⟩ = some (.int .i64 kz) ∧ V.cell? ⟨w6.heap.size, 1, none⟩ = some (.string sz) ∧ V.cell? ⟨w6.heap.size, 2, none⟩ = some (.slice az nz cz) ∧ V.cell? ⟨w6.heap.size, 3, none⟩ = some (.slice lz mz dz) ∧ V.cell? ⟨w6.heap.size, 4, none⟩ = some (.bool oz)) := Lib.hid fun V hV => by
          obtain ⟨a1, a2⟩ := XB.out V (HF8.out.trans (hV.mono (by omega)))
          refine ⟨?_, ?_, ?_, ?_, ?_, ?_, ?_, ?_, ?_, ?_, ?_, ?_⟩ <;> first | (rw [Lib.cell_of_heap a1]; rfl) | (rw [Lib.cell_of_heap a2]; rfl)
        obtain ⟨ea, hea⟩ : ∃ x, errE (annotN ta X) = x := ⟨_, rfl⟩
        obtain ⟨ex, hex⟩ : ∃ x, errE ta = x := ⟨_, rfl⟩
        obtain ⟨ey, hey⟩ : ∃ x, errT X = x := ⟨_, rfl⟩
        rw [hea]
        rw [hex] at CE
        rw [hey] at CY
        have HE := Lib.hid (And.intro hea (And.intro hex hey))
        clear hea hex hey
        have hBB : Below w8.heap.size w8 w8.drew := (Below.refl _ _).drew
        go_wp2_with fail
        refine wp_region_held_drew (S := fun V => V.cell? ⟨w4.heap.size, 0, none⟩ = some (.int .i64 k2) ∧ V.cell? ⟨w4.heap.size, 1, none⟩ = some (.string t2) ∧ V.cell? ⟨w4.heap.size, 2, none⟩ = some (.int .i64 n2) ∧ V.cell? ⟨w4.heap.size, 3, none⟩ = some (.slice x3 na e3) ∧ V.cell? ⟨w4.heap.size, 4, none⟩ = some (.slice x4 l4 e4) ∧ V.cell? ⟨w4.heap.size, 5, none⟩ = some (.slice x5 l5 e5) ∧ V.cell? ⟨w4.heap.size, 6, none⟩ = some (.slice x6 nm e6) ∧ V.cell? ⟨w6.heap.size, 0, none⟩ = some (.int .i64 kz) ∧ V.cell? ⟨w6.heap.size, 1, none⟩ = some (.string sz) ∧ V.cell? ⟨w6.heap.size, 2, none⟩ = some (.slice az nz cz) ∧ V.cell? ⟨w6.heap.size, 3, none⟩ = some (.slice lz mz dz) ∧ V.cell? ⟨w6.heap.size, 4, none⟩ = some (.bool oz)) (by kernel_rfl) (SO.out _ hBB) (fun hHeld => ?_)
        refine wpAnyH_take (i := 0) (v := ?_) rfl (by kernel_rfl) (by kernel_rfl) (by kernel_rfl) (fun _ _ _ h => h) (Or.inl ⟨by rfl, ?_⟩) (by assumption) ?_
        rotate_left
        · intro w hSw
          (try dsimp only at hSw)
          go_simp
          try with_reducible rfl
        try simp only [List.getElem_toArray, List.getElem_cons_zero, List.getElem_cons_succ, Act.put, List.setIfInBounds_toArray, List.set_cons_zero, List.set_cons_succ]
        refine wpAnyH_take (i := 2) (v := ?_) rfl (by kernel_rfl) (by kernel_rfl) (by kernel_rfl) (fun _ _ _ h => h) (Or.inl ⟨by rfl, ?_⟩) (by assumption) ?_
        rotate_left
        · intro w hSw
          (try dsimp only at hSw)
          go_simp
          try with_reducible rfl
        try simp only [List.getElem_toArray, List.getElem_cons_zero, List.getElem_cons_succ, Act.put, List.setIfInBounds_toArray, List.set_cons_zero, List.set_cons_succ]
        refine wpAnyH_ready (rs := [1]) (by kernel_rfl) (by simp) ?_
        refine AllReadyH.cons (by simp only [List.getElem?_toArray, List.getElem?_cons_zero, List.getElem?_cons_succ]; rfl) (fun K hK => ?_) AllReadyH.nil
        go_simp
        (go_at_call 18; with_reducible refine (CE.out _ hBB).mono ?_; rintro e9 w9 ⟨rfl, hBB⟩)
        go_wp2_with fail
        refine hK.out _ _ (by first | assumption | exact SO.out _ (by first | exact hBB | exact dN_below hBB _ | exact hBB.drew)) (fun hHeld => ?_)
        try simp only [List.getElem_toArray, List.getElem_cons_zero, List.getElem_cons_succ, Act.put, List.setIfInBounds_toArray, List.set_cons_zero, List.set_cons_succ]
        refine wpAnyH_ready (rs := [3]) (by kernel_rfl) (by simp) ?_
        refine AllReadyH.cons (by simp only [List.getElem?_toArray, List.getElem?_cons_zero, List.getElem?_cons_succ]; rfl) (fun K hK => ?_) AllReadyH.nil
        go_simp
        (go_at_call 16; with_reducible refine (CY.out _ hBB).mono ?_; rintro e9 w9 ⟨rfl, hBB⟩)
        go_wp2_with fail
        refine hK.out _ _ (by first | assumption | exact SO.out _ (by first | exact hBB | exact dN_below hBB _ | exact hBB.drew)) (fun hHeld => ?_)
        try simp only [List.getElem_toArray, List.getElem_cons_zero, List.getElem_cons_succ, Act.put, List.setIfInBounds_toArray, List.set_cons_zero, List.set_cons_succ]
        refine wpAnyH_take (i := 4) (v := ?_) rfl (by kernel_rfl) (by kernel_rfl) (by kernel_rfl) (fun _ _ _ h => h) (Or.inl ⟨by rfl, ?_⟩) (by assumption) ?_
        rotate_left
        · intro w hSw
          (try dsimp only at hSw)
          go_simp
          try with_reducible rfl
        try simp only [List.getElem_toArray, List.getElem_cons_zero, List.getElem_cons_succ, Act.put, List.setIfInBounds_toArray, List.set_cons_zero, List.set_cons_succ]
        refine wpAnyH_take (i := 5) (v := ?_) rfl (by kernel_rfl) (by kernel_rfl) (by kernel_rfl) (fun _ _ _ h => h) (Or.inl ⟨by rfl, ?_⟩) (by assumption) ?_
        rotate_left
        · intro w hSw
          (try dsimp only at hSw)
          go_simp
          try with_reducible rfl
        try simp only [List.getElem_toArray, List.getElem_cons_zero, List.getElem_cons_succ, Act.put, List.setIfInBounds_toArray, List.set_cons_zero, List.set_cons_succ]
        refine wpAnyH_done (by kernel_rfl) ?_ _
        have HB9 := Lib.hid (show Below w8.heap.size w8 _ by first | exact hBB | exact dN_below hBB _)
        clear hBB CN
        have HV := Lib.hid (HF8.out.trans (HB9.out.mono (by omega)))
        have sv := HV.out.size
        have HBX := (XB.out _ HV.out).1
        have b0 : w9.cell? ⟨w4.heap.size, 0, none⟩ = some (.int .i64 k2) := by rw [Lib.cell_of_heap HBX]; rfl
        have b1 : w9.cell? ⟨w4.heap.size, 1, none⟩ = some (.string t2) := by rw [Lib.cell_of_heap HBX]; rfl
        have b2 : w9.cell? ⟨w4.heap.size, 2, none⟩ = some (.int .i64 n2) := by rw [Lib.cell_of_heap HBX]; rfl
        have b3 : w9.cell? ⟨w4.heap.size, 3, none⟩ = some (.slice x3 na e3) := by rw [Lib.cell_of_heap HBX]; rfl
        have b4 : w9.cell? ⟨w4.heap.size, 4, none⟩ = some (.slice x4 l4 e4) := by rw [Lib.cell_of_heap HBX]; rfl
        have b5 : w9.cell? ⟨w4.heap.size, 5, none⟩ = some (.slice x5 l5 e5) := by rw [Lib.cell_of_heap HBX]; rfl
        have b6 : w9.cell? ⟨w4.heap.size, 6, none⟩ = some (.slice x6 nm e6) := by rw [Lib.cell_of_heap HBX]; rfl
        clear HBX
        have HBX := (XB.out _ HV.out).2
        have c0 : w9.cell? ⟨w6.heap.size, 0, none⟩ = some (.int .i64 kz) := by rw [Lib.cell_of_heap HBX]; rfl
        have c1 : w9.cell? ⟨w6.heap.size, 1, none⟩ = some (.string sz) := by rw [Lib.cell_of_heap HBX]; rfl
        have c2 : w9.cell? ⟨w6.heap.size, 2, none⟩ = some (.slice az nz cz) := by rw [Lib.cell_of_heap HBX]; rfl
        have c3 : w9.cell? ⟨w6.heap.size, 3, none⟩ = some (.slice lz mz dz) := by rw [Lib.cell_of_heap HBX]; rfl
        have c4 : w9.cell? ⟨w6.heap.size, 4, none⟩ = some (.bool oz) := by rw [Lib.cell_of_heap HBX]; rfl
        clear HBX
        have ways := XD.out.1
        rw [HE.out.1, HE.out.2.1, HE.out.2.2] at ways
        obtain ⟨dd, hdd⟩ : ∃ d, ndDeep ta = d := ⟨_, rfl⟩
        rw [hdd] at ways
        obtain ⟨tga, toa, hk1, hk2, hk3⟩ := (XX.out _ HV.out).kids
        have HK := Lib.hid (And.intro hk1 (And.intro hk2 hk3))
        have CD : Hid (Calls Tryd.prog 19 #[.agg #[.int .i64 k2, .string t2, .int .i64 n2, .slice x3 na e3, .slice x4 l4 e4, .slice x5 l5 e5, .slice x6 nm e6]] w9 fun e w' => e = .returned (.int .i64 dd) ∧ Below w9.heap.size w9 w') := Lib.hid (by
          refine (deep_v (fun b => b < wr.heap.size) _ _ _ _ _ _ _ w9 ta (by have := HT.out.2.1; omega) (fun b h => by omega) (XE.out _ HV.out)).mono ?_
          rintro e w' ⟨rfl, hB⟩
          exact ⟨by rw [hdd], hB⟩)
        clear hdd hk1 hk2 hk3 hHeld XD CE CY SO HB9
        have hz1 : w6.heap.size < w9.heap.size := by omega
        have hz2 : w4.heap.size < w9.heap.size := by omega
        unfold Ways3 at ways
        rcases ways with ⟨rfl, rfl, rfl⟩ | ⟨rfl, rfl, rfl⟩ | ⟨rfl, rfl, rfl⟩ | ⟨rfl, rfl, rfl⟩ | ⟨rfl, rfl, rfl⟩ | ⟨rfl, rfl, rfl⟩ | ⟨rfl, rfl, rfl, hdd⟩ | ⟨rfl, rfl, rfl⟩ | ⟨rfl, rfl, rfl⟩ | ⟨rfl, rfl, rfl⟩
        · have HV2 := HV
          clear b0 b1 b2 b3 b4 b5 b6
          go_wp2_with fail
          clear c0 c1 c2 c3 c4
          go_loopg [86] nz (fun gk i wq => ∃ j : Nat, gk = nz - j ∧ j ≤ nz ∧ i = .int .i64 j ∧ Below wr.heap.size wr wq)
          case atStart => exact ⟨0, rfl, Nat.zero_le _, rfl, HV2.out⟩
          case round =>
            obtain ⟨j5, rfl, hj5, rfl, hBq⟩ := hrel
            have sq := hBq.size
            have FQ := Lib.hid hBq
            clear hBq
            by_cases hlt5 : j5 < nz
            · have hi5 : (j5 : Int) < (nz : Int) := by omega
              have hjl : j5 < (tyArgs X).length := by have := HK.out.1; omega
              obtain ⟨rfl, hca, hcm, hga⟩ := HK.out.2.1 (by omega)
              unfold maxLen at hcm
              obtain ⟨k1, s1, xa1, xl1, na1, ca1, nl1, cl1, o1, sb, c0, c1, c2, c3, c4, hv1⟩ := ((HK.out.2.2 j5 hjl).carry (W' := wr) (fun b hb => (FQ.out.block b hb).trans (HV.out.block b hb).symm) (fun _ h => h)).open_
              have hgw : tga < wr.heap.size := by omega
              have hmem : (tyArgs X)[j5] ∈ tyArgs X := List.getElem_mem hjl
              have HV1 := Lib.hid (And.intro hv1 (And.intro hmem sb))
              clear hv1 sb hmem
              have CT : Hid (∀ V, Below wr.heap.size wr V → Calls Tryd.prog 16 #[.agg #[.int .i64 k1, .string s1, .slice xa1 na1 ca1, .slice xl1 nl1 cl1, .bool o1]] V fun e w' => e = .returned (.int .i64 0) ∧ Below V.heap.size V w') := Lib.hid fun V hV => by
                have hs := hV.size
                refine (checkType_v T v _ _ _ _ _ _ V _ (XG.out V (FQ.out.trans (hV.mono (by omega)))) (by have h1 := size_kid HV1.out.2.1; have h2 := HS.out.2; omega) (kt_kid HS.out.1 HV1.out.2.1) (fun b h => by omega) (HV1.out.1.carry (fun b hb => hV.block b (by omega)) (fun _ h => h))).mono ?_
                rintro e w' ⟨rfl, hB⟩
                exact ⟨by rw [errT_kid HE.out.2.2 HV1.out.2.1], hB⟩
              go_wp2_with fail
              refine (CT.out _ (by first | exact (Below.refl _ _).alloc (Nat.le_refl _) _ | exact ((Below.refl _ _).alloc (Nat.le_refl _) _).drew)).mono ?_
              rintro e w11 ⟨rfl, hB11⟩
              go_wp2_with fail
              go_roundg (nz - (j5 + 1))
              case measure => omega
              case rel => exact ⟨j5 + 1, rfl, hlt5, by first | rfl | simp, (FQ.out.alloc (by omega) _).trans (hB11.mono (by simp; omega))⟩
            · have hi5 : ¬ (j5 : Int) < (nz : Int) := by omega
              go_wp2_with fail
              go_ret
              exact ⟨rfl, F0.out.trans (FQ.out.mono F0.out.size)⟩
        · have HV2 := HV
          clear b0 b1 b2 b3 b4 b5 b6
          go_wp2_with fail
          clear c0 c1 c2 c3 c4
          go_loopg [86] nz (fun gk i wq => ∃ j : Nat, gk = nz - j ∧ j ≤ nz ∧ i = .int .i64 j ∧ Below wr.heap.size wr wq)
          case atStart => exact ⟨0, rfl, Nat.zero_le _, rfl, HV2.out⟩
          case round =>
            obtain ⟨j5, rfl, hj5, rfl, hBq⟩ := hrel
            have sq := hBq.size
            have FQ := Lib.hid hBq
            clear hBq
            by_cases hlt5 : j5 < nz
            · have hi5 : (j5 : Int) < (nz : Int) := by omega
              have hjl : j5 < (tyArgs X).length := by have := HK.out.1; omega
              obtain ⟨rfl, hca, hcm, hga⟩ := HK.out.2.1 (by omega)
              unfold maxLen at hcm
              obtain ⟨k1, s1, xa1, xl1, na1, ca1, nl1, cl1, o1, sb, c0, c1, c2, c3, c4, hv1⟩ := ((HK.out.2.2 j5 hjl).carry (W' := wr) (fun b hb => (FQ.out.block b hb).trans (HV.out.block b hb).symm) (fun _ h => h)).open_
              have hgw : tga < wr.heap.size := by omega
              have hmem : (tyArgs X)[j5] ∈ tyArgs X := List.getElem_mem hjl
              have HV1 := Lib.hid (And.intro hv1 (And.intro hmem sb))
              clear hv1 sb hmem
              have CT : Hid (∀ V, Below wr.heap.size wr V → Calls Tryd.prog 16 #[.agg #[.int .i64 k1, .string s1, .slice xa1 na1 ca1, .slice xl1 nl1 cl1, .bool o1]] V fun e w' => e = .returned (.int .i64 0) ∧ Below V.heap.size V w') := Lib.hid fun V hV => by
                have hs := hV.size
                refine (checkType_v T v _ _ _ _ _ _ V _ (XG.out V (FQ.out.trans (hV.mono (by omega)))) (by have h1 := size_kid HV1.out.2.1; have h2 := HS.out.2; omega) (kt_kid HS.out.1 HV1.out.2.1) (fun b h => by omega) (HV1.out.1.carry (fun b hb => hV.block b (by omega)) (fun _ h => h))).mono ?_
                rintro e w' ⟨rfl, hB⟩
                exact ⟨by rw [errT_kid HE.out.2.2 HV1.out.2.1], hB⟩
              go_wp2_with fail
              refine (CT.out _ (by first | exact (Below.refl _ _).alloc (Nat.le_refl _) _ | exact ((Below.refl _ _).alloc (Nat.le_refl _) _).drew)).mono ?_
              rintro e w11 ⟨rfl, hB11⟩
              go_wp2_with fail
              go_roundg (nz - (j5 + 1))
              case measure => omega
              case rel => exact ⟨j5 + 1, rfl, hlt5, by first | rfl | simp, (FQ.out.alloc (by omega) _).trans (hB11.mono (by simp; omega))⟩
            · have hi5 : ¬ (j5 : Int) < (nz : Int) := by omega
              go_wp2_with fail
              go_ret
              exact ⟨rfl, F0.out.trans (FQ.out.mono F0.out.size)⟩
        · have HV2 := HV
          clear b0 b1 b2 b3 b4 b5 b6
          go_wp2_with fail
          clear c0 c1 c2 c3 c4
          go_loopg [86] nz (fun gk i wq => ∃ j : Nat, gk = nz - j ∧ j ≤ nz ∧ i = .int .i64 j ∧ Below wr.heap.size wr wq)
          case atStart => exact ⟨0, rfl, Nat.zero_le _, rfl, HV2.out⟩
          case round =>
            obtain ⟨j5, rfl, hj5, rfl, hBq⟩ := hrel
            have sq := hBq.size
            have FQ := Lib.hid hBq
            clear hBq
            by_cases hlt5 : j5 < nz
            · have hi5 : (j5 : Int) < (nz : Int) := by omega
              have hjl : j5 < (tyArgs X).length := by have := HK.out.1; omega
              obtain ⟨rfl, hca, hcm, hga⟩ := HK.out.2.1 (by omega)
              unfold maxLen at hcm
              obtain ⟨k1, s1, xa1, xl1, na1, ca1, nl1, cl1, o1, sb, c0, c1, c2, c3, c4, hv1⟩ := ((HK.out.2.2 j5 hjl).carry (W' := wr) (fun b hb => (FQ.out.block b hb).trans (HV.out.block b hb).symm) (fun _ h => h)).open_
              have hgw : tga < wr.heap.size := by omega
              have hmem : (tyArgs X)[j5] ∈ tyArgs X := List.getElem_mem hjl
              have HV1 := Lib.hid (And.intro hv1 (And.intro hmem sb))
              clear hv1 sb hmem
              go_wp2_with fail
              go_roundg (nz - (j5 + 1))
              case measure => omega
              case rel => exact ⟨j5 + 1, rfl, hlt5, by first | rfl | simp, FQ.out.alloc (by omega) _⟩
            · have hi5 : ¬ (j5 : Int) < (nz : Int) := by omega
              go_wp2_with fail
              go_ret
              exact ⟨rfl, F0.out.trans (FQ.out.mono F0.out.size)⟩
        · have HV2 := HV
          clear b0 b1 b2 b3 b4 b5 b6
          go_wp2_with fail
          clear c0 c1 c2 c3 c4
          go_loopg [86] nz (fun gk i wq => ∃ j : Nat, gk = nz - j ∧ j ≤ nz ∧ i = .int .i64 j ∧ Below wr.heap.size wr wq)
          case atStart => exact ⟨0, rfl, Nat.zero_le _, rfl, HV2.out⟩
          case round =>
            obtain ⟨j5, rfl, hj5, rfl, hBq⟩ := hrel
            have sq := hBq.size
            have FQ := Lib.hid hBq
            clear hBq
            by_cases hlt5 : j5 < nz
            · have hi5 : (j5 : Int) < (nz : Int) := by omega
              have hjl : j5 < (tyArgs X).length := by have := HK.out.1; omega
              obtain ⟨rfl, hca, hcm, hga⟩ := HK.out.2.1 (by omega)
              unfold maxLen at hcm
              obtain ⟨k1, s1, xa1, xl1, na1, ca1, nl1, cl1, o1, sb, c0, c1, c2, c3, c4, hv1⟩ := ((HK.out.2.2 j5 hjl).carry (W' := wr) (fun b hb => (FQ.out.block b hb).trans (HV.out.block b hb).symm) (fun _ h => h)).open_
              have hgw : tga < wr.heap.size := by omega
              have hmem : (tyArgs X)[j5] ∈ tyArgs X := List.getElem_mem hjl
              have HV1 := Lib.hid (And.intro hv1 (And.intro hmem sb))
              clear hv1 sb hmem
              go_wp2_with fail
              go_roundg (nz - (j5 + 1))
              case measure => omega
              case rel => exact ⟨j5 + 1, rfl, hlt5, by first | rfl | simp, FQ.out.alloc (by omega) _⟩
            · have hi5 : ¬ (j5 : Int) < (nz : Int) := by omega
              go_wp2_with fail
              go_ret
              exact ⟨rfl, F0.out.trans (FQ.out.mono F0.out.size)⟩
        · have HV2 := HV
          clear b0 b1 b2 b3 b4 b5 b6
          go_wp2_with fail
          clear c0 c1 c2 c3 c4
          go_loopg [86] nz (fun gk i wq => ∃ j : Nat, gk = nz - j ∧ j ≤ nz ∧ i = .int .i64 j ∧ Below wr.heap.size wr wq)
          case atStart => exact ⟨0, rfl, Nat.zero_le _, rfl, HV2.out⟩
          case round =>
            obtain ⟨j5, rfl, hj5, rfl, hBq⟩ := hrel
            have sq := hBq.size
            have FQ := Lib.hid hBq
            clear hBq
            by_cases hlt5 : j5 < nz
            · have hi5 : (j5 : Int) < (nz : Int) := by omega
              have hjl : j5 < (tyArgs X).length := by have := HK.out.1; omega
              obtain ⟨rfl, hca, hcm, hga⟩ := HK.out.2.1 (by omega)
              unfold maxLen at hcm
              obtain ⟨k1, s1, xa1, xl1, na1, ca1, nl1, cl1, o1, sb, c0, c1, c2, c3, c4, hv1⟩ := ((HK.out.2.2 j5 hjl).carry (W' := wr) (fun b hb => (FQ.out.block b hb).trans (HV.out.block b hb).symm) (fun _ h => h)).open_
              have hgw : tga < wr.heap.size := by omega
              have hmem : (tyArgs X)[j5] ∈ tyArgs X := List.getElem_mem hjl
              have HV1 := Lib.hid (And.intro hv1 (And.intro hmem sb))
              clear hv1 sb hmem
              go_wp2_with fail
              go_roundg (nz - (j5 + 1))
              case measure => omega
              case rel => exact ⟨j5 + 1, rfl, hlt5, by first | rfl | simp, FQ.out.alloc (by omega) _⟩
            · have hi5 : ¬ (j5 : Int) < (nz : Int) := by omega
              go_wp2_with fail
              go_ret
              exact ⟨rfl, F0.out.trans (FQ.out.mono F0.out.size)⟩
        · have HV2 := HV
          clear b0 b1 b2 b3 b4 b5 b6
          go_wp2_with fail
          clear c0 c1 c2 c3 c4
          go_loopg [86] nz (fun gk i wq => ∃ j : Nat, gk = nz - j ∧ j ≤ nz ∧ i = .int .i64 j ∧ Below wr.heap.size wr wq)
          case atStart => exact ⟨0, rfl, Nat.zero_le _, rfl, HV2.out⟩
          case round =>
            obtain ⟨j5, rfl, hj5, rfl, hBq⟩ := hrel
            have sq := hBq.size
            have FQ := Lib.hid hBq
            clear hBq
            by_cases hlt5 : j5 < nz
            · have hi5 : (j5 : Int) < (nz : Int) := by omega
              have hjl : j5 < (tyArgs X).length := by have := HK.out.1; omega
              obtain ⟨rfl, hca, hcm, hga⟩ := HK.out.2.1 (by omega)
              unfold maxLen at hcm
              obtain ⟨k1, s1, xa1, xl1, na1, ca1, nl1, cl1, o1, sb, c0, c1, c2, c3, c4, hv1⟩ := ((HK.out.2.2 j5 hjl).carry (W' := wr) (fun b hb => (FQ.out.block b hb).trans (HV.out.block b hb).symm) (fun _ h => h)).open_
              have hgw : tga < wr.heap.size := by omega
              have hmem : (tyArgs X)[j5] ∈ tyArgs X := List.getElem_mem hjl
              have HV1 := Lib.hid (And.intro hv1 (And.intro hmem sb))
              clear hv1 sb hmem
              go_wp2_with fail
              go_roundg (nz - (j5 + 1))
              case measure => omega
              case rel => exact ⟨j5 + 1, rfl, hlt5, by first | rfl | simp, FQ.out.alloc (by omega) _⟩
            · have hi5 : ¬ (j5 : Int) < (nz : Int) := by omega
              go_wp2_with fail
              go_ret
              exact ⟨rfl, F0.out.trans (FQ.out.mono F0.out.size)⟩
        · have dlt : decide ((dd : Int) < 200) = false := decide_eq_false (by omega)
          clear hdd
          go_wp2_with fail
          refine CD.out.mono ?_
          rintro e w10 ⟨rfl, hB10⟩
          have s10 := hB10.size
          have HV2 := Lib.hid (HV.out.trans (hB10.mono (by omega)))
          have HBX := (XB.out _ HV2.out).2
          clear c0 c1 c2 c3 c4 b0 b1 b2 b3 b4 b5 b6
          have c0 : w10.cell? ⟨w6.heap.size, 0, none⟩ = some (.int .i64 kz) := by rw [Lib.cell_of_heap HBX]; rfl
          have c1 : w10.cell? ⟨w6.heap.size, 1, none⟩ = some (.string sz) := by rw [Lib.cell_of_heap HBX]; rfl
          have c2 : w10.cell? ⟨w6.heap.size, 2, none⟩ = some (.slice az nz cz) := by rw [Lib.cell_of_heap HBX]; rfl
          have c3 : w10.cell? ⟨w6.heap.size, 3, none⟩ = some (.slice lz mz dz) := by rw [Lib.cell_of_heap HBX]; rfl
          have c4 : w10.cell? ⟨w6.heap.size, 4, none⟩ = some (.bool oz) := by rw [Lib.cell_of_heap HBX]; rfl
          clear HBX hB10
          go_wp2_with fail
          clear c0 c1 c2 c3 c4
          go_loopg [86] nz (fun gk i wq => ∃ j : Nat, gk = nz - j ∧ j ≤ nz ∧ i = .int .i64 j ∧ Below wr.heap.size wr wq)
          case atStart => exact ⟨0, rfl, Nat.zero_le _, rfl, HV2.out⟩
          case round =>
            obtain ⟨j5, rfl, hj5, rfl, hBq⟩ := hrel
            have sq := hBq.size
            have FQ := Lib.hid hBq
            clear hBq
            by_cases hlt5 : j5 < nz
            · have hi5 : (j5 : Int) < (nz : Int) := by omega
              have hjl : j5 < (tyArgs X).length := by have := HK.out.1; omega
              obtain ⟨rfl, hca, hcm, hga⟩ := HK.out.2.1 (by omega)
              unfold maxLen at hcm
              obtain ⟨k1, s1, xa1, xl1, na1, ca1, nl1, cl1, o1, sb, c0, c1, c2, c3, c4, hv1⟩ := ((HK.out.2.2 j5 hjl).carry (W' := wr) (fun b hb => (FQ.out.block b hb).trans (HV.out.block b hb).symm) (fun _ h => h)).open_
              have hgw : tga < wr.heap.size := by omega
              have hmem : (tyArgs X)[j5] ∈ tyArgs X := List.getElem_mem hjl
              have HV1 := Lib.hid (And.intro hv1 (And.intro hmem sb))
              clear hv1 sb hmem
              have CT : Hid (∀ V, Below wr.heap.size wr V → Calls Tryd.prog 16 #[.agg #[.int .i64 k1, .string s1, .slice xa1 na1 ca1, .slice xl1 nl1 cl1, .bool o1]] V fun e w' => e = .returned (.int .i64 0) ∧ Below V.heap.size V w') := Lib.hid fun V hV => by
                have hs := hV.size
                refine (checkType_v T v _ _ _ _ _ _ V _ (XG.out V (FQ.out.trans (hV.mono (by omega)))) (by have h1 := size_kid HV1.out.2.1; have h2 := HS.out.2; omega) (kt_kid HS.out.1 HV1.out.2.1) (fun b h => by omega) (HV1.out.1.carry (fun b hb => hV.block b (by omega)) (fun _ h => h))).mono ?_
                rintro e w' ⟨rfl, hB⟩
                exact ⟨by rw [errT_kid HE.out.2.2 HV1.out.2.1], hB⟩
              go_wp2_with fail
              refine (CT.out _ (by first | exact (Below.refl _ _).alloc (Nat.le_refl _) _ | exact ((Below.refl _ _).alloc (Nat.le_refl _) _).drew)).mono ?_
              rintro e w11 ⟨rfl, hB11⟩
              go_wp2_with fail
              go_roundg (nz - (j5 + 1))
              case measure => omega
              case rel => exact ⟨j5 + 1, rfl, hlt5, by first | rfl | simp, (FQ.out.alloc (by omega) _).trans (hB11.mono (by simp; omega))⟩
            · have hi5 : ¬ (j5 : Int) < (nz : Int) := by omega
              go_wp2_with fail
              go_ret
              exact ⟨rfl, F0.out.trans (FQ.out.mono F0.out.size)⟩
        · have HV2 := HV
          clear b0 b1 b2 b3 b4 b5 b6
          go_wp2_with fail
          clear c0 c1 c2 c3 c4
          go_loopg [86] nz (fun gk i wq => ∃ j : Nat, gk = nz - j ∧ j ≤ nz ∧ i = .int .i64 j ∧ Below wr.heap.size wr wq)
          case atStart => exact ⟨0, rfl, Nat.zero_le _, rfl, HV2.out⟩
          case round =>
            obtain ⟨j5, rfl, hj5, rfl, hBq⟩ := hrel
            have sq := hBq.size
            have FQ := Lib.hid hBq
            clear hBq
            by_cases hlt5 : j5 < nz
            · have hi5 : (j5 : Int) < (nz : Int) := by omega
              have hjl : j5 < (tyArgs X).length := by have := HK.out.1; omega
              obtain ⟨rfl, hca, hcm, hga⟩ := HK.out.2.1 (by omega)
              unfold maxLen at hcm
              obtain ⟨k1, s1, xa1, xl1, na1, ca1, nl1, cl1, o1, sb, c0, c1, c2, c3, c4, hv1⟩ := ((HK.out.2.2 j5 hjl).carry (W' := wr) (fun b hb => (FQ.out.block b hb).trans (HV.out.block b hb).symm) (fun _ h => h)).open_
              have hgw : tga < wr.heap.size := by omega
              have hmem : (tyArgs X)[j5] ∈ tyArgs X := List.getElem_mem hjl
              have HV1 := Lib.hid (And.intro hv1 (And.intro hmem sb))
              clear hv1 sb hmem
              go_wp2_with fail
              go_roundg (nz - (j5 + 1))
              case measure => omega
              case rel => exact ⟨j5 + 1, rfl, hlt5, by first | rfl | simp, FQ.out.alloc (by omega) _⟩
            · have hi5 : ¬ (j5 : Int) < (nz : Int) := by omega
              go_wp2_with fail
              go_ret
              exact ⟨rfl, F0.out.trans (FQ.out.mono F0.out.size)⟩
        · have HV2 := HV
          clear b0 b1 b2 b3 b4 b5 b6
          go_wp2_with fail
          clear c0 c1 c2 c3 c4
          go_loopg [86] nz (fun gk i wq => ∃ j : Nat, gk = nz - j ∧ j ≤ nz ∧ i = .int .i64 j ∧ Below wr.heap.size wr wq)
          case atStart => exact ⟨0, rfl, Nat.zero_le _, rfl, HV2.out⟩
          case round =>
            obtain ⟨j5, rfl, hj5, rfl, hBq⟩ := hrel
            have sq := hBq.size
            have FQ := Lib.hid hBq
            clear hBq
            by_cases hlt5 : j5 < nz
            · have hi5 : (j5 : Int) < (nz : Int) := by omega
              have hjl : j5 < (tyArgs X).length := by have := HK.out.1; omega
              obtain ⟨rfl, hca, hcm, hga⟩ := HK.out.2.1 (by omega)
              unfold maxLen at hcm
              obtain ⟨k1, s1, xa1, xl1, na1, ca1, nl1, cl1, o1, sb, c0, c1, c2, c3, c4, hv1⟩ := ((HK.out.2.2 j5 hjl).carry (W' := wr) (fun b hb => (FQ.out.block b hb).trans (HV.out.block b hb).symm) (fun _ h => h)).open_
              have hgw : tga < wr.heap.size := by omega
              have hmem : (tyArgs X)[j5] ∈ tyArgs X := List.getElem_mem hjl
              have HV1 := Lib.hid (And.intro hv1 (And.intro hmem sb))
              clear hv1 sb hmem
              have CT : Hid (∀ V, Below wr.heap.size wr V → Calls Tryd.prog 16 #[.agg #[.int .i64 k1, .string s1, .slice xa1 na1 ca1, .slice xl1 nl1 cl1, .bool o1]] V fun e w' => e = .returned (.int .i64 0) ∧ Below V.heap.size V w') := Lib.hid fun V hV => by
                have hs := hV.size
                refine (checkType_v T v _ _ _ _ _ _ V _ (XG.out V (FQ.out.trans (hV.mono (by omega)))) (by have h1 := size_kid HV1.out.2.1; have h2 := HS.out.2; omega) (kt_kid HS.out.1 HV1.out.2.1) (fun b h => by omega) (HV1.out.1.carry (fun b hb => hV.block b (by omega)) (fun _ h => h))).mono ?_
                rintro e w' ⟨rfl, hB⟩
                exact ⟨by rw [errT_kid HE.out.2.2 HV1.out.2.1], hB⟩
              go_wp2_with fail
              refine (CT.out _ (by first | exact (Below.refl _ _).alloc (Nat.le_refl _) _ | exact ((Below.refl _ _).alloc (Nat.le_refl _) _).drew)).mono ?_
              rintro e w11 ⟨rfl, hB11⟩
              go_wp2_with fail
              go_roundg (nz - (j5 + 1))
              case measure => omega
              case rel => exact ⟨j5 + 1, rfl, hlt5, by first | rfl | simp, (FQ.out.alloc (by omega) _).trans (hB11.mono (by simp; omega))⟩
            · have hi5 : ¬ (j5 : Int) < (nz : Int) := by omega
              go_wp2_with fail
              go_ret
              exact ⟨rfl, F0.out.trans (FQ.out.mono F0.out.size)⟩
        · have HV2 := HV
          clear b0 b1 b2 b3 b4 b5 b6
          go_wp2_with fail
          clear c0 c1 c2 c3 c4
          go_loopg [86] nz (fun gk i wq => ∃ j : Nat, gk = nz - j ∧ j ≤ nz ∧ i = .int .i64 j ∧ Below wr.heap.size wr wq)
          case atStart => exact ⟨0, rfl, Nat.zero_le _, rfl, HV2.out⟩
          case round =>
            obtain ⟨j5, rfl, hj5, rfl, hBq⟩ := hrel
            have sq := hBq.size
            have FQ := Lib.hid hBq
            clear hBq
            by_cases hlt5 : j5 < nz
            · have hi5 : (j5 : Int) < (nz : Int) := by omega
              have hjl : j5 < (tyArgs X).length := by have := HK.out.1; omega
              obtain ⟨rfl, hca, hcm, hga⟩ := HK.out.2.1 (by omega)
              unfold maxLen at hcm
              obtain ⟨k1, s1, xa1, xl1, na1, ca1, nl1, cl1, o1, sb, c0, c1, c2, c3, c4, hv1⟩ := ((HK.out.2.2 j5 hjl).carry (W' := wr) (fun b hb => (FQ.out.block b hb).trans (HV.out.block b hb).symm) (fun _ h => h)).open_
              have hgw : tga < wr.heap.size := by omega
              have hmem : (tyArgs X)[j5] ∈ tyArgs X := List.getElem_mem hjl
              have HV1 := Lib.hid (And.intro hv1 (And.intro hmem sb))
              clear hv1 sb hmem
              go_wp2_with fail
              go_roundg (nz - (j5 + 1))
              case measure => omega
              case rel => exact ⟨j5 + 1, rfl, hlt5, by first | rfl | simp, FQ.out.alloc (by omega) _⟩
            · have hi5 : ¬ (j5 : Int) < (nz : Int) := by omega
              go_wp2_with fail
              go_ret
              exact ⟨rfl, F0.out.trans (FQ.out.mono F0.out.size)⟩
end Go.Proofs.YtoopndgdaiblpaaDoor
