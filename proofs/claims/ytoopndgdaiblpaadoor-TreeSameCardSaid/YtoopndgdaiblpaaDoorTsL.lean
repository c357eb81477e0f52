/- trefoillaw02.TreeSame, walked. -/
import Derived.Test.YtoopndgdaiblpaaDoorTsP
import Derived.Test.YtoopndgdaiblpaaDoorGrt
import Derived.Test.YtoopndgdaiblpaaDoorAlive
import Derived.Deep.RegionHeld3
namespace Go.Proofs.YtoopndgdaiblpaaDoor
open Go.ChangeShapes Go.WideShapes Go.ChangeAt Go.RowKit

theorem five_set (W : World) (b : Nat) (T : TypeId) (a0 a1 a2 a3 a4 v0 v1 v2 v3 v4 : Value) (h : W.heap[b]? = some (.cells #[a0, a1, a2, a3, a4] T)) :
    (((((W.setCell ⟨b, 0, none⟩ v0).setCell ⟨b, 1, none⟩ v1).setCell ⟨b, 2, none⟩ v2).setCell ⟨b, 3, none⟩ v3).setCell ⟨b, 4, none⟩ v4).heap[b]? = some (.cells #[v0, v1, v2, v3, v4] T) := by
  have h1 := heap_setCell_same _ _ 0 _ _ v0 h
  have h2 := heap_setCell_same _ _ 1 _ _ v1 h1
  have h3 := heap_setCell_same _ _ 2 _ _ v2 h2
  have h4 := heap_setCell_same _ _ 3 _ _ v3 h3
  have h5 := heap_setCell_same _ _ 4 _ _ v4 h4
  simpa using h5
theorem five_other (W : World) (b c : Nat) (v0 v1 v2 v3 v4 : Value) (h : c ≠ b) :
    (((((W.setCell ⟨b, 0, none⟩ v0).setCell ⟨b, 1, none⟩ v1).setCell ⟨b, 2, none⟩ v2).setCell ⟨b, 3, none⟩ v3).setCell ⟨b, 4, none⟩ v4).heap[c]? = W.heap[c]? := by
  rw [RowKit.Below.heap_setCell _ _ _ _ h, RowKit.Below.heap_setCell _ _ _ _ h, RowKit.Below.heap_setCell _ _ _ _ h, RowKit.Below.heap_setCell _ _ _ _ h, RowKit.Below.heap_setCell _ _ _ _ h]

set_option linter.unusedSimpArgs false in
set_option maxHeartbeats 20000000 in
set_option maxRecDepth 100000 in
theorem tsame_any (T : TypeId) (v : Value) (la lb : List Pt) (xa xb : Option Addr) (na nb ca cb : Nat) (p q more : Int) (w : World) (hg : w.cell? ⟨0, 0, none⟩ = some (.iface T v)) (hgl : 0 < w.heap.size) (ha : PV w w.heap.size (.slice xa na ca) la) (hb : PV w w.heap.size (.slice xb nb cb) lb)
    (hla : (la.length : Int) ≤ 9223372036854775807) (hlb : (lb.length : Int) ≤ 9223372036854775807) (hp0 : 0 ≤ p) (hp1 : p ≤ 255) (hq0 : 0 ≤ q) (hq1 : q ≤ 255) (hm0 : 0 ≤ more) (hm1 : more ≤ 65535) :
    Calls Tryd.prog 3 #[.agg #[.slice xa na ca, .slice xb nb cb, .int .u8 p, .int .u8 q, .int .u16 more]] w fun e w' => e = .returned (.bool true) ∧ Below w.heap.size w w' := by
  have HA := Lib.hid (And.intro ha hla)
  have HB := Lib.hid (And.intro hb hlb)
  have HG := Lib.hid hg
  clear hg ha hb hla hlb
  go_enter Tryd.func3, Tryd.ntmps3
  go_wp2_with fail
  obtain ⟨w0, hw0⟩ : ∃ w0, w.alloc (.cells #[.slice xa na ca, .slice xb nb cb, .int .u8 p, .int .u8 q, .int .u16 more] 25) = w0 := ⟨_, rfl⟩
  rw [hw0]
  have B0 : Below w.heap.size w w0 := by rw [← hw0]; exact (Below.refl _ _).alloc (Nat.le_refl _) _
  have s0 : w0.heap.size = w.heap.size + 1 := by rw [← hw0]; simp
  have X0 : w0.heap[w.heap.size]? = some (.cells #[.slice xa na ca, .slice xb nb cb, .int .u8 p, .int .u8 q, .int .u16 more] 25) := by rw [← hw0]; exact heap_last rfl
  refine (alive_any T v w0 ((B0.cell (p := ⟨_, 0, none⟩) hgl).trans HG.out) (by omega)).mono ?_
  rintro e w1 ⟨rfl, hB1⟩
  have s1 := hB1.size
  have hbx := (hB1.block w.heap.size (by omega)).trans X0
  have b0 := Lib.cell_of_heap hbx 0
  have b1 := Lib.cell_of_heap hbx 1
  have b2 := Lib.cell_of_heap hbx 2
  have b3 := Lib.cell_of_heap hbx 3
  have b4 := Lib.cell_of_heap hbx 4
  simp only [List.getElem?_toArray, List.getElem?_cons_zero, List.getElem?_cons_succ] at b0 b1 b2 b3 b4
  clear hbx hw0 X0
  have PA1 := Lib.hid ((HA.out.1.carry B0).carry' hB1 (by omega))
  have PB1 := Lib.hid ((HB.out.1.carry B0).carry' hB1 (by omega))
  have W01 : Below w.heap.size w w1 := B0.trans (hB1.mono (by omega))
  go_wp2_with fail
  go_quiet (fail)
  clear b0 b1 b2 b3 b4
  go_wp2_with fail
  refine (great_any w.heap.size la _ (w1.drewN nq) (by simp; omega) HA.out.2 PA1.out).mono ?_
  rintro e w2 ⟨g1, rfl, hg1, hB2⟩
  have s2 := hB2.size
  have W02 : Below w.heap.size w w2 := (dN_below W01 nq).trans (hB2.mono (by simp; omega))
  cases g1 with
  | true =>
    go_wp2_with fail
    go_ret
    exact ⟨rfl, W02⟩
  | false =>
    have HL1 := Lib.hid (hg1 rfl)
    clear hg1
    have hw2 : w.heap.size ≤ w2.heap.size := W02.size
    have PA2 := Lib.hid ((PA1.out.carry (dN_below (Below.refl _ w1) nq)).carry' hB2 (by simp; omega))
    have PB2 := Lib.hid ((PB1.out.carry (dN_below (Below.refl _ w1) nq)).carry' hB2 (by simp; omega))
    go_wp2_with fail
    refine (great_any w.heap.size lb _ w2 hw2 HB.out.2 PB2.out).mono ?_
    rintro e w3 ⟨g2, rfl, hg2, hB3⟩
    have s3 := hB3.size
    have W03 : Below w.heap.size w w3 := W02.trans (hB3.mono hw2)
    cases g2 with
    | true =>
      go_wp2_with fail
      go_ret
      exact ⟨rfl, W03⟩
    | false =>
      have HL2 := Lib.hid (hg2 rfl)
      clear hg2
      have PA3 := Lib.hid (PA2.out.carry' hB3 hw2)
      have PB3 := Lib.hid (PB2.out.carry' hB3 hw2)
      have CO := Lib.hid (of_any w.heap.size 2000 la _ w3 (by omega) (by have := HL1.out; omega) (by have := HL1.out; omega) PA3.out)
      go_wp2_with fail
      refine CO.out.mono ?_
      rintro e w4 ⟨c0, c1, c2, c3, c4, c5, c6, rest, rfl, hxe, hpe, hB4⟩
      obtain ⟨⟨x3, l3, e3, rfl⟩, ⟨x4, l4, e4, rfl⟩, ⟨x5, l5, e5, rfl⟩, ⟨x6, l6, e6, rfl⟩⟩ := hxe.shapes
      obtain ⟨k2, t2, n2, rfl, rfl, rfl⟩ := hxe.heads
      have s4 := hB4.size
      have PB4 := Lib.hid ((PB3.out.carry' hB4 (by omega)).carry' ((Below.refl w4.heap.size w4).alloc (Nat.le_refl _) (.cells #[.int .i64 k2, .string t2, .int .i64 n2, .slice x3 l3 e3, .slice x4 l4 e4, .slice x5 l5 e5, .slice x6 l6 e6] 33)) (by omega))
      have CO2 := Lib.hid (of_any w.heap.size 2000 lb _ (w4.alloc (.cells #[.int .i64 k2, .string t2, .int .i64 n2, .slice x3 l3 e3, .slice x4 l4 e4, .slice x5 l5 e5, .slice x6 l6 e6] 33)) (by simp; omega) (by have := HL2.out; omega) (by have := HL2.out; omega) PB4.out)
      have HXE := Lib.hid hxe
      clear hxe hpe CO
      go_wp2_with fail
      refine CO2.out.mono ?_
      rintro e w5 ⟨d0, d1, d2, d3, d4, d5, d6, rest2, rfl, hxy, hpy, hB5⟩
      obtain ⟨⟨y3, m3, f3, rfl⟩, ⟨y4, m4, f4, rfl⟩, ⟨y5, m5, f5, rfl⟩, ⟨y6, m6, f6, rfl⟩⟩ := hxy.shapes
      obtain ⟨k3, t3, n3, rfl, rfl, rfl⟩ := hxy.heads
      have s5 := hB5.size
      simp only [World.size_alloc] at s5
      have HXY := Lib.hid hxy
      clear hxy hpy CO2
      have CT := Lib.hid (typ_any p (w5.alloc (.cells #[.int .i64 k3, .string t3, .int .i64 n3, .slice y3 m3 f3, .slice y4 m4 f4, .slice y5 m5 f5, .slice y6 m6 f6] 33)) hp0 hp1)
      go_wp2_with fail
      refine CT.out.mono ?_
      rintro e w6 ⟨u0, u1, u2, u3, u4, rfl, htx, hB6⟩
      have s6 := hB6.size
      simp only [World.size_alloc] at s6
      obtain ⟨kx, sx, ax, lx, nax, cax, nlx, clx, ox, rfl, rfl, rfl, rfl, rfl⟩ := htx.shapes5
      have HTX := Lib.hid htx
      have CU := Lib.hid (typ_any q w6 hq0 hq1)
      clear htx CT
      go_wp2_with fail
      refine CU.out.mono ?_
      rintro e w7 ⟨u0, u1, u2, u3, u4, rfl, htu, hB7⟩
      have s7 := hB7.size
      obtain ⟨ku, su, au, lu, nau, cau, nlu, clu, ou, rfl, rfl, rfl, rfl, rfl⟩ := htu.shapes5
      have HTU := Lib.hid htu
      clear htu CU
      go_wp2_with fail
      obtain ⟨W9, hW9⟩ : ∃ W9, (w7.alloc (.cells #[.int .i64 kx, .string sx, .slice ax nax cax, .slice lx nlx clx, .bool ox] 37)).alloc (.cells #[.int .i64 ku, .string su, .slice au nau cau, .slice lu nlu clu, .bool ou] 37) = W9 := ⟨_, rfl⟩
      rw [hW9]
      have s9 : W9.heap.size = w7.heap.size + 2 := by rw [← hW9]; simp
      have X9 : W9.heap[w7.heap.size]? = some (.cells #[.int .i64 kx, .string sx, .slice ax nax cax, .slice lx nlx clx, .bool ox] 37) := by rw [← hW9, heap_old (by simp)]; exact heap_last rfl
      have U9 : W9.heap[w7.heap.size + 1]? = some (.cells #[.int .i64 ku, .string su, .slice au nau cau, .slice lu nlu clu, .bool ou] 37) := by rw [← hW9]; exact heap_last (by simp)
      have B79 : Below w7.heap.size w7 W9 := by rw [← hW9]; exact ((Below.refl _ _).alloc (Nat.le_refl _) _).alloc (by simp) _
      have HTX9 : TyV W9 (fun b => b < W9.heap.size ∧ b ≠ w7.heap.size) [.int .i64 kx, .string sx, .slice ax nax cax, .slice lx nlx clx, .bool ox] (typeOf p) := HTX.out.carry (fun b hb => by rw [B79.block b (by omega), hB7.block b hb.2]) (fun b hb => by omega)
      obtain ⟨M, hM⟩ : ∃ M : Nat, more % 300 = (M : Int) := ⟨(more % 300).toNat, by omega⟩
      have hM3 : M < 300 := by omega
      rw [hM]
      have H9 := Lib.hid (And.intro X9 (And.intro U9 (And.intro HTX9 (And.intro B79 hM))))
      clear hW9 X9 U9 HTX9 B79 hM hm0 hm1
      go_loopg [48] M (fun gk i wr => ∃ (j : Nat) (X : Ty) (kz : Int) (sz : ByteArray) (az lz : Option Addr) (nz cz mz dz : Nat) (oz : Bool), gk = M - j ∧ j ≤ M ∧ i = .int .u16 j ∧ wr.heap[w7.heap.size]? = some (.cells #[.int .i64 kz, .string sz, .slice az nz cz, .slice lz mz dz, .bool oz] 37) ∧ wr.heap[w7.heap.size + 1]? = some (.cells #[.int .i64 ku, .string su, .slice au nau cau, .slice lu nlu clu, .bool ou] 37) ∧ TyV wr (fun b => b < wr.heap.size ∧ b ≠ w7.heap.size) [.int .i64 kz, .string sz, .slice az nz cz, .slice lz mz dz, .bool oz] X ∧ KT X ∧ tySize X ≤ 3 + j ∧ Below w7.heap.size W9 wr)
      case atStart => exact ⟨0, typeOf p, kx, sx, ax, lx, nax, cax, nlx, clx, ox, rfl, Nat.zero_le _, rfl, H9.out.1, H9.out.2.1, H9.out.2.2.1, kt_typeOf p, typeOf_small p, Below.refl _ _⟩
      case round =>
        obtain ⟨j, X, kz, sz, az, lz, nz, cz, mz, dz, oz, rfl, hj, rfl, hbz, hbu, hX, hkx, hsx, hB⟩ := hrel
        have hbs := hB.size
        have HZ := Lib.hid (And.intro hbz (And.intro hbu (And.intro hX (And.intro hkx hsx))))
        have b0 := Lib.cell_of_heap hbz 0
        have b1 := Lib.cell_of_heap hbz 1
        have b2 := Lib.cell_of_heap hbz 2
        have b3 := Lib.cell_of_heap hbz 3
        have b4 := Lib.cell_of_heap hbz 4
        simp only [List.getElem?_toArray, List.getElem?_cons_zero, List.getElem?_cons_succ] at b0 b1 b2 b3 b4
        by_cases hlt : j < M
        · have hi' : (j : Int) < (M : Int) := by omega
          have hz1 : w7.heap.size < wr.heap.size := by omega
          have f0 := Lib.frozen_of_heap hbz 0
          have f1 := Lib.frozen_of_heap hbz 1
          have f2 := Lib.frozen_of_heap hbz 2
          have f3 := Lib.frozen_of_heap hbz 3
          have f4 := Lib.frozen_of_heap hbz 4
          clear hbz hbu hX hkx hsx
          go_wp2_with fail
          go_roundg (M - (j + 1))
          case measure => omega
          case rel =>
            obtain ⟨hbz, hbu, hX, hkx, hsx⟩ := HZ.out
            have h5 := five_set wr w7.heap.size _ _ _ _ _ _ (.int .i64 3) (.string ⟨#[]⟩) (.slice (some ⟨wr.heap.size + 1, 0, none⟩) 1 1) (.slice (some ⟨wr.heap.size, 0, none⟩) 1 1) (.bool false) hbz
            have o5 := fun c (hc : c ≠ w7.heap.size) => five_other wr w7.heap.size c (.int .i64 3) (.string ⟨#[]⟩) (.slice (some ⟨wr.heap.size + 1, 0, none⟩) 1 1) (.slice (some ⟨wr.heap.size, 0, none⟩) 1 1) (.bool false) hc
            have z5 : (((((wr.setCell ⟨w7.heap.size, 0, none⟩ (.int .i64 3)).setCell ⟨w7.heap.size, 1, none⟩ (.string ⟨#[]⟩)).setCell ⟨w7.heap.size, 2, none⟩ (.slice (some ⟨wr.heap.size + 1, 0, none⟩) 1 1)).setCell ⟨w7.heap.size, 3, none⟩ (.slice (some ⟨wr.heap.size, 0, none⟩) 1 1)).setCell ⟨w7.heap.size, 4, none⟩ (.bool false)).heap.size = wr.heap.size := by simp
            have B5 : Below w7.heap.size W9 (((((wr.setCell ⟨w7.heap.size, 0, none⟩ (.int .i64 3)).setCell ⟨w7.heap.size, 1, none⟩ (.string ⟨#[]⟩)).setCell ⟨w7.heap.size, 2, none⟩ (.slice (some ⟨wr.heap.size + 1, 0, none⟩) 1 1)).setCell ⟨w7.heap.size, 3, none⟩ (.slice (some ⟨wr.heap.size, 0, none⟩) 1 1)).setCell ⟨w7.heap.size, 4, none⟩ (.bool false)) := ((((hB.setCell (p := ⟨w7.heap.size, 0, none⟩) (Nat.le_refl _) _).setCell (p := ⟨w7.heap.size, 1, none⟩) (Nat.le_refl _) _).setCell (p := ⟨w7.heap.size, 2, none⟩) (Nat.le_refl _) _).setCell (p := ⟨w7.heap.size, 3, none⟩) (Nat.le_refl _) _).setCell (p := ⟨w7.heap.size, 4, none⟩) (Nat.le_refl _) _
            generalize (((((wr.setCell ⟨w7.heap.size, 0, none⟩ (.int .i64 3)).setCell ⟨w7.heap.size, 1, none⟩ (.string ⟨#[]⟩)).setCell ⟨w7.heap.size, 2, none⟩ (.slice (some ⟨wr.heap.size + 1, 0, none⟩) 1 1)).setCell ⟨w7.heap.size, 3, none⟩ (.slice (some ⟨wr.heap.size, 0, none⟩) 1 1)).setCell ⟨w7.heap.size, 4, none⟩ (.bool false)) = W5 at h5 o5 z5 B5 ⊢
            refine ⟨j + 1, wrapM X, 3, ⟨#[]⟩, some ⟨wr.heap.size + 1, 0, none⟩, some ⟨wr.heap.size, 0, none⟩, 1, 1, 1, 1, false, rfl, hlt, by first | rfl | simp, ?_, ?_, ?_, kt_wrap hkx, by rw [size_wrap]; omega, (B5.alloc (by omega) _).alloc (by simp; omega) _⟩
            · rw [heap_old (by simp; omega), heap_old (by omega)]; exact h5
            · rw [heap_old (by simp; omega), heap_old (by omega)]
              exact (o5 _ (by omega)).trans hbu
            · refine ⟨3, ⟨#[]⟩, _, _, false, [X], [⟨#[109]⟩], wr.heap.size + 1, 0, wr.heap.size, 0, rfl, rfl, .inr ⟨1, rfl, by simp, by decide, ⟨by simp; omega, by omega⟩⟩, .inr ⟨1, rfl, by simp, by decide, ⟨by simp; omega, by omega⟩⟩, fun i hi => ?_, fun i hi => ?_⟩
              · match i, hi with
                | 0, _ =>
                  refine (hX.carry (fun b hb => ?_) (fun b hb => ⟨by simp; omega, hb.2⟩)).at_ ⟨by simp; omega, by omega⟩ (fun q u hq => ?_)
                  · rw [heap_old (by simp; omega), heap_old (by omega)]
                    exact o5 b hb.2
                  · have hh : ((W5.alloc (.cells #[.string ⟨#[109]⟩] 9)).alloc (.cells #[.int .i64 kz, .string sz, .slice az nz cz, .slice lz mz dz, .bool oz] 37)).heap[wr.heap.size + 1]? = _ := heap_last (by simp; omega)
                    rw [Lib.cell_of_heap hh, Nat.zero_mul, Nat.zero_add]
                    simpa using hq
              · match i, hi with
                | 0, _ =>
                  have hh : ((W5.alloc (.cells #[.string ⟨#[109]⟩] 9)).alloc (.cells #[.int .i64 kz, .string sz, .slice az nz cz, .slice lz mz dz, .bool oz] 37)).heap[wr.heap.size]? = _ := (heap_old (by simp; omega)).trans (heap_last (by omega))
                  rw [Lib.cell_of_heap hh]; rfl
        · have hi' : ¬ (j : Int) < (M : Int) := by omega
          obtain rfl : M = j := by omega
          clear b0 b1 b2 b3 b4 HZ
          have K7 : ∀ b, b < w7.heap.size → wr.heap[b]? = w7.heap[b]? := fun b hb => (hB.block b hb).trans (H9.out.2.2.2.1.block b hb)
          have K5 : ∀ b, b < w5.heap.size → wr.heap[b]? = w5.heap[b]? := fun b hb => (K7 b (by omega)).trans ((hB7.block b (by omega)).trans ((hB6.block b (by simp; omega)).trans (heap_old hb)))
          have K4 : ∀ b, b < w4.heap.size → wr.heap[b]? = w4.heap[b]? := fun b hb => (K5 b (by omega)).trans ((hB5.block b (by simp; omega)).trans (heap_old hb))
          have ER : wr.heap[w4.heap.size]? = some (.cells #[.int .i64 k2, .string t2, .int .i64 n2, .slice x3 l3 e3, .slice x4 l4 e4, .slice x5 l5 e5, .slice x6 l6 e6] 33) := (K5 _ (by omega)).trans ((hB5.block _ (by simp)).trans (heap_last rfl))
          have YR : wr.heap[w5.heap.size]? = some (.cells #[.int .i64 k3, .string t3, .int .i64 n3, .slice y3 m3 f3, .slice y4 m4 f4, .slice y5 m5 f5, .slice y6 m6 f6] 33) := (K7 _ (by omega)).trans ((hB7.block _ (by omega)).trans ((hB6.block _ (by simp)).trans (heap_last rfl)))
          have hwr : Below w.heap.size w wr := by
            refine (((((W03.trans (hB4.mono (by omega))).alloc (by omega) (.cells #[.int .i64 k2, .string t2, .int .i64 n2, .slice x3 l3 e3, .slice x4 l4 e4, .slice x5 l5 e5, .slice x6 l6 e6] 33)).trans (hB5.mono (by simp; omega))).alloc (by omega) (.cells #[.int .i64 k3, .string t3, .int .i64 n3, .slice y3 m3 f3, .slice y4 m4 f4, .slice y5 m5 f5, .slice y6 m6 f6] 33)).trans (hB6.mono (by simp; omega))).trans ?_
            exact (hB7.mono (by omega)).trans ((H9.out.2.2.2.1.mono (by omega)).trans (hB.mono (by omega)))
          have hxr : w7.heap.size + 1 < wr.heap.size := by omega
          obtain ⟨ta, hta⟩ : ∃ t, (ofL 2000 la).1 = t := ⟨_, rfl⟩
          obtain ⟨tb, htb⟩ : ∃ t, (ofL 2000 lb).1 = t := ⟨_, rfl⟩
          have za : ndSize ta ≤ 900000 := by have := (ofL_fine 2000 la).2; have := HL1.out; rw [← hta]; omega
          have fa : TyFine ta := by rw [← hta]; exact ofL_mild 2000 la
          have HXE2 := HXE.out
          have HXY2 := HXY.out
          rw [hta] at HXE2
          rw [htb] at HXY2
          have XE : Hid (∀ V, Below wr.heap.size wr V → ExV V (fun b => b < V.heap.size) [.int .i64 k2, .string t2, .int .i64 n2, .slice x3 l3 e3, .slice x4 l4 e4, .slice x5 l5 e5, .slice x6 l6 e6] ta) := Lib.hid fun V hV => by
            have hs := hV.size
            exact HXE2.carry (fun b hb => (hV.block b (by omega)).trans (K4 b hb.2)) (fun b hb => by have := hb.2; omega)
          have XY : Hid (∀ V, Below wr.heap.size wr V → ExV V (fun b => b < V.heap.size) [.int .i64 k3, .string t3, .int .i64 n3, .slice y3 m3 f3, .slice y4 m4 f4, .slice y5 m5 f5, .slice y6 m6 f6] tb) := Lib.hid fun V hV => by
            have hs := hV.size
            exact HXY2.carry (fun b hb => (hV.block b (by omega)).trans (K5 b hb.2)) (fun b hb => by have := hb.2; omega)
          have XX : Hid (∀ V, Below wr.heap.size wr V → TyV V (fun b => b < V.heap.size) [.int .i64 kz, .string sz, .slice az nz cz, .slice lz mz dz, .bool oz] X) := Lib.hid fun V hV => by
            have hs := hV.size
            exact hX.carry (fun b hb => hV.block b hb.1) (fun b hb => by have := hb.1; omega)
          have XU : Hid (∀ V, Below wr.heap.size wr V → TyV V (fun b => b < V.heap.size) [.int .i64 ku, .string su, .slice au nau cau, .slice lu nlu clu, .bool ou] (typeOf q)) := Lib.hid fun V hV => by
            have hs := hV.size
            exact HTU.out.carry (fun b hb => (hV.block b (by omega)).trans (K7 b hb.2)) (fun b hb => by have := hb.2; omega)
          have XG : Hid (∀ V, Below wr.heap.size wr V → ErrAt T v V) := Lib.hid fun V hV => by
            have h9 := hwr.trans (hV.mono hwr.size)
            exact ⟨(h9.cell (p := ⟨_, 0, none⟩) hgl).trans HG.out, by have := h9.size; omega⟩
          have HS := Lib.hid (And.intro za (And.intro fa (And.intro hkx (show tySize X ≤ 900000 by omega))))
          have SO : Hid (∀ V, Below wr.heap.size wr V → V.cell? ⟨w4.heap.size, 0, none⟩ = some (.int .i64 k2) ∧ V.cell? ⟨w4.heap.size, 1, none⟩ = some (.string t2) ∧ V.cell? ⟨w4.heap.size, 2, none⟩ = some (.int .i64 n2) ∧ V.cell? ⟨w4.heap.size, 3, none⟩ = some (.slice x3 l3 e3) ∧ V.cell? ⟨w4.heap.size, 4, none⟩ = some (.slice x4 l4 e4) ∧ V.cell? ⟨w4.heap.size, 5, none⟩ = some (.slice x5 l5 e5) ∧ V.cell? ⟨w4.heap.size, 6, none⟩ = some (.slice x6 l6 e6) ∧ V.cell? ⟨w5.heap.size, 0, none⟩ = some (.int .i64 k3) ∧ V.cell? ⟨w5.heap.size, 1, none⟩ = some (.string t3) ∧ V.cell? ⟨w5.heap.size, 2, none⟩ = some (.int .i64 n3) ∧ V.cell? ⟨w5.heap.size, 3, none⟩ = some (.slice y3 m3 f3) ∧ V.cell? ⟨w5.heap.size, 4, none⟩ = some (.slice y4 m4 f4) ∧ V.cell? ⟨w5.heap.size, 5, none⟩ = some (.slice y5 m5 f5) ∧ V.cell? ⟨w5.heap.size, 6, none⟩ = some (.slice y6 m6 f6) ∧ V.cell? ⟨w7.heap.size, 0, none⟩ = some (.int .i64 kz) ∧ V.cell? ⟨w7.heap.size, 1, none⟩ = some (.string sz) ∧ V.cell? ⟨w7.heap.size, 2, none⟩ = some (.slice az nz cz) ∧ V.cell? ⟨w7.heap.size, 3, none⟩ = some (.slice lz mz dz) ∧ V.cell? ⟨w7.heap.size, 4, none⟩ = some (.bool oz) ∧ V.cell? ⟨w7.heap.size + 1, 0, none⟩ = some (.int .i64 ku) ∧ V.cell? ⟨w7.heap.size + 1, 1, none⟩ = some (.string su) ∧ V.cell? ⟨w7.heap.size + 1, 2, none⟩ = some (.slice au nau cau) ∧ V.cell? ⟨w7.heap.size + 1, 3, none⟩ = some (.slice lu nlu clu) ∧ V.cell? ⟨w7.heap.size + 1, 4, none⟩ = some (.bool ou)) := Lib.hid fun V hV => by
            have a1 := (hV.block w4.heap.size (by omega)).trans ER
            have a2 := (hV.block w5.heap.size (by omega)).trans YR
            have a3 := (hV.block w7.heap.size (by omega)).trans hbz
            have a4 := (hV.block (w7.heap.size + 1) (by omega)).trans hbu
            refine ⟨?_, ?_, ?_, ?_, ?_, ?_, ?_, ?_, ?_, ?_, ?_, ?_, ?_, ?_, ?_, ?_, ?_, ?_, ?_, ?_, ?_, ?_, ?_, ?_⟩ <;> first | (rw [Lib.cell_of_heap a1]; rfl) | (rw [Lib.cell_of_heap a2]; rfl) | (rw [Lib.cell_of_heap a3]; rfl) | (rw [Lib.cell_of_heap a4]; rfl)
          obtain ⟨r1, hr1⟩ : ∃ r, same ta tb = r := ⟨_, rfl⟩
          obtain ⟨r2, hr2⟩ : ∃ r, same X (typeOf q) = r := ⟨_, rfl⟩
          obtain ⟨r3, hr3⟩ : ∃ r, errT X = r := ⟨_, rfl⟩
          have C1 : Hid (∀ V, Below wr.heap.size wr V → Calls Tryd.prog 12 #[.agg #[.int .i64 k2, .string t2, .int .i64 n2, .slice x3 l3 e3, .slice x4 l4 e4, .slice x5 l5 e5, .slice x6 l6 e6], .agg #[.int .i64 k3, .string t3, .int .i64 n3, .slice y3 m3 f3, .slice y4 m4 f4, .slice y5 m5 f5, .slice y6 m6 f6]] V fun e w' => e = .returned (.bool r1) ∧ Below wr.heap.size wr w') := Lib.hid fun V hV => by
            refine (sameNd_v (fun b => b < V.heap.size) _ _ _ _ _ _ _ _ _ _ _ _ _ _ V ta tb HS.out.1 HS.out.2.1 (fun _ h => h) (XE.out V hV) (XY.out V hV)).mono ?_
            rintro e w' ⟨rfl, hB⟩
            exact ⟨by rw [hr1], hV.trans (hB.mono hV.size)⟩
          have C2 : Hid (∀ V, Below wr.heap.size wr V → Calls Tryd.prog 13 #[.agg #[.int .i64 k2, .string t2, .int .i64 n2, .slice x3 l3 e3, .slice x4 l4 e4, .slice x5 l5 e5, .slice x6 l6 e6], .agg #[.int .i64 k3, .string t3, .int .i64 n3, .slice y3 m3 f3, .slice y4 m4 f4, .slice y5 m5 f5, .slice y6 m6 f6]] V fun e w' => e = .returned (.bool r1) ∧ Below wr.heap.size wr w') := Lib.hid fun V hV => by
            refine (refSameN 900000 (Nat.le_refl _) (fun b => b < V.heap.size) _ _ _ _ _ _ _ _ _ _ _ _ _ _ V ta tb HS.out.1 HS.out.2.1 (fun _ h => h) (XE.out V hV) (XY.out V hV)).mono ?_
            rintro e w' ⟨rfl, hB⟩
            exact ⟨by rw [hr1], hV.trans (hB.mono hV.size)⟩
          have C3 : Hid (∀ V, Below wr.heap.size wr V → Calls Tryd.prog 14 #[.agg #[.int .i64 kz, .string sz, .slice az nz cz, .slice lz mz dz, .bool oz], .agg #[.int .i64 ku, .string su, .slice au nau cau, .slice lu nlu clu, .bool ou]] V fun e w' => e = .returned (.bool r2) ∧ Below wr.heap.size wr w') := Lib.hid fun V hV => by
            refine (sameTy_v (fun b => b < V.heap.size) _ _ _ _ _ _ _ _ _ _ V X (typeOf q) HS.out.2.2.2 (fun _ h => h) (XX.out V hV) (XU.out V hV)).mono ?_
            rintro e w' ⟨rfl, hB⟩
            exact ⟨by rw [hr2], hV.trans (hB.mono hV.size)⟩
          have C4 : Hid (∀ V, Below wr.heap.size wr V → Calls Tryd.prog 15 #[.agg #[.int .i64 kz, .string sz, .slice az nz cz, .slice lz mz dz, .bool oz], .agg #[.int .i64 ku, .string su, .slice au nau cau, .slice lu nlu clu, .bool ou]] V fun e w' => e = .returned (.bool r2) ∧ Below wr.heap.size wr w') := Lib.hid fun V hV => by
            refine (refSame 900000 (fun b => b < V.heap.size) _ _ _ _ _ _ _ _ _ _ V X (typeOf q) HS.out.2.2.2 (fun _ h => h) (XX.out V hV) (XU.out V hV)).mono ?_
            rintro e w' ⟨rfl, hB⟩
            exact ⟨by rw [hr2], hV.trans (hB.mono hV.size)⟩
          have C5 : Hid (∀ V, Below wr.heap.size wr V → Calls Tryd.prog 16 #[.agg #[.int .i64 kz, .string sz, .slice az nz cz, .slice lz mz dz, .bool oz]] V fun e w' => e = .returned (.int .i64 r3) ∧ Below wr.heap.size wr w') := Lib.hid fun V hV => by
            refine (checkType_v T v (fun b => b < V.heap.size) _ _ _ _ _ V X (XG.out V hV) HS.out.2.2.2 HS.out.2.2.1 (fun _ h => h) (XX.out V hV)).mono ?_
            rintro e w' ⟨rfl, hB⟩
            exact ⟨by rw [hr3], hV.trans (hB.mono hV.size)⟩
          have C6 : Hid (∀ V, Below wr.heap.size wr V → Calls Tryd.prog 17 #[.agg #[.int .i64 kz, .string sz, .slice az nz cz, .slice lz mz dz, .bool oz]] V fun e w' => e = .returned (.int .i64 r3) ∧ Below wr.heap.size wr w') := Lib.hid fun V hV => by
            refine (refCheckType_any (fun b => b < V.heap.size) _ _ _ _ _ V X HS.out.2.2.2 HS.out.2.2.1 (fun _ h => h) (XX.out V hV)).mono ?_
            rintro e w' ⟨rfl, hB⟩
            exact ⟨by rw [hr3], hV.trans (hB.mono hV.size)⟩
          have C7 : Hid (∀ V, Below wr.heap.size wr V → Calls Tryd.prog 12 #[.agg #[.int .i64 k2, .string t2, .int .i64 n2, .slice x3 l3 e3, .slice x4 l4 e4, .slice x5 l5 e5, .slice x6 l6 e6], .agg #[.int .i64 k2, .string t2, .int .i64 n2, .slice x3 l3 e3, .slice x4 l4 e4, .slice x5 l5 e5, .slice x6 l6 e6]] V fun e w' => e = .returned (.bool true) ∧ Below wr.heap.size wr w') := Lib.hid fun V hV => by
            refine (sameNd_v (fun b => b < V.heap.size) _ _ _ _ _ _ _ _ _ _ _ _ _ _ V ta ta HS.out.1 HS.out.2.1 (fun _ h => h) (XE.out V hV) (XE.out V hV)).mono ?_
            rintro e w' ⟨rfl, hB⟩
            exact ⟨by rw [same_self], hV.trans (hB.mono hV.size)⟩
          have C8 : Hid (∀ V, Below wr.heap.size wr V → Calls Tryd.prog 14 #[.agg #[.int .i64 kz, .string sz, .slice az nz cz, .slice lz mz dz, .bool oz], .agg #[.int .i64 kz, .string sz, .slice az nz cz, .slice lz mz dz, .bool oz]] V fun e w' => e = .returned (.bool true) ∧ Below wr.heap.size wr w') := Lib.hid fun V hV => by
            refine (sameTy_v (fun b => b < V.heap.size) _ _ _ _ _ _ _ _ _ _ V X X HS.out.2.2.2 (fun _ h => h) (XX.out V hV) (XX.out V hV)).mono ?_
            rintro e w' ⟨rfl, hB⟩
            exact ⟨by rw [same_self], hV.trans (hB.mono hV.size)⟩
          have z1 : (r1 == r1) = true := by simp
          have z2 : (r2 == r2) = true := by simp
          have z3 : (r3 == r3) = true := by simp
          have hBB : Below wr.heap.size wr wr.drew := (Below.refl _ _).drew
          have F8 := Lib.hid hwr
          clear hr1 hr2 hr3 hta htb za fa HXE2 HXY2 K7 K5 K4 ER YR hwr hbz hbu hX hkx hsx
          go_wp2_with fail
          refine wp_region_held_drew (S := fun V => V.cell? ⟨w4.heap.size, 0, none⟩ = some (.int .i64 k2) ∧ V.cell? ⟨w4.heap.size, 1, none⟩ = some (.string t2) ∧ V.cell? ⟨w4.heap.size, 2, none⟩ = some (.int .i64 n2) ∧ V.cell? ⟨w4.heap.size, 3, none⟩ = some (.slice x3 l3 e3) ∧ V.cell? ⟨w4.heap.size, 4, none⟩ = some (.slice x4 l4 e4) ∧ V.cell? ⟨w4.heap.size, 5, none⟩ = some (.slice x5 l5 e5) ∧ V.cell? ⟨w4.heap.size, 6, none⟩ = some (.slice x6 l6 e6) ∧ V.cell? ⟨w5.heap.size, 0, none⟩ = some (.int .i64 k3) ∧ V.cell? ⟨w5.heap.size, 1, none⟩ = some (.string t3) ∧ V.cell? ⟨w5.heap.size, 2, none⟩ = some (.int .i64 n3) ∧ V.cell? ⟨w5.heap.size, 3, none⟩ = some (.slice y3 m3 f3) ∧ V.cell? ⟨w5.heap.size, 4, none⟩ = some (.slice y4 m4 f4) ∧ V.cell? ⟨w5.heap.size, 5, none⟩ = some (.slice y5 m5 f5) ∧ V.cell? ⟨w5.heap.size, 6, none⟩ = some (.slice y6 m6 f6) ∧ V.cell? ⟨w7.heap.size, 0, none⟩ = some (.int .i64 kz) ∧ V.cell? ⟨w7.heap.size, 1, none⟩ = some (.string sz) ∧ V.cell? ⟨w7.heap.size, 2, none⟩ = some (.slice az nz cz) ∧ V.cell? ⟨w7.heap.size, 3, none⟩ = some (.slice lz mz dz) ∧ V.cell? ⟨w7.heap.size, 4, none⟩ = some (.bool oz) ∧ V.cell? ⟨w7.heap.size + 1, 0, none⟩ = some (.int .i64 ku) ∧ V.cell? ⟨w7.heap.size + 1, 1, none⟩ = some (.string su) ∧ V.cell? ⟨w7.heap.size + 1, 2, none⟩ = some (.slice au nau cau) ∧ V.cell? ⟨w7.heap.size + 1, 3, none⟩ = some (.slice lu nlu clu) ∧ V.cell? ⟨w7.heap.size + 1, 4, none⟩ = some (.bool ou)) (by kernel_rfl) (SO.out _ hBB) (fun hHeld => ?_)
          refine wpAnyH_take (i := 0) (v := ?_) rfl (by kernel_rfl) (by kernel_rfl) (by kernel_rfl) (fun _ _ _ h => h) (Or.inl ⟨by rfl, ?_⟩) (by assumption) ?_
          rotate_left
          · intro w hSw
            (try dsimp only at hSw)
            go_simp
            try with_reducible rfl
          try simp only [List.getElem_toArray, List.getElem_cons_zero, List.getElem_cons_succ, Act.put, List.setIfInBounds_toArray, List.set_cons_zero, List.set_cons_succ]
          refine wpAnyH_take (i := 1) (v := ?_) rfl (by kernel_rfl) (by kernel_rfl) (by kernel_rfl) (fun _ _ _ h => h) (Or.inl ⟨by rfl, ?_⟩) (by assumption) ?_
          rotate_left
          · intro w hSw
            (try dsimp only at hSw)
            go_simp
            try with_reducible rfl
          try simp only [List.getElem_toArray, List.getElem_cons_zero, List.getElem_cons_succ, Act.put, List.setIfInBounds_toArray, List.set_cons_zero, List.set_cons_succ]
          refine wpAnyH_take (i := 3) (v := ?_) rfl (by kernel_rfl) (by kernel_rfl) (by kernel_rfl) (fun _ _ _ h => h) (Or.inl ⟨by rfl, ?_⟩) (by assumption) ?_
          rotate_left
          · intro w hSw
            (try dsimp only at hSw)
            go_simp
            try with_reducible rfl
          try simp only [List.getElem_toArray, List.getElem_cons_zero, List.getElem_cons_succ, Act.put, List.setIfInBounds_toArray, List.set_cons_zero, List.set_cons_succ]
          refine wpAnyH_take (i := 4) (v := ?_) rfl (by kernel_rfl) (by kernel_rfl) (by kernel_rfl) (fun _ _ _ h => h) (Or.inl ⟨by rfl, ?_⟩) (by assumption) ?_
          rotate_left
          · intro w hSw
            (try dsimp only at hSw)
            go_simp
            try with_reducible rfl
          try simp only [List.getElem_toArray, List.getElem_cons_zero, List.getElem_cons_succ, Act.put, List.setIfInBounds_toArray, List.set_cons_zero, List.set_cons_succ]
          refine wpAnyH_ready (rs := [2]) (by kernel_rfl) (by simp) ?_
          refine AllReadyH.cons (by simp only [List.getElem?_toArray, List.getElem?_cons_zero, List.getElem?_cons_succ]; rfl) (fun K hK => ?_) AllReadyH.nil
          go_simp
          (go_at_call 12; with_reducible refine (C1.out _ hBB).mono ?_; rintro e9 w9 ⟨rfl, hBB⟩)
          go_wp2_with fail
          refine hK.out _ _ (by first | assumption | exact SO.out _ hBB) (fun hHeld => ?_)
          try simp only [List.getElem_toArray, List.getElem_cons_zero, List.getElem_cons_succ, Act.put, List.setIfInBounds_toArray, List.set_cons_zero, List.set_cons_succ]
          refine wpAnyH_ready (rs := [5]) (by kernel_rfl) (by simp) ?_
          refine AllReadyH.cons (by simp only [List.getElem?_toArray, List.getElem?_cons_zero, List.getElem?_cons_succ]; rfl) (fun K hK => ?_) AllReadyH.nil
          go_simp
          (go_at_call 13; with_reducible refine (C2.out _ hBB).mono ?_; rintro e9 w9 ⟨rfl, hBB⟩)
          go_wp2_with fail
          refine hK.out _ _ (by first | assumption | exact SO.out _ hBB) (fun hHeld => ?_)
          try simp only [List.getElem_toArray, List.getElem_cons_zero, List.getElem_cons_succ, Act.put, List.setIfInBounds_toArray, List.set_cons_zero, List.set_cons_succ]
          refine wpAnyH_take (i := 6) (v := ?_) rfl (by kernel_rfl) (by kernel_rfl) (by kernel_rfl) (fun _ _ _ h => h) (Or.inl ⟨by rfl, ?_⟩) (by assumption) ?_
          rotate_left
          · intro w hSw
            (try dsimp only at hSw)
            go_simp
            try with_reducible rfl
          try simp only [List.getElem_toArray, List.getElem_cons_zero, List.getElem_cons_succ, Act.put, List.setIfInBounds_toArray, List.set_cons_zero, List.set_cons_succ]
          refine wpAnyH_take (i := 7) (v := ?_) rfl (by kernel_rfl) (by kernel_rfl) (by kernel_rfl) (fun _ _ _ h => h) (Or.inl ⟨by rfl, ?_⟩) (by assumption) ?_
          rotate_left
          · intro w hSw
            (try dsimp only at hSw)
            go_simp
            try with_reducible rfl
          try simp only [List.getElem_toArray, List.getElem_cons_zero, List.getElem_cons_succ, Act.put, List.setIfInBounds_toArray, List.set_cons_zero, List.set_cons_succ]
          refine wpAnyH_take (i := 8) (v := ?_) rfl (by kernel_rfl) (by kernel_rfl) (by kernel_rfl) (fun _ _ _ h => h) (Or.inl ⟨by rfl, ?_⟩) (by assumption) ?_
          rotate_left
          · intro w hSw
            (try dsimp only at hSw)
            go_simp
            try with_reducible rfl
          try simp only [List.getElem_toArray, List.getElem_cons_zero, List.getElem_cons_succ, Act.put, List.setIfInBounds_toArray, List.set_cons_zero, List.set_cons_succ]
          refine wpAnyH_take (i := 9) (v := ?_) rfl (by kernel_rfl) (by kernel_rfl) (by kernel_rfl) (fun _ _ _ h => h) (Or.inl ⟨by rfl, ?_⟩) (by assumption) ?_
          rotate_left
          · intro w hSw
            (try dsimp only at hSw)
            go_simp
            try with_reducible rfl
          try simp only [List.getElem_toArray, List.getElem_cons_zero, List.getElem_cons_succ, Act.put, List.setIfInBounds_toArray, List.set_cons_zero, List.set_cons_succ]
          refine wpAnyH_take (i := 11) (v := ?_) rfl (by kernel_rfl) (by kernel_rfl) (by kernel_rfl) (fun _ _ _ h => h) (Or.inl ⟨by rfl, ?_⟩) (by assumption) ?_
          rotate_left
          · intro w hSw
            (try dsimp only at hSw)
            go_simp
            try with_reducible rfl
          try simp only [List.getElem_toArray, List.getElem_cons_zero, List.getElem_cons_succ, Act.put, List.setIfInBounds_toArray, List.set_cons_zero, List.set_cons_succ]
          refine wpAnyH_take (i := 12) (v := ?_) rfl (by kernel_rfl) (by kernel_rfl) (by kernel_rfl) (fun _ _ _ h => h) (Or.inl ⟨by rfl, ?_⟩) (by assumption) ?_
          rotate_left
          · intro w hSw
            (try dsimp only at hSw)
            go_simp
            try with_reducible rfl
          try simp only [List.getElem_toArray, List.getElem_cons_zero, List.getElem_cons_succ, Act.put, List.setIfInBounds_toArray, List.set_cons_zero, List.set_cons_succ]
          refine wpAnyH_ready (rs := [10]) (by kernel_rfl) (by simp) ?_
          refine AllReadyH.cons (by simp only [List.getElem?_toArray, List.getElem?_cons_zero, List.getElem?_cons_succ]; rfl) (fun K hK => ?_) AllReadyH.nil
          go_simp
          (go_at_call 14; with_reducible refine (C3.out _ hBB).mono ?_; rintro e9 w9 ⟨rfl, hBB⟩)
          go_wp2_with fail
          refine hK.out _ _ (by first | assumption | exact SO.out _ hBB) (fun hHeld => ?_)
          try simp only [List.getElem_toArray, List.getElem_cons_zero, List.getElem_cons_succ, Act.put, List.setIfInBounds_toArray, List.set_cons_zero, List.set_cons_succ]
          refine wpAnyH_ready (rs := [13]) (by kernel_rfl) (by simp) ?_
          refine AllReadyH.cons (by simp only [List.getElem?_toArray, List.getElem?_cons_zero, List.getElem?_cons_succ]; rfl) (fun K hK => ?_) AllReadyH.nil
          go_simp
          (go_at_call 15; with_reducible refine (C4.out _ hBB).mono ?_; rintro e9 w9 ⟨rfl, hBB⟩)
          go_wp2_with fail
          refine hK.out _ _ (by first | assumption | exact SO.out _ hBB) (fun hHeld => ?_)
          try simp only [List.getElem_toArray, List.getElem_cons_zero, List.getElem_cons_succ, Act.put, List.setIfInBounds_toArray, List.set_cons_zero, List.set_cons_succ]
          refine wpAnyH_take (i := 14) (v := ?_) rfl (by kernel_rfl) (by kernel_rfl) (by kernel_rfl) (fun _ _ _ h => h) (Or.inl ⟨by rfl, ?_⟩) (by assumption) ?_
          rotate_left
          · intro w hSw
            (try dsimp only at hSw)
            go_simp
            try with_reducible rfl
          try simp only [List.getElem_toArray, List.getElem_cons_zero, List.getElem_cons_succ, Act.put, List.setIfInBounds_toArray, List.set_cons_zero, List.set_cons_succ]
          refine wpAnyH_take (i := 15) (v := ?_) rfl (by kernel_rfl) (by kernel_rfl) (by kernel_rfl) (fun _ _ _ h => h) (Or.inl ⟨by rfl, ?_⟩) (by assumption) ?_
          rotate_left
          · intro w hSw
            (try dsimp only at hSw)
            go_simp
            try with_reducible rfl
          try simp only [List.getElem_toArray, List.getElem_cons_zero, List.getElem_cons_succ, Act.put, List.setIfInBounds_toArray, List.set_cons_zero, List.set_cons_succ]
          refine wpAnyH_take (i := 16) (v := ?_) rfl (by kernel_rfl) (by kernel_rfl) (by kernel_rfl) (fun _ _ _ h => h) (Or.inl ⟨by rfl, ?_⟩) (by assumption) ?_
          rotate_left
          · intro w hSw
            (try dsimp only at hSw)
            go_simp
            try with_reducible rfl
          try simp only [List.getElem_toArray, List.getElem_cons_zero, List.getElem_cons_succ, Act.put, List.setIfInBounds_toArray, List.set_cons_zero, List.set_cons_succ]
          refine wpAnyH_take (i := 17) (v := ?_) rfl (by kernel_rfl) (by kernel_rfl) (by kernel_rfl) (fun _ _ _ h => h) (Or.inl ⟨by rfl, ?_⟩) (by assumption) ?_
          rotate_left
          · intro w hSw
            (try dsimp only at hSw)
            go_simp
            try with_reducible rfl
          try simp only [List.getElem_toArray, List.getElem_cons_zero, List.getElem_cons_succ, Act.put, List.setIfInBounds_toArray, List.set_cons_zero, List.set_cons_succ]
          refine wpAnyH_take (i := 19) (v := ?_) rfl (by kernel_rfl) (by kernel_rfl) (by kernel_rfl) (fun _ _ _ h => h) (Or.inl ⟨by rfl, ?_⟩) (by assumption) ?_
          rotate_left
          · intro w hSw
            (try dsimp only at hSw)
            go_simp
            try with_reducible rfl
          try simp only [List.getElem_toArray, List.getElem_cons_zero, List.getElem_cons_succ, Act.put, List.setIfInBounds_toArray, List.set_cons_zero, List.set_cons_succ]
          refine wpAnyH_ready (rs := [18]) (by kernel_rfl) (by simp) ?_
          refine AllReadyH.cons (by simp only [List.getElem?_toArray, List.getElem?_cons_zero, List.getElem?_cons_succ]; rfl) (fun K hK => ?_) AllReadyH.nil
          go_simp
          (go_at_call 16; with_reducible refine (C5.out _ hBB).mono ?_; rintro e9 w9 ⟨rfl, hBB⟩)
          go_wp2_with fail
          refine hK.out _ _ (by first | assumption | exact SO.out _ hBB) (fun hHeld => ?_)
          try simp only [List.getElem_toArray, List.getElem_cons_zero, List.getElem_cons_succ, Act.put, List.setIfInBounds_toArray, List.set_cons_zero, List.set_cons_succ]
          refine wpAnyH_ready (rs := [20]) (by kernel_rfl) (by simp) ?_
          refine AllReadyH.cons (by simp only [List.getElem?_toArray, List.getElem?_cons_zero, List.getElem?_cons_succ]; rfl) (fun K hK => ?_) AllReadyH.nil
          go_simp
          (go_at_call 17; with_reducible refine (C6.out _ hBB).mono ?_; rintro e9 w9 ⟨rfl, hBB⟩)
          go_wp2_with fail
          refine hK.out _ _ (by first | assumption | exact SO.out _ hBB) (fun hHeld => ?_)
          try simp only [List.getElem_toArray, List.getElem_cons_zero, List.getElem_cons_succ, Act.put, List.setIfInBounds_toArray, List.set_cons_zero, List.set_cons_succ]
          refine wpAnyH_take (i := 21) (v := ?_) rfl (by kernel_rfl) (by kernel_rfl) (by kernel_rfl) (fun _ _ _ h => h) (Or.inl ⟨by rfl, ?_⟩) (by assumption) ?_
          rotate_left
          · intro w hSw
            (try dsimp only at hSw)
            go_simp
            try with_reducible rfl
          try simp only [List.getElem_toArray, List.getElem_cons_zero, List.getElem_cons_succ, Act.put, List.setIfInBounds_toArray, List.set_cons_zero, List.set_cons_succ]
          refine wpAnyH_take (i := 22) (v := ?_) rfl (by kernel_rfl) (by kernel_rfl) (by kernel_rfl) (fun _ _ _ h => h) (Or.inl ⟨by rfl, ?_⟩) (by assumption) ?_
          rotate_left
          · intro w hSw
            (try dsimp only at hSw)
            go_simp
            try with_reducible rfl
          try simp only [List.getElem_toArray, List.getElem_cons_zero, List.getElem_cons_succ, Act.put, List.setIfInBounds_toArray, List.set_cons_zero, List.set_cons_succ]
          refine wpAnyH_take (i := 23) (v := ?_) rfl (by kernel_rfl) (by kernel_rfl) (by kernel_rfl) (fun _ _ _ h => h) (Or.inl ⟨by rfl, ?_⟩) (by assumption) ?_
          rotate_left
          · intro w hSw
            (try dsimp only at hSw)
            go_simp
            try with_reducible rfl
          try simp only [List.getElem_toArray, List.getElem_cons_zero, List.getElem_cons_succ, Act.put, List.setIfInBounds_toArray, List.set_cons_zero, List.set_cons_succ]
          refine wpAnyH_take (i := 24) (v := ?_) rfl (by kernel_rfl) (by kernel_rfl) (by kernel_rfl) (fun _ _ _ h => h) (Or.inl ⟨by rfl, ?_⟩) (by assumption) ?_
          rotate_left
          · intro w hSw
            (try dsimp only at hSw)
            go_simp
            try with_reducible rfl
          try simp only [List.getElem_toArray, List.getElem_cons_zero, List.getElem_cons_succ, Act.put, List.setIfInBounds_toArray, List.set_cons_zero, List.set_cons_succ]
          refine wpAnyH_take (i := 25) (v := ?_) rfl (by kernel_rfl) (by kernel_rfl) (by kernel_rfl) (fun _ _ _ h => h) (Or.inl ⟨by rfl, ?_⟩) (by assumption) ?_
          rotate_left
          · intro w hSw
            (try dsimp only at hSw)
            go_simp
            try with_reducible rfl
          try simp only [List.getElem_toArray, List.getElem_cons_zero, List.getElem_cons_succ, Act.put, List.setIfInBounds_toArray, List.set_cons_zero, List.set_cons_succ]
          refine wpAnyH_ready (rs := [26]) (by kernel_rfl) (by simp) ?_
          refine AllReadyH.cons (by simp only [List.getElem?_toArray, List.getElem?_cons_zero, List.getElem?_cons_succ]; rfl) (fun K hK => ?_) AllReadyH.nil
          go_simp
          (go_at_call 12; with_reducible refine (C7.out _ hBB).mono ?_; rintro e9 w9 ⟨rfl, hBB⟩)
          go_wp2_with fail
          refine hK.out _ _ (by first | assumption | exact SO.out _ hBB) (fun hHeld => ?_)
          try simp only [List.getElem_toArray, List.getElem_cons_zero, List.getElem_cons_succ, Act.put, List.setIfInBounds_toArray, List.set_cons_zero, List.set_cons_succ]
          refine wpAnyH_take (i := 27) (v := ?_) rfl (by kernel_rfl) (by kernel_rfl) (by kernel_rfl) (fun _ _ _ h => h) (Or.inl ⟨by rfl, ?_⟩) (by assumption) ?_
          rotate_left
          · intro w hSw
            (try dsimp only at hSw)
            go_simp
            try with_reducible rfl
          try simp only [List.getElem_toArray, List.getElem_cons_zero, List.getElem_cons_succ, Act.put, List.setIfInBounds_toArray, List.set_cons_zero, List.set_cons_succ]
          refine wpAnyH_take (i := 28) (v := ?_) rfl (by kernel_rfl) (by kernel_rfl) (by kernel_rfl) (fun _ _ _ h => h) (Or.inl ⟨by rfl, ?_⟩) (by assumption) ?_
          rotate_left
          · intro w hSw
            (try dsimp only at hSw)
            go_simp
            try with_reducible rfl
          try simp only [List.getElem_toArray, List.getElem_cons_zero, List.getElem_cons_succ, Act.put, List.setIfInBounds_toArray, List.set_cons_zero, List.set_cons_succ]
          refine wpAnyH_take (i := 29) (v := ?_) rfl (by kernel_rfl) (by kernel_rfl) (by kernel_rfl) (fun _ _ _ h => h) (Or.inl ⟨by rfl, ?_⟩) (by assumption) ?_
          rotate_left
          · intro w hSw
            (try dsimp only at hSw)
            go_simp
            try with_reducible rfl
          try simp only [List.getElem_toArray, List.getElem_cons_zero, List.getElem_cons_succ, Act.put, List.setIfInBounds_toArray, List.set_cons_zero, List.set_cons_succ]
          refine wpAnyH_take (i := 30) (v := ?_) rfl (by kernel_rfl) (by kernel_rfl) (by kernel_rfl) (fun _ _ _ h => h) (Or.inl ⟨by rfl, ?_⟩) (by assumption) ?_
          rotate_left
          · intro w hSw
            (try dsimp only at hSw)
            go_simp
            try with_reducible rfl
          try simp only [List.getElem_toArray, List.getElem_cons_zero, List.getElem_cons_succ, Act.put, List.setIfInBounds_toArray, List.set_cons_zero, List.set_cons_succ]
          refine wpAnyH_ready (rs := [31]) (by kernel_rfl) (by simp) ?_
          refine AllReadyH.cons (by simp only [List.getElem?_toArray, List.getElem?_cons_zero, List.getElem?_cons_succ]; rfl) (fun K hK => ?_) AllReadyH.nil
          go_simp
          (go_at_call 14; with_reducible refine (C8.out _ hBB).mono ?_; rintro e9 w9 ⟨rfl, hBB⟩)
          go_wp2_with fail
          refine hK.out _ _ (by first | assumption | exact SO.out _ hBB) (fun hHeld => ?_)
          try simp only [List.getElem_toArray, List.getElem_cons_zero, List.getElem_cons_succ, Act.put, List.setIfInBounds_toArray, List.set_cons_zero, List.set_cons_succ]
          refine wpAnyH_take (i := 32) (v := ?_) rfl (by kernel_rfl) (by kernel_rfl) (by kernel_rfl) (fun _ _ _ h => h) (Or.inl ⟨by rfl, ?_⟩) (by assumption) ?_
          rotate_left
          · intro w hSw
            (try dsimp only at hSw)
            go_simp
            try with_reducible rfl
          try simp only [List.getElem_toArray, List.getElem_cons_zero, List.getElem_cons_succ, Act.put, List.setIfInBounds_toArray, List.set_cons_zero, List.set_cons_succ]
          refine wpAnyH_take (i := 33) (v := ?_) rfl (by kernel_rfl) (by kernel_rfl) (by kernel_rfl) (fun _ _ _ h => h) (Or.inl ⟨by rfl, ?_⟩) (by assumption) ?_
          rotate_left
          · intro w hSw
            (try dsimp only at hSw)
            go_simp
            try with_reducible rfl
          try simp only [List.getElem_toArray, List.getElem_cons_zero, List.getElem_cons_succ, Act.put, List.setIfInBounds_toArray, List.set_cons_zero, List.set_cons_succ]
          refine wpAnyH_done (by kernel_rfl) ?_ _
          go_wp2_with fail
          go_ret
          exact ⟨by rfl, F8.out.trans (hBB.mono F8.out.size)⟩
end Go.Proofs.YtoopndgdaiblpaaDoor
