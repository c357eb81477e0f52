/- trefoillaw06.GraphTrims. -/
import Derived.Test.YtelmigkbofnicaaDoorTg
import Derived.Test.YtelmigkbofnicaaDoorRe
import Derived.Test.YtelmigkbofnicaaDoorGg
import Derived.Test.YtelmigkbofnicaaDoorGv
import Derived.Test.YtelmigkbofnicaaDoorGj
namespace Go.Proofs.YtelmigkbofnicaaDoor
open Go.ChangeShapes Go.WideShapes Go.ChangeAt Go.RowKit

theorem Trimmed.sized {G : List GN} {r : Nat} {L : List Nat} (h : Trimmed G r L) (sG : Sized G) : Sized (trimL G L) := fun x hx => by
  obtain ⟨a, y, _, hy, rfl⟩ := h.back hx
  exact sG y (List.mem_of_getElem? hy)

set_option linter.unusedSimpArgs false in
set_option maxHeartbeats 8000000 in
set_option maxRecDepth 100000 in
theorem trimslaw_any (S : Nat → Prop) (vg vh : Value) (r s : Int) (G H : List GN) (w : World) (T : TypeId) (ev : Value) (hg : w.cell? ⟨0, 0, none⟩ = some (.iface T ev)) (hgl : 0 < w.heap.size) (hG : GrAt w S vg G) (hH : GrAt w S vh H) (hS : ∀ b, S b → b < w.heap.size) (sG : Sized G) (sH : Sized H)
    (bG : greatN G ≤ 4611686018427387904) (bH : greatN H ≤ 4611686018427387904) :
    Calls Tryd.prog 5 #[.agg #[vg, .int .i64 r], .agg #[vh, .int .i64 s]] w fun e w' => e = .returned (.bool true) ∧ Below w.heap.size w w' := by
  obtain ⟨xg, cg, gg, og, rfl, _, _⟩ := hG.open_
  obtain ⟨xh, ch, gh, oh, rfl, _, _⟩ := hH.open_
  obtain ⟨n, en⟩ : ∃ n, G.length = n := ⟨_, rfl⟩
  obtain ⟨m, em⟩ : ∃ m, H.length = m := ⟨_, rfl⟩
  rw [en] at hG ⊢
  rw [em] at hH ⊢
  obtain ⟨V, hV⟩ : ∃ V, (w.alloc (.cells #[.slice xg n cg, .int .i64 r] 24)).alloc (.cells #[.slice xh m ch, .int .i64 s] 24) = V := ⟨_, rfl⟩
  have BV : Below w.heap.size w V := by rw [← hV]; exact ((Below.refl _ _).alloc (Nat.le_refl _) _).alloc (by simp) _
  have sV : V.heap.size = w.heap.size + 2 := by rw [← hV]; simp
  have f0 : V.heap[w.heap.size]? = some (.cells #[.slice xg n cg, .int .i64 r] 24) := by rw [← hV, heap_old (by simp)]; exact heap_last rfl
  have f1 : V.heap[w.heap.size + 1]? = some (.cells #[.slice xh m ch, .int .i64 s] 24) := by rw [← hV]; exact heap_last (by simp)
  have X : Hid (∀ U, Below V.heap.size V U → GrAt U S (.slice xg n cg) G ∧ GrAt U S (.slice xh m ch) H ∧ (∀ b, S b → b < U.heap.size) ∧ U.cell? ⟨0, 0, none⟩ = some (.iface T ev) ∧ 0 < U.heap.size ∧ U.heap[w.heap.size]? = some (.cells #[.slice xg n cg, .int .i64 r] 24) ∧ U.heap[w.heap.size + 1]? = some (.cells #[.slice xh m ch, .int .i64 s] 24) ∧ Below w.heap.size w U ∧ w.heap.size + 2 ≤ U.heap.size) := Lib.hid fun U hU => by
    have hs := hU.size
    have hBU : Below w.heap.size w U := BV.trans (hU.mono (by omega))
    exact ⟨hG.carry (keeps_of hBU hS) fun _ h => h, hH.carry (keeps_of hBU hS) fun _ h => h, fun b hb => Nat.lt_of_lt_of_le (hS b hb) hBU.size, (hBU.cell (p := ⟨_, 0, none⟩) hgl).trans hg, Nat.lt_of_lt_of_le hgl hBU.size, (hU.block _ (by omega)).trans f0, (hU.block _ (by omega)).trans f1, hBU, by omega⟩
  have Z := Lib.hid (And.intro sG (And.intro sH (And.intro bG (And.intro bH hS))))
  have HGO := Lib.hid (And.intro en em)
  clear hg hgl hG hH hS sG sH bG bH f0 f1 BV en em
  go_enter Tryd.func5, Tryd.ntmps5
  have C0 := Lib.hid (alive_any V T ev (X.out V (Below.refl _ _)).2.2.2.1 (X.out V (Below.refl _ _)).2.2.2.2.1)
  go_wp2_with fail
  refine C0.out.mono ?_
  rintro e0 W0 ⟨rfl, hB0⟩
  have HB0 := Lib.hid hB0
  have s0 := hB0.size
  clear C0 hB0 hV
  have x := X.out W0 HB0.out
  have a0 := Lib.cell_of_heap x.2.2.2.2.2.1 0
  have a1 := Lib.cell_of_heap x.2.2.2.2.2.1 1
  have a2 := Lib.cell_of_heap x.2.2.2.2.2.2.1 0
  have a3 := Lib.cell_of_heap x.2.2.2.2.2.2.1 1
  simp only [List.getElem?_toArray, List.getElem?_cons_zero, List.getElem?_cons_succ] at a0 a1 a2 a3
  have hl0 : w.heap.size < W0.heap.size := by have := x.2.2.2.2.2.2.2.2; omega
  have hl1 : w.heap.size + 1 < W0.heap.size := by have := x.2.2.2.2.2.2.2.2; omega
  have C := Lib.hid (great_any S (.slice xg n cg) r G W0 x.1 x.2.2.1 Z.out.2.2.1)
  go_wp2_with fail
  refine C.out.mono ?_
  rintro e1 W1 ⟨rfl, hB1⟩
  have s1 := hB1.size
  have HB1 := Lib.hid (HB0.out.trans (hB1.mono (by omega)))
  clear C hB1
  clear a0 a1 a2 a3 x hl0 hl1
  have x := X.out W1 HB1.out
  have a0 := Lib.cell_of_heap x.2.2.2.2.2.1 0
  have a1 := Lib.cell_of_heap x.2.2.2.2.2.1 1
  have a2 := Lib.cell_of_heap x.2.2.2.2.2.2.1 0
  have a3 := Lib.cell_of_heap x.2.2.2.2.2.2.1 1
  simp only [List.getElem?_toArray, List.getElem?_cons_zero, List.getElem?_cons_succ] at a0 a1 a2 a3
  have hl0 : w.heap.size < W1.heap.size := by have := x.2.2.2.2.2.2.2.2; omega
  have hl1 : w.heap.size + 1 < W1.heap.size := by have := x.2.2.2.2.2.2.2.2; omega
  by_cases hG : (500 : Int) < (greatN G : Int)
  · go_wp2_with fail
    go_ret
    exact ⟨rfl, (X.out _ HB1.out).2.2.2.2.2.2.2.1⟩
  · have egG : decide ((500 : Int) < (greatN G : Int)) = false := by simp [hG]
    clear a0 a1 a2 a3 x hl0 hl1
    have x := X.out W1 HB1.out
    have a0 := Lib.cell_of_heap x.2.2.2.2.2.1 0
    have a1 := Lib.cell_of_heap x.2.2.2.2.2.1 1
    have a2 := Lib.cell_of_heap x.2.2.2.2.2.2.1 0
    have a3 := Lib.cell_of_heap x.2.2.2.2.2.2.1 1
    simp only [List.getElem?_toArray, List.getElem?_cons_zero, List.getElem?_cons_succ] at a0 a1 a2 a3
    have hl0 : w.heap.size < W1.heap.size := by have := x.2.2.2.2.2.2.2.2; omega
    have hl1 : w.heap.size + 1 < W1.heap.size := by have := x.2.2.2.2.2.2.2.2; omega
    have C := Lib.hid (great_any S (.slice xh m ch) s H W1 x.2.1 x.2.2.1 Z.out.2.2.2.1)
    go_wp2_with fail
    refine C.out.mono ?_
    rintro e2 W2 ⟨rfl, hB2⟩
    have s2 := hB2.size
    have HB2 := Lib.hid (HB1.out.trans (hB2.mono (by omega)))
    clear C hB2
    clear a0 a1 a2 a3 x hl0 hl1
    have x := X.out W2 HB2.out
    have a0 := Lib.cell_of_heap x.2.2.2.2.2.1 0
    have a1 := Lib.cell_of_heap x.2.2.2.2.2.1 1
    have a2 := Lib.cell_of_heap x.2.2.2.2.2.2.1 0
    have a3 := Lib.cell_of_heap x.2.2.2.2.2.2.1 1
    simp only [List.getElem?_toArray, List.getElem?_cons_zero, List.getElem?_cons_succ] at a0 a1 a2 a3
    have hl0 : w.heap.size < W2.heap.size := by have := x.2.2.2.2.2.2.2.2; omega
    have hl1 : w.heap.size + 1 < W2.heap.size := by have := x.2.2.2.2.2.2.2.2; omega
    by_cases hH : (500 : Int) < (greatN H : Int)
    · go_wp2_with fail
      go_ret
      exact ⟨rfl, (X.out _ HB2.out).2.2.2.2.2.2.2.1⟩
    · have egH : decide ((500 : Int) < (greatN H : Int)) = false := by simp [hH]
      clear a0 a1 a2 a3 x hl0 hl1
      have x := X.out W2 HB2.out
      have a0 := Lib.cell_of_heap x.2.2.2.2.2.1 0
      have a1 := Lib.cell_of_heap x.2.2.2.2.2.1 1
      have a2 := Lib.cell_of_heap x.2.2.2.2.2.2.1 0
      have a3 := Lib.cell_of_heap x.2.2.2.2.2.2.1 1
      simp only [List.getElem?_toArray, List.getElem?_cons_zero, List.getElem?_cons_succ] at a0 a1 a2 a3
      have hl0 : w.heap.size < W2.heap.size := by have := x.2.2.2.2.2.2.2.2; omega
      have hl1 : w.heap.size + 1 < W2.heap.size := by have := x.2.2.2.2.2.2.2.2; omega
      obtain ⟨cG, hcG⟩ : ∃ c, checkG G r = c := ⟨_, rfl⟩
      have hwG := checkG_ways G r
      have C := Lib.hid (check_any S (.slice xg n cg) r G W2 T ev x.2.2.2.1 x.2.2.2.2.1 x.1 x.2.2.1 Z.out.1)
      rw [hcG] at C hwG
      go_wp2_with fail
      refine C.out.mono ?_
      rintro e3 W3 ⟨rfl, hB3⟩
      have s3 := hB3.size
      have HB3 := Lib.hid (HB2.out.trans (hB3.mono (by omega)))
      clear C hB3
      clear a0 a1 a2 a3 x hl0 hl1
      have x := X.out W3 HB3.out
      have a0 := Lib.cell_of_heap x.2.2.2.2.2.1 0
      have a1 := Lib.cell_of_heap x.2.2.2.2.2.1 1
      have a2 := Lib.cell_of_heap x.2.2.2.2.2.2.1 0
      have a3 := Lib.cell_of_heap x.2.2.2.2.2.2.1 1
      simp only [List.getElem?_toArray, List.getElem?_cons_zero, List.getElem?_cons_succ] at a0 a1 a2 a3
      have hl0 : w.heap.size < W3.heap.size := by have := x.2.2.2.2.2.2.2.2; omega
      have hl1 : w.heap.size + 1 < W3.heap.size := by have := x.2.2.2.2.2.2.2.2; omega
      rcases hwG with rfl | rfl | rfl
      rotate_left
      · go_wp2_with fail
        go_ret
        exact ⟨rfl, (X.out _ HB3.out).2.2.2.2.2.2.2.1⟩
      · go_wp2_with fail
        go_ret
        exact ⟨rfl, (X.out _ HB3.out).2.2.2.2.2.2.2.1⟩
      · have HCG := Lib.hid hcG
        clear hcG
        clear a0 a1 a2 a3 x hl0 hl1
        have x := X.out W3 HB3.out
        have a0 := Lib.cell_of_heap x.2.2.2.2.2.1 0
        have a1 := Lib.cell_of_heap x.2.2.2.2.2.1 1
        have a2 := Lib.cell_of_heap x.2.2.2.2.2.2.1 0
        have a3 := Lib.cell_of_heap x.2.2.2.2.2.2.1 1
        simp only [List.getElem?_toArray, List.getElem?_cons_zero, List.getElem?_cons_succ] at a0 a1 a2 a3
        have hl0 : w.heap.size < W3.heap.size := by have := x.2.2.2.2.2.2.2.2; omega
        have hl1 : w.heap.size + 1 < W3.heap.size := by have := x.2.2.2.2.2.2.2.2; omega
        obtain ⟨cH, hcH⟩ : ∃ c, checkG H s = c := ⟨_, rfl⟩
        have hwH := checkG_ways H s
        have C := Lib.hid (check_any S (.slice xh m ch) s H W3 T ev x.2.2.2.1 x.2.2.2.2.1 x.2.1 x.2.2.1 Z.out.2.1)
        rw [hcH] at C hwH
        go_wp2_with fail
        refine C.out.mono ?_
        rintro e4 W4 ⟨rfl, hB4⟩
        have s4 := hB4.size
        have HB4 := Lib.hid (HB3.out.trans (hB4.mono (by omega)))
        clear C hB4
        clear a0 a1 a2 a3 x hl0 hl1
        have x := X.out W4 HB4.out
        have a0 := Lib.cell_of_heap x.2.2.2.2.2.1 0
        have a1 := Lib.cell_of_heap x.2.2.2.2.2.1 1
        have a2 := Lib.cell_of_heap x.2.2.2.2.2.2.1 0
        have a3 := Lib.cell_of_heap x.2.2.2.2.2.2.1 1
        simp only [List.getElem?_toArray, List.getElem?_cons_zero, List.getElem?_cons_succ] at a0 a1 a2 a3
        have hl0 : w.heap.size < W4.heap.size := by have := x.2.2.2.2.2.2.2.2; omega
        have hl1 : w.heap.size + 1 < W4.heap.size := by have := x.2.2.2.2.2.2.2.2; omega
        rcases hwH with rfl | rfl | rfl
        rotate_left
        · go_wp2_with fail
          go_ret
          exact ⟨rfl, (X.out _ HB4.out).2.2.2.2.2.2.2.1⟩
        · go_wp2_with fail
          go_ret
          exact ⟨rfl, (X.out _ HB4.out).2.2.2.2.2.2.2.1⟩
        · have HCH := Lib.hid hcH
          clear hcH
          clear a0 a1 a2 a3 x hl0 hl1
          have x := X.out W4 HB4.out
          have a0 := Lib.cell_of_heap x.2.2.2.2.2.1 0
          have a1 := Lib.cell_of_heap x.2.2.2.2.2.1 1
          have a2 := Lib.cell_of_heap x.2.2.2.2.2.2.1 0
          have a3 := Lib.cell_of_heap x.2.2.2.2.2.2.1 1
          simp only [List.getElem?_toArray, List.getElem?_cons_zero, List.getElem?_cons_succ] at a0 a1 a2 a3
          have hl0 : w.heap.size < W4.heap.size := by have := x.2.2.2.2.2.2.2.2; omega
          have hl1 : w.heap.size + 1 < W4.heap.size := by have := x.2.2.2.2.2.2.2.2; omega
          obtain ⟨rn, rfl⟩ : ∃ rn : Nat, r = (rn : Int) := ⟨r.toNat, by have := inside_iff.1 (checkG_ok.1 HCG.out).2.1; omega⟩
          have grG := great_len (l := G) (k := 500) (by omega)
          have grH := great_len (l := H) (k := 500) (by omega)
          have TR := Lib.hid (trimmed (r := rn) HCG.out (fun x hx => by have := grG.2.1 x hx; omega) (by omega))
          have C := Lib.hid (trim_any S (.slice xg n cg) (rn : Int) G W4 T ev x.2.2.2.1 x.2.2.2.2.1 x.1 x.2.2.1 Z.out.1 (by omega) (fun x hx => by have := grG.2.1 x hx; omega) HCG.out)
          rw [show ((rn : Int)).toNat = rn from rfl] at C
          obtain ⟨TL, hTL⟩ : ∃ TL, trimL G (reachL G rn) = TL := ⟨_, rfl⟩
          have tl : TL.length ≤ 2000 := by rw [← hTL, TR.out.tlen]; have := Gu.nodup_le TR.out.nd TR.out.lt; omega
          have tz : Sized TL := by rw [← hTL]; exact TR.out.sized Z.out.1
          have t1 : checkG TL 0 = 0 := by rw [← hTL]; exact TR.out.check
          have t2 : sameGr G (rn : Int) TL 0 = true := by rw [← hTL]; exact TR.out.same
          have t3 : trimL TL (reachL TL 0) = TL := by rw [← hTL]; exact TR.out.twice
          have t4 : ∀ x ∈ TL, x.args.length ≤ 2000 := by rw [← hTL]; exact TR.out.short2
          have t5 : (reachG G (rn : Int)).length = TL.length := by
            rw [← hTL, TR.out.tlen]
            unfold reachG
            rw [if_pos HCG.out]; rfl
          rw [hTL] at C
          have HT := Lib.hid (And.intro tl (And.intro tz (And.intro t1 (And.intro t2 (And.intro t3 (And.intro t4 t5))))))
          clear hTL tl tz t1 t2 t3 t4 t5
          go_wp2_with fail
          refine C.out.mono ?_
          rintro e5 W5 ⟨x3, m3, c3, rfl, hm3, hr3, hB5⟩
          clear C
          clear a0 a1 a2 a3 x hl0 hl1
          have s5 := hB5.size
          have HB5 := Lib.hid (HB4.out.trans (hB5.mono (by omega)))
          have HR3 := Lib.hid (And.intro hm3 hr3)
          clear hB5 hm3 hr3
          go_wp2_with fail
          obtain ⟨tb, htb⟩ : ∃ tb, W5.heap.size = tb := ⟨_, rfl⟩
          obtain ⟨W6, hW6⟩ : ∃ W6, W5.alloc (.cells #[.slice x3 m3 c3, .int .i64 0] 24) = W6 := ⟨_, rfl⟩
          rw [hW6, htb]
          have B6 : Below W5.heap.size W5 W6 := by rw [← hW6]; exact (Below.refl _ _).alloc (Nat.le_refl _) _
          have b6 : W6.heap[tb]? = some (.cells #[.slice x3 m3 c3, .int .i64 0] 24) := by rw [← hW6, ← htb]; exact heap_last rfl
          have s6 : W6.heap.size = tb + 1 := by rw [← hW6, ← htb]; simp
          clear hW6
          have HB6 := Lib.hid (HB5.out.trans (B6.mono HB5.out.size))
          have hT6 : GrAt W6 (fun b => b < W6.heap.size) (.slice x3 m3 c3) TL := HR3.out.2.carry (keeps_of B6 fun b hb => hb.2) fun b hb => by omega
          have XY : Hid (∀ U, Below W6.heap.size W6 U → GrAt U (fun b => b < W6.heap.size) (.slice xg n cg) G ∧ GrAt U (fun b => b < W6.heap.size) (.slice xh m ch) H ∧ GrAt U (fun b => b < W6.heap.size) (.slice x3 m3 c3) TL ∧ U.cell? ⟨0, 0, none⟩ = some (.iface T ev) ∧ 0 < U.heap.size ∧ U.heap[w.heap.size]? = some (.cells #[.slice xg n cg, .int .i64 (rn : Int)] 24) ∧ U.heap[w.heap.size + 1]? = some (.cells #[.slice xh m ch, .int .i64 s] 24) ∧ U.heap[tb]? = some (.cells #[.slice x3 m3 c3, .int .i64 0] 24) ∧ Below w.heap.size w U) := Lib.hid fun U hU => by
            have x := X.out U (HB6.out.trans (hU.mono HB6.out.size))
            have y := X.out W6 HB6.out
            exact ⟨y.1.carry (fun b hb => hU.block b (y.2.2.1 b hb)) y.2.2.1, y.2.1.carry (fun b hb => hU.block b (y.2.2.1 b hb)) y.2.2.1, hT6.carry (keeps_of hU fun b hb => hb) fun _ h => h, x.2.2.2.1, x.2.2.2.2.1, x.2.2.2.2.2.1, x.2.2.2.2.2.2.1, (hU.block tb (by omega)).trans b6, x.2.2.2.2.2.2.2.1⟩
          have SO : Hid (∀ V, Below W6.heap.size W6 V → V.cell? ⟨w.heap.size, 0, none⟩ = some (.slice xg n cg) ∧ V.cell? ⟨w.heap.size, 1, none⟩ = some (.int .i64 (rn : Int)) ∧ V.cell? ⟨w.heap.size + 1, 0, none⟩ = some (.slice xh m ch) ∧ V.cell? ⟨w.heap.size + 1, 1, none⟩ = some (.int .i64 s) ∧ V.cell? ⟨tb, 0, none⟩ = some (.slice x3 m3 c3) ∧ V.cell? ⟨tb, 1, none⟩ = some (.int .i64 0)) := Lib.hid fun U hU => by
            have x := XY.out U hU
            exact ⟨Lib.cell_of_heap x.2.2.2.2.2.1 0, Lib.cell_of_heap x.2.2.2.2.2.1 1, Lib.cell_of_heap x.2.2.2.2.2.2.1 0, Lib.cell_of_heap x.2.2.2.2.2.2.1 1, Lib.cell_of_heap x.2.2.2.2.2.2.2.1 0, Lib.cell_of_heap x.2.2.2.2.2.2.2.1 1⟩
          obtain ⟨tl, tz, t1, t2, t3, t4, t5⟩ := HT.out
          have t6 : sameGr TL 0 G (rn : Int) = true := sameGr_iff.2 (sameGr_iff.1 t2).symm
          have t7 : sameGr G (rn : Int) G (rn : Int) = true := sameGr_iff.2 (SameGr.refl HCG.out)
          have t8 : sameGr H s G (rn : Int) = sameGr G (rn : Int) H s := by
            rw [Bool.eq_iff_iff, sameGr_iff, sameGr_iff]
            exact ⟨fun h => h.symm, fun h => h.symm⟩
          obtain ⟨A, hA⟩ : ∃ A, sameGr G (rn : Int) H s = A := ⟨_, rfl⟩
          rw [hA] at t8
          have CS1 : Hid (∀ U, Below W6.heap.size W6 U → Calls Tryd.prog 21 #[.agg #[.slice xg n cg, .int .i64 (rn : Int)], .agg #[.slice x3 m3 c3, .int .i64 0]] U fun e w' => e = .returned (.bool true) ∧ Below W6.heap.size W6 w') := Lib.hid fun U hU => by
            have x := XY.out U hU
            refine (gsame_any (fun b => b < W6.heap.size) _ _ (rn : Int) 0 G TL U T ev x.2.2.2.1 x.2.2.2.2.1 x.1 x.2.2.1 (fun b hb => Nat.lt_of_lt_of_le hb hU.size) Z.out.1 tz (by omega) tl (fun x hx => by have := grG.2.1 x hx; omega)).mono fun e w' h => ⟨?_, hU.trans (h.2.mono hU.size)⟩
            rw [h.1]
            exact congrArg (fun b => Ending.returned (.bool b)) (t2)
          have CS2 : Hid (∀ U, Below W6.heap.size W6 U → Calls Tryd.prog 21 #[.agg #[.slice x3 m3 c3, .int .i64 0], .agg #[.slice xg n cg, .int .i64 (rn : Int)]] U fun e w' => e = .returned (.bool true) ∧ Below W6.heap.size W6 w') := Lib.hid fun U hU => by
            have x := XY.out U hU
            refine (gsame_any (fun b => b < W6.heap.size) _ _ 0 (rn : Int) TL G U T ev x.2.2.2.1 x.2.2.2.2.1 x.2.2.1 x.1 (fun b hb => Nat.lt_of_lt_of_le hb hU.size) tz Z.out.1 tl (by omega) t4).mono fun e w' h => ⟨?_, hU.trans (h.2.mono hU.size)⟩
            rw [h.1]
            exact congrArg (fun b => Ending.returned (.bool b)) (t6)
          have CS3 : Hid (∀ U, Below W6.heap.size W6 U → Calls Tryd.prog 21 #[.agg #[.slice xg n cg, .int .i64 (rn : Int)], .agg #[.slice xg n cg, .int .i64 (rn : Int)]] U fun e w' => e = .returned (.bool true) ∧ Below W6.heap.size W6 w') := Lib.hid fun U hU => by
            have x := XY.out U hU
            refine (gsame_any (fun b => b < W6.heap.size) _ _ (rn : Int) (rn : Int) G G U T ev x.2.2.2.1 x.2.2.2.2.1 x.1 x.1 (fun b hb => Nat.lt_of_lt_of_le hb hU.size) Z.out.1 Z.out.1 (by omega) (by omega) (fun x hx => by have := grG.2.1 x hx; omega)).mono fun e w' h => ⟨?_, hU.trans (h.2.mono hU.size)⟩
            rw [h.1]
            exact congrArg (fun b => Ending.returned (.bool b)) (t7)
          have CS4 : Hid (∀ U, Below W6.heap.size W6 U → Calls Tryd.prog 21 #[.agg #[.slice xg n cg, .int .i64 (rn : Int)], .agg #[.slice xh m ch, .int .i64 s]] U fun e w' => e = .returned (.bool A) ∧ Below W6.heap.size W6 w') := Lib.hid fun U hU => by
            have x := XY.out U hU
            refine (gsame_any (fun b => b < W6.heap.size) _ _ (rn : Int) s G H U T ev x.2.2.2.1 x.2.2.2.2.1 x.1 x.2.1 (fun b hb => Nat.lt_of_lt_of_le hb hU.size) Z.out.1 Z.out.2.1 (by omega) (by omega) (fun x hx => by have := grG.2.1 x hx; omega)).mono fun e w' h => ⟨?_, hU.trans (h.2.mono hU.size)⟩
            rw [h.1]
            exact congrArg (fun b => Ending.returned (.bool b)) (hA)
          have CS5 : Hid (∀ U, Below W6.heap.size W6 U → Calls Tryd.prog 21 #[.agg #[.slice xh m ch, .int .i64 s], .agg #[.slice xg n cg, .int .i64 (rn : Int)]] U fun e w' => e = .returned (.bool A) ∧ Below W6.heap.size W6 w') := Lib.hid fun U hU => by
            have x := XY.out U hU
            refine (gsame_any (fun b => b < W6.heap.size) _ _ s (rn : Int) H G U T ev x.2.2.2.1 x.2.2.2.2.1 x.2.1 x.1 (fun b hb => Nat.lt_of_lt_of_le hb hU.size) Z.out.2.1 Z.out.1 (by omega) (by omega) (fun x hx => by have := grH.2.1 x hx; omega)).mono fun e w' h => ⟨?_, hU.trans (h.2.mono hU.size)⟩
            rw [h.1]
            exact congrArg (fun b => Ending.returned (.bool b)) (t8)
          have CT : Hid (∀ U, Below W6.heap.size W6 U → Calls Tryd.prog 11 #[.agg #[.slice x3 m3 c3, .int .i64 0]] U fun e w' => ∃ x2 m2 c2, e = .returned (.agg #[.slice x2 m2 c2, .int .i64 0]) ∧ GrAt w' (fun b => b < w'.heap.size) (.slice x2 m2 c2) TL ∧ Below W6.heap.size W6 w') := Lib.hid fun U hU => by
            have x := XY.out U hU
            refine (trim_any (fun b => b < W6.heap.size) _ 0 TL U T ev x.2.2.2.1 x.2.2.2.2.1 x.2.2.1 (fun b hb => Nat.lt_of_lt_of_le hb hU.size) tz tl t4 t1).mono ?_
            rintro e w' ⟨x2, m2, c2, rfl, _, h1, h2⟩
            rw [show ((0 : Int)).toNat = 0 from rfl, t3] at h1
            exact ⟨x2, m2, c2, rfl, h1.carry (fun _ _ => rfl) (fun b hb => hb.2), hU.trans (h2.mono hU.size)⟩
          have CE : Hid (∀ U, Below W6.heap.size W6 U → ∀ x2 m2 c2, GrAt U (fun b => b < U.heap.size) (.slice x2 m2 c2) TL → Calls Tryd.prog 20 #[.agg #[.slice x2 m2 c2, .int .i64 0], .agg #[.slice x3 m3 c3, .int .i64 0]] U fun e w' => e = .returned (.bool true) ∧ Below W6.heap.size W6 w') := Lib.hid fun U hU x2 m2 c2 h2 => by
            have x := XY.out U hU
            exact (equal_yes (fun b => b < U.heap.size) (fun b => b < W6.heap.size) _ _ 0 TL U h2 x.2.2.1 (fun _ h => h) (fun b hb => Nat.lt_of_lt_of_le hb hU.size)).mono fun e w' h => ⟨h.1, hU.trans (h.2.mono hU.size)⟩
          have CR : Hid (∀ U, Below W6.heap.size W6 U → Calls Tryd.prog 16 #[.agg #[.slice xg n cg, .int .i64 (rn : Int)]] U fun e w' => ∃ y9 d9, e = .returned (.slice y9 m3 d9) ∧ Below W6.heap.size W6 w') := Lib.hid fun U hU => by
            have x := XY.out U hU
            refine (reach_any (fun b => b < W6.heap.size) _ (rn : Int) G U T ev x.2.2.2.1 x.2.2.2.2.1 x.1 (fun b hb => Nat.lt_of_lt_of_le hb hU.size) Z.out.1 (by omega) (fun x hx => by have := grG.2.1 x hx; omega)).mono ?_
            rintro e w' ⟨v, rfl, h1, h2⟩
            rw [t5, ← HR3.out.1] at h1
            obtain ⟨y, d, rfl⟩ := own_shape h1
            exact ⟨y, d, rfl, hU.trans (h2.mono hU.size)⟩
          have FIN : Hid (∀ U, Below W6.heap.size W6 U → Below w.heap.size w U) := Lib.hid fun U hU => (XY.out U hU).2.2.2.2.2.2.2.2
          have hBB : Below W6.heap.size W6 W6.drew := (Below.refl _ _).drew
          clear tl tz t1 t2 t3 t4 t5 t6 t7 t8 hA grG grH hT6 b6 B6 s5 s6 htb
          go_wp2_with fail
          cases A
          all_goals
            refine wp_region_held_drew (S := fun V => V.cell? ⟨w.heap.size, 0, none⟩ = some (.slice xg n cg) ∧ V.cell? ⟨w.heap.size, 1, none⟩ = some (.int .i64 (rn : Int)) ∧ V.cell? ⟨w.heap.size + 1, 0, none⟩ = some (.slice xh m ch) ∧ V.cell? ⟨w.heap.size + 1, 1, none⟩ = some (.int .i64 s) ∧ V.cell? ⟨tb, 0, none⟩ = some (.slice x3 m3 c3) ∧ V.cell? ⟨tb, 1, none⟩ = some (.int .i64 0)) (by kernel_rfl) (SO.out _ hBB) (fun hHeld => ?_)
            refine wpAnyH_take (i := 0) (v := ?_) rfl (by kernel_rfl) (by kernel_rfl) (by kernel_rfl) (fun _ _ _ h => h) (Or.inl ⟨by rfl, ?_⟩) (by assumption) ?_
            rotate_left
            · intro w hSw
              (try dsimp only at hSw)
              go_simp
              try with_reducible rfl
            try simp only [List.getElem_toArray, List.getElem_cons_zero, List.getElem_cons_succ, Act.put, List.setIfInBounds_toArray, List.set_cons_zero, List.set_cons_succ]
            refine wpAnyH_take (i := 1) (v := ?_) rfl (by kernel_rfl) (by kernel_rfl) (by kernel_rfl) (fun _ _ _ h => h) (Or.inl ⟨by rfl, ?_⟩) (by assumption) ?_
            rotate_left
            · intro w hSw
              (try dsimp only at hSw)
              go_simp
              try with_reducible rfl
            try simp only [List.getElem_toArray, List.getElem_cons_zero, List.getElem_cons_succ, Act.put, List.setIfInBounds_toArray, List.set_cons_zero, List.set_cons_succ]
            refine wpAnyH_ready (rs := [2]) (by kernel_rfl) (by simp) ?_
            refine AllReadyH.cons (by simp only [List.getElem?_toArray, List.getElem?_cons_zero, List.getElem?_cons_succ]; rfl) (fun K hK => ?_) AllReadyH.nil
            go_simp
            (go_at_call 21; with_reducible refine (CS1.out _ hBB).mono ?_; rintro e9 w9 ⟨rfl, hBB⟩)
            go_wp2_with fail
            refine hK.out _ _ (by first | assumption | exact SO.out _ (by first | exact hBB | exact dN_below hBB _ | exact hBB.drew)) (fun hHeld => ?_)
            try simp only [List.getElem_toArray, List.getElem_cons_zero, List.getElem_cons_succ, Act.put, List.setIfInBounds_toArray, List.set_cons_zero, List.set_cons_succ]
            refine wpAnyH_take (i := 3) (v := ?_) rfl (by kernel_rfl) (by kernel_rfl) (by kernel_rfl) (fun _ _ _ h => h) (Or.inl ⟨by rfl, ?_⟩) (by assumption) ?_
            rotate_left
            · intro w hSw
              (try dsimp only at hSw)
              go_simp
              try with_reducible rfl
            try simp only [List.getElem_toArray, List.getElem_cons_zero, List.getElem_cons_succ, Act.put, List.setIfInBounds_toArray, List.set_cons_zero, List.set_cons_succ]
            refine wpAnyH_take (i := 4) (v := ?_) rfl (by kernel_rfl) (by kernel_rfl) (by kernel_rfl) (fun _ _ _ h => h) (Or.inl ⟨by rfl, ?_⟩) (by assumption) ?_
            rotate_left
            · intro w hSw
              (try dsimp only at hSw)
              go_simp
              try with_reducible rfl
            try simp only [List.getElem_toArray, List.getElem_cons_zero, List.getElem_cons_succ, Act.put, List.setIfInBounds_toArray, List.set_cons_zero, List.set_cons_succ]
            refine wpAnyH_take (i := 5) (v := ?_) rfl (by kernel_rfl) (by kernel_rfl) (by kernel_rfl) (fun _ _ _ h => h) (Or.inl ⟨by rfl, ?_⟩) (by assumption) ?_
            rotate_left
            · intro w hSw
              (try dsimp only at hSw)
              go_simp
              try with_reducible rfl
            try simp only [List.getElem_toArray, List.getElem_cons_zero, List.getElem_cons_succ, Act.put, List.setIfInBounds_toArray, List.set_cons_zero, List.set_cons_succ]
            refine wpAnyH_ready (rs := [6]) (by kernel_rfl) (by simp) ?_
            refine AllReadyH.cons (by simp only [List.getElem?_toArray, List.getElem?_cons_zero, List.getElem?_cons_succ]; rfl) (fun K hK => ?_) AllReadyH.nil
            go_simp
            (go_at_call 21; with_reducible refine (CS2.out _ hBB).mono ?_; rintro e9 w9 ⟨rfl, hBB⟩)
            go_wp2_with fail
            refine hK.out _ _ (by first | assumption | exact SO.out _ (by first | exact hBB | exact dN_below hBB _ | exact hBB.drew)) (fun hHeld => ?_)
            try simp only [List.getElem_toArray, List.getElem_cons_zero, List.getElem_cons_succ, Act.put, List.setIfInBounds_toArray, List.set_cons_zero, List.set_cons_succ]
            refine wpAnyH_take (i := 7) (v := ?_) rfl (by kernel_rfl) (by kernel_rfl) (by kernel_rfl) (fun _ _ _ h => h) (Or.inl ⟨by rfl, ?_⟩) (by assumption) ?_
            rotate_left
            · intro w hSw
              (try dsimp only at hSw)
              go_simp
              try with_reducible rfl
            try simp only [List.getElem_toArray, List.getElem_cons_zero, List.getElem_cons_succ, Act.put, List.setIfInBounds_toArray, List.set_cons_zero, List.set_cons_succ]
            refine wpAnyH_take (i := 8) (v := ?_) rfl (by kernel_rfl) (by kernel_rfl) (by kernel_rfl) (fun _ _ _ h => h) (Or.inl ⟨by rfl, ?_⟩) (by assumption) ?_
            rotate_left
            · intro w hSw
              (try dsimp only at hSw)
              go_simp
              try with_reducible rfl
            try simp only [List.getElem_toArray, List.getElem_cons_zero, List.getElem_cons_succ, Act.put, List.setIfInBounds_toArray, List.set_cons_zero, List.set_cons_succ]
            refine wpAnyH_take (i := 9) (v := ?_) rfl (by kernel_rfl) (by kernel_rfl) (by kernel_rfl) (fun _ _ _ h => h) (Or.inl ⟨by rfl, ?_⟩) (by assumption) ?_
            rotate_left
            · intro w hSw
              (try dsimp only at hSw)
              go_simp
              try with_reducible rfl
            try simp only [List.getElem_toArray, List.getElem_cons_zero, List.getElem_cons_succ, Act.put, List.setIfInBounds_toArray, List.set_cons_zero, List.set_cons_succ]
            refine wpAnyH_take (i := 11) (v := ?_) rfl (by kernel_rfl) (by kernel_rfl) (by kernel_rfl) (fun _ _ _ h => h) (Or.inl ⟨by rfl, ?_⟩) (by assumption) ?_
            rotate_left
            · intro w hSw
              (try dsimp only at hSw)
              go_simp
              try with_reducible rfl
            try simp only [List.getElem_toArray, List.getElem_cons_zero, List.getElem_cons_succ, Act.put, List.setIfInBounds_toArray, List.set_cons_zero, List.set_cons_succ]
            refine wpAnyH_ready (rs := [10]) (by kernel_rfl) (by simp) ?_
            refine AllReadyH.cons (by simp only [List.getElem?_toArray, List.getElem?_cons_zero, List.getElem?_cons_succ]; rfl) (fun K hK => ?_) AllReadyH.nil
            go_simp
            (go_at_call 11; with_reducible refine (CT.out _ hBB).mono ?_; rintro e9 w9 ⟨x2, m2, c2, rfl, hgr, hBB⟩; have HGR := Lib.hid hgr; clear hgr)
            go_wp2_with fail
            refine hK.out _ _ (by first | assumption | exact SO.out _ (by first | exact hBB | exact dN_below hBB _ | exact hBB.drew)) (fun hHeld => ?_)
            try simp only [List.getElem_toArray, List.getElem_cons_zero, List.getElem_cons_succ, Act.put, List.setIfInBounds_toArray, List.set_cons_zero, List.set_cons_succ]
            refine wpAnyH_ready (rs := [12]) (by kernel_rfl) (by simp) ?_
            refine AllReadyH.cons (by simp only [List.getElem?_toArray, List.getElem?_cons_zero, List.getElem?_cons_succ]; rfl) (fun K hK => ?_) AllReadyH.nil
            go_simp
            (go_at_call 20; with_reducible refine (CE.out _ hBB _ _ _ HGR.out).mono ?_; rintro e9 w9 ⟨rfl, hBB⟩)
            go_wp2_with fail
            refine hK.out _ _ (by first | assumption | exact SO.out _ (by first | exact hBB | exact dN_below hBB _ | exact hBB.drew)) (fun hHeld => ?_)
            try simp only [List.getElem_toArray, List.getElem_cons_zero, List.getElem_cons_succ, Act.put, List.setIfInBounds_toArray, List.set_cons_zero, List.set_cons_succ]
            refine wpAnyH_take (i := 13) (v := ?_) rfl (by kernel_rfl) (by kernel_rfl) (by kernel_rfl) (fun _ _ _ h => h) (Or.inl ⟨by rfl, ?_⟩) (by assumption) ?_
            rotate_left
            · intro w hSw
              (try dsimp only at hSw)
              go_simp
              try with_reducible rfl
            try simp only [List.getElem_toArray, List.getElem_cons_zero, List.getElem_cons_succ, Act.put, List.setIfInBounds_toArray, List.set_cons_zero, List.set_cons_succ]
            refine wpAnyH_take (i := 14) (v := ?_) rfl (by kernel_rfl) (by kernel_rfl) (by kernel_rfl) (fun _ _ _ h => h) (Or.inl ⟨by rfl, ?_⟩) (by assumption) ?_
            rotate_left
            · intro w hSw
              (try dsimp only at hSw)
              go_simp
              try with_reducible rfl
            try simp only [List.getElem_toArray, List.getElem_cons_zero, List.getElem_cons_succ, Act.put, List.setIfInBounds_toArray, List.set_cons_zero, List.set_cons_succ]
            refine wpAnyH_take (i := 15) (v := ?_) rfl (by kernel_rfl) (by kernel_rfl) (by kernel_rfl) (fun _ _ _ h => h) (Or.inl ⟨by rfl, ?_⟩) (by assumption) ?_
            rotate_left
            · intro w hSw
              (try dsimp only at hSw)
              go_simp
              try with_reducible rfl
            try simp only [List.getElem_toArray, List.getElem_cons_zero, List.getElem_cons_succ, Act.put, List.setIfInBounds_toArray, List.set_cons_zero, List.set_cons_succ]
            refine wpAnyH_take (i := 16) (v := ?_) rfl (by kernel_rfl) (by kernel_rfl) (by kernel_rfl) (fun _ _ _ h => h) (Or.inl ⟨by rfl, ?_⟩) (by assumption) ?_
            rotate_left
            · intro w hSw
              (try dsimp only at hSw)
              go_simp
              try with_reducible rfl
            try simp only [List.getElem_toArray, List.getElem_cons_zero, List.getElem_cons_succ, Act.put, List.setIfInBounds_toArray, List.set_cons_zero, List.set_cons_succ]
            refine wpAnyH_take (i := 17) (v := ?_) rfl (by kernel_rfl) (by kernel_rfl) (by kernel_rfl) (fun _ _ _ h => h) (Or.inl ⟨by rfl, ?_⟩) (by assumption) ?_
            rotate_left
            · intro w hSw
              (try dsimp only at hSw)
              go_simp
              try with_reducible rfl
            try simp only [List.getElem_toArray, List.getElem_cons_zero, List.getElem_cons_succ, Act.put, List.setIfInBounds_toArray, List.set_cons_zero, List.set_cons_succ]
            refine wpAnyH_take (i := 18) (v := ?_) rfl (by kernel_rfl) (by kernel_rfl) (by kernel_rfl) (fun _ _ _ h => h) (Or.inl ⟨by rfl, ?_⟩) (by assumption) ?_
            rotate_left
            · intro w hSw
              (try dsimp only at hSw)
              go_simp
              try with_reducible rfl
            try simp only [List.getElem_toArray, List.getElem_cons_zero, List.getElem_cons_succ, Act.put, List.setIfInBounds_toArray, List.set_cons_zero, List.set_cons_succ]
            refine wpAnyH_take (i := 19) (v := ?_) rfl (by kernel_rfl) (by kernel_rfl) (by kernel_rfl) (fun _ _ _ h => h) (Or.inl ⟨by rfl, ?_⟩) (by assumption) ?_
            rotate_left
            · intro w hSw
              (try dsimp only at hSw)
              go_simp
              try with_reducible rfl
            try simp only [List.getElem_toArray, List.getElem_cons_zero, List.getElem_cons_succ, Act.put, List.setIfInBounds_toArray, List.set_cons_zero, List.set_cons_succ]
            refine wpAnyH_take (i := 20) (v := ?_) rfl (by kernel_rfl) (by kernel_rfl) (by kernel_rfl) (fun _ _ _ h => h) (Or.inl ⟨by rfl, ?_⟩) (by assumption) ?_
            rotate_left
            · intro w hSw
              (try dsimp only at hSw)
              go_simp
              try with_reducible rfl
            try simp only [List.getElem_toArray, List.getElem_cons_zero, List.getElem_cons_succ, Act.put, List.setIfInBounds_toArray, List.set_cons_zero, List.set_cons_succ]
            refine wpAnyH_take (i := 21) (v := ?_) rfl (by kernel_rfl) (by kernel_rfl) (by kernel_rfl) (fun _ _ _ h => h) (Or.inl ⟨by rfl, ?_⟩) (by assumption) ?_
            rotate_left
            · intro w hSw
              (try dsimp only at hSw)
              go_simp
              try with_reducible rfl
            try simp only [List.getElem_toArray, List.getElem_cons_zero, List.getElem_cons_succ, Act.put, List.setIfInBounds_toArray, List.set_cons_zero, List.set_cons_succ]
            refine wpAnyH_take (i := 22) (v := ?_) rfl (by kernel_rfl) (by kernel_rfl) (by kernel_rfl) (fun _ _ _ h => h) (Or.inl ⟨by rfl, ?_⟩) (by assumption) ?_
            rotate_left
            · intro w hSw
              (try dsimp only at hSw)
              go_simp
              try with_reducible rfl
            try simp only [List.getElem_toArray, List.getElem_cons_zero, List.getElem_cons_succ, Act.put, List.setIfInBounds_toArray, List.set_cons_zero, List.set_cons_succ]
            refine wpAnyH_take (i := 23) (v := ?_) rfl (by kernel_rfl) (by kernel_rfl) (by kernel_rfl) (fun _ _ _ h => h) (Or.inl ⟨by rfl, ?_⟩) (by assumption) ?_
            rotate_left
            · intro w hSw
              (try dsimp only at hSw)
              go_simp
              try with_reducible rfl
            try simp only [List.getElem_toArray, List.getElem_cons_zero, List.getElem_cons_succ, Act.put, List.setIfInBounds_toArray, List.set_cons_zero, List.set_cons_succ]
            refine wpAnyH_ready (rs := [24]) (by kernel_rfl) (by simp) ?_
            refine AllReadyH.cons (by simp only [List.getElem?_toArray, List.getElem?_cons_zero, List.getElem?_cons_succ]; rfl) (fun K hK => ?_) AllReadyH.nil
            go_simp
            (go_at_call 16; with_reducible refine (CR.out _ hBB).mono ?_; rintro e9 w9 ⟨y9, d9, rfl, hBB⟩)
            go_wp2_with fail
            refine hK.out _ _ (by first | assumption | exact SO.out _ (by first | exact hBB | exact dN_below hBB _ | exact hBB.drew)) (fun hHeld => ?_)
            try simp only [List.getElem_toArray, List.getElem_cons_zero, List.getElem_cons_succ, Act.put, List.setIfInBounds_toArray, List.set_cons_zero, List.set_cons_succ]
            refine wpAnyH_take (i := 25) (v := ?_) rfl (by kernel_rfl) (by kernel_rfl) (by kernel_rfl) (fun _ _ _ h => h) (Or.inl ⟨by rfl, ?_⟩) (by assumption) ?_
            rotate_left
            · intro w hSw
              (try dsimp only at hSw)
              go_simp
              try with_reducible rfl
            try simp only [List.getElem_toArray, List.getElem_cons_zero, List.getElem_cons_succ, Act.put, List.setIfInBounds_toArray, List.set_cons_zero, List.set_cons_succ]
            refine wpAnyH_take (i := 26) (v := ?_) rfl (by kernel_rfl) (by kernel_rfl) (by kernel_rfl) (fun _ _ _ h => h) (Or.inl ⟨by rfl, ?_⟩) (by assumption) ?_
            rotate_left
            · intro w hSw
              (try dsimp only at hSw)
              go_simp
              try with_reducible rfl
            try simp only [List.getElem_toArray, List.getElem_cons_zero, List.getElem_cons_succ, Act.put, List.setIfInBounds_toArray, List.set_cons_zero, List.set_cons_succ]
            refine wpAnyH_take (i := 27) (v := ?_) rfl (by kernel_rfl) (by kernel_rfl) (by kernel_rfl) (fun _ _ _ h => h) (Or.inl ⟨by rfl, ?_⟩) (by assumption) ?_
            rotate_left
            · intro w hSw
              (try dsimp only at hSw)
              go_simp
              try with_reducible rfl
            try simp only [List.getElem_toArray, List.getElem_cons_zero, List.getElem_cons_succ, Act.put, List.setIfInBounds_toArray, List.set_cons_zero, List.set_cons_succ]
            refine wpAnyH_take (i := 28) (v := ?_) rfl (by kernel_rfl) (by kernel_rfl) (by kernel_rfl) (fun _ _ _ h => h) (Or.inl ⟨by rfl, ?_⟩) (by assumption) ?_
            rotate_left
            · intro w hSw
              (try dsimp only at hSw)
              go_simp
              try with_reducible rfl
            try simp only [List.getElem_toArray, List.getElem_cons_zero, List.getElem_cons_succ, Act.put, List.setIfInBounds_toArray, List.set_cons_zero, List.set_cons_succ]
            refine wpAnyH_take (i := 29) (v := ?_) rfl (by kernel_rfl) (by kernel_rfl) (by kernel_rfl) (fun _ _ _ h => h) (Or.inl ⟨by rfl, ?_⟩) (by assumption) ?_
            rotate_left
            · intro w hSw
              (try dsimp only at hSw)
              go_simp
              try with_reducible rfl
            try simp only [List.getElem_toArray, List.getElem_cons_zero, List.getElem_cons_succ, Act.put, List.setIfInBounds_toArray, List.set_cons_zero, List.set_cons_succ]
            refine wpAnyH_take (i := 30) (v := ?_) rfl (by kernel_rfl) (by kernel_rfl) (by kernel_rfl) (fun _ _ _ h => h) (Or.inl ⟨by rfl, ?_⟩) (by assumption) ?_
            rotate_left
            · intro w hSw
              (try dsimp only at hSw)
              go_simp
              try with_reducible rfl
            try simp only [List.getElem_toArray, List.getElem_cons_zero, List.getElem_cons_succ, Act.put, List.setIfInBounds_toArray, List.set_cons_zero, List.set_cons_succ]
            refine wpAnyH_ready (rs := [31]) (by kernel_rfl) (by simp) ?_
            refine AllReadyH.cons (by simp only [List.getElem?_toArray, List.getElem?_cons_zero, List.getElem?_cons_succ]; rfl) (fun K hK => ?_) AllReadyH.nil
            go_simp
            (go_at_call 21; with_reducible refine (CS3.out _ hBB).mono ?_; rintro e9 w9 ⟨rfl, hBB⟩)
            go_wp2_with fail
            refine hK.out _ _ (by first | assumption | exact SO.out _ (by first | exact hBB | exact dN_below hBB _ | exact hBB.drew)) (fun hHeld => ?_)
            try simp only [List.getElem_toArray, List.getElem_cons_zero, List.getElem_cons_succ, Act.put, List.setIfInBounds_toArray, List.set_cons_zero, List.set_cons_succ]
            refine wpAnyH_take (i := 32) (v := ?_) rfl (by kernel_rfl) (by kernel_rfl) (by kernel_rfl) (fun _ _ _ h => h) (Or.inl ⟨by rfl, ?_⟩) (by assumption) ?_
            rotate_left
            · intro w hSw
              (try dsimp only at hSw)
              go_simp
              try with_reducible rfl
            try simp only [List.getElem_toArray, List.getElem_cons_zero, List.getElem_cons_succ, Act.put, List.setIfInBounds_toArray, List.set_cons_zero, List.set_cons_succ]
            refine wpAnyH_take (i := 33) (v := ?_) rfl (by kernel_rfl) (by kernel_rfl) (by kernel_rfl) (fun _ _ _ h => h) (Or.inl ⟨by rfl, ?_⟩) (by assumption) ?_
            rotate_left
            · intro w hSw
              (try dsimp only at hSw)
              go_simp
              try with_reducible rfl
            try simp only [List.getElem_toArray, List.getElem_cons_zero, List.getElem_cons_succ, Act.put, List.setIfInBounds_toArray, List.set_cons_zero, List.set_cons_succ]
            refine wpAnyH_take (i := 34) (v := ?_) rfl (by kernel_rfl) (by kernel_rfl) (by kernel_rfl) (fun _ _ _ h => h) (Or.inl ⟨by rfl, ?_⟩) (by assumption) ?_
            rotate_left
            · intro w hSw
              (try dsimp only at hSw)
              go_simp
              try with_reducible rfl
            try simp only [List.getElem_toArray, List.getElem_cons_zero, List.getElem_cons_succ, Act.put, List.setIfInBounds_toArray, List.set_cons_zero, List.set_cons_succ]
            refine wpAnyH_take (i := 35) (v := ?_) rfl (by kernel_rfl) (by kernel_rfl) (by kernel_rfl) (fun _ _ _ h => h) (Or.inl ⟨by rfl, ?_⟩) (by assumption) ?_
            rotate_left
            · intro w hSw
              (try dsimp only at hSw)
              go_simp
              try with_reducible rfl
            try simp only [List.getElem_toArray, List.getElem_cons_zero, List.getElem_cons_succ, Act.put, List.setIfInBounds_toArray, List.set_cons_zero, List.set_cons_succ]
            refine wpAnyH_take (i := 37) (v := ?_) rfl (by kernel_rfl) (by kernel_rfl) (by kernel_rfl) (fun _ _ _ h => h) (Or.inl ⟨by rfl, ?_⟩) (by assumption) ?_
            rotate_left
            · intro w hSw
              (try dsimp only at hSw)
              go_simp
              try with_reducible rfl
            try simp only [List.getElem_toArray, List.getElem_cons_zero, List.getElem_cons_succ, Act.put, List.setIfInBounds_toArray, List.set_cons_zero, List.set_cons_succ]
            refine wpAnyH_take (i := 38) (v := ?_) rfl (by kernel_rfl) (by kernel_rfl) (by kernel_rfl) (fun _ _ _ h => h) (Or.inl ⟨by rfl, ?_⟩) (by assumption) ?_
            rotate_left
            · intro w hSw
              (try dsimp only at hSw)
              go_simp
              try with_reducible rfl
            try simp only [List.getElem_toArray, List.getElem_cons_zero, List.getElem_cons_succ, Act.put, List.setIfInBounds_toArray, List.set_cons_zero, List.set_cons_succ]
            refine wpAnyH_ready (rs := [36]) (by kernel_rfl) (by simp) ?_
            refine AllReadyH.cons (by simp only [List.getElem?_toArray, List.getElem?_cons_zero, List.getElem?_cons_succ]; rfl) (fun K hK => ?_) AllReadyH.nil
            go_simp
            (go_at_call 21; with_reducible refine (CS4.out _ hBB).mono ?_; rintro e9 w9 ⟨rfl, hBB⟩)
            go_wp2_with fail
            refine hK.out _ _ (by first | assumption | exact SO.out _ (by first | exact hBB | exact dN_below hBB _ | exact hBB.drew)) (fun hHeld => ?_)
            try simp only [List.getElem_toArray, List.getElem_cons_zero, List.getElem_cons_succ, Act.put, List.setIfInBounds_toArray, List.set_cons_zero, List.set_cons_succ]
            refine wpAnyH_ready (rs := [39]) (by kernel_rfl) (by simp) ?_
            refine AllReadyH.cons (by simp only [List.getElem?_toArray, List.getElem?_cons_zero, List.getElem?_cons_succ]; rfl) (fun K hK => ?_) AllReadyH.nil
            go_simp
            (go_at_call 21; with_reducible refine (CS5.out _ hBB).mono ?_; rintro e9 w9 ⟨rfl, hBB⟩)
            go_wp2_with fail
            refine hK.out _ _ (by first | assumption | exact SO.out _ (by first | exact hBB | exact dN_below hBB _ | exact hBB.drew)) (fun hHeld => ?_)
            try simp only [List.getElem_toArray, List.getElem_cons_zero, List.getElem_cons_succ, Act.put, List.setIfInBounds_toArray, List.set_cons_zero, List.set_cons_succ]
            refine wpAnyH_take (i := 40) (v := ?_) rfl (by kernel_rfl) (by kernel_rfl) (by kernel_rfl) (fun _ _ _ h => h) (Or.inl ⟨by rfl, ?_⟩) (by assumption) ?_
            rotate_left
            · intro w hSw
              (try dsimp only at hSw)
              go_simp
              try with_reducible rfl
            try simp only [List.getElem_toArray, List.getElem_cons_zero, List.getElem_cons_succ, Act.put, List.setIfInBounds_toArray, List.set_cons_zero, List.set_cons_succ]
            refine wpAnyH_take (i := 41) (v := ?_) rfl (by kernel_rfl) (by kernel_rfl) (by kernel_rfl) (fun _ _ _ h => h) (Or.inl ⟨by rfl, ?_⟩) (by assumption) ?_
            rotate_left
            · intro w hSw
              (try dsimp only at hSw)
              go_simp
              try with_reducible rfl
            try simp only [List.getElem_toArray, List.getElem_cons_zero, List.getElem_cons_succ, Act.put, List.setIfInBounds_toArray, List.set_cons_zero, List.set_cons_succ]
            refine wpAnyH_take (i := 42) (v := ?_) rfl (by kernel_rfl) (by kernel_rfl) (by kernel_rfl) (fun _ _ _ h => h) (Or.inl ⟨by rfl, ?_⟩) (by assumption) ?_
            rotate_left
            · intro w hSw
              (try dsimp only at hSw)
              go_simp
              try with_reducible rfl
            try simp only [List.getElem_toArray, List.getElem_cons_zero, List.getElem_cons_succ, Act.put, List.setIfInBounds_toArray, List.set_cons_zero, List.set_cons_succ]
            refine wpAnyH_done (by kernel_rfl) ?_ _
            go_wp2_with fail
            go_ret
            exact ⟨rfl, FIN.out _ (by first | exact hBB | exact dN_below hBB _ | exact hBB.drew)⟩
end Go.Proofs.YtelmigkbofnicaaDoor
