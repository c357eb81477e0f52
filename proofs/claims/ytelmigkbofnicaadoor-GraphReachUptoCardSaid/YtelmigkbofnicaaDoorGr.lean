/- trefoillaw06.GraphReach: the graphs are opened, and may be; what is reached. -/
import Derived.Test.YtelmigkbofnicaaDoorRd
import Derived.Test.YtelmigkbofnicaaDoorMb
import Derived.Test.YtelmigkbofnicaaDoorGg
import Derived.Test.YtelmigkbofnicaaDoorGv
import Derived.Test.YtelmigkbofnicaaDoorGj
namespace Go.Proofs.YtelmigkbofnicaaDoor
open Go.ChangeShapes Go.WideShapes Go.ChangeAt Go.RowKit

set_option linter.unusedSimpArgs false in
set_option maxHeartbeats 8000000 in
set_option maxRecDepth 100000 in
theorem reachlaw_any (S : Nat → Prop) (vg vh vk : Value) (r s t : Int) (G H K : List GN) (w : World) (T : TypeId) (ev : Value) (hg : w.cell? ⟨0, 0, none⟩ = some (.iface T ev)) (hgl : 0 < w.heap.size) (hG : GrAt w S vg G) (hH : GrAt w S vh H) (hK : GrAt w S vk K) (hS : ∀ b, S b → b < w.heap.size) (sG : Sized G) (sH : Sized H) (sK : Sized K)
    (bG : greatN G ≤ 4611686018427387904) (bH : greatN H ≤ 4611686018427387904) (bK : greatN K ≤ 4611686018427387904) :
    Calls Tryd.prog 8 #[.agg #[vg, .int .i64 r], .agg #[vh, .int .i64 s], .agg #[vk, .int .i64 t]] w fun e w' => e = .returned (.bool true) ∧ Below w.heap.size w w' := by
  obtain ⟨xg, cg, gg, og, rfl, hxg, hng⟩ := hG.open_
  obtain ⟨xh, ch, gh, oh, rfl, _, _⟩ := hH.open_
  obtain ⟨xk, ck, gk, ok, rfl, _, _⟩ := hK.open_
  obtain ⟨n, en⟩ : ∃ n, G.length = n := ⟨_, rfl⟩
  obtain ⟨m, em⟩ : ∃ m, H.length = m := ⟨_, rfl⟩
  obtain ⟨p, ep⟩ : ∃ p, K.length = p := ⟨_, rfl⟩
  rw [en] at hG hxg ⊢
  rw [em] at hH ⊢
  rw [ep] at hK ⊢
  obtain ⟨V, hV⟩ : ∃ V, ((w.alloc (.cells #[.slice xg n cg, .int .i64 r] 24)).alloc (.cells #[.slice xh m ch, .int .i64 s] 24)).alloc (.cells #[.slice xk p ck, .int .i64 t] 24) = V := ⟨_, rfl⟩
  have BV : Below w.heap.size w V := by rw [← hV]; exact (((Below.refl _ _).alloc (Nat.le_refl _) _).alloc (by simp) _).alloc (by simp; omega) _
  have sV : V.heap.size = w.heap.size + 3 := by rw [← hV]; simp
  have f0 : V.heap[w.heap.size]? = some (.cells #[.slice xg n cg, .int .i64 r] 24) := by rw [← hV, heap_old (by simp; omega), heap_old (by simp)]; exact heap_last rfl
  have f1 : V.heap[w.heap.size + 1]? = some (.cells #[.slice xh m ch, .int .i64 s] 24) := by rw [← hV, heap_old (by simp)]; exact heap_last (by simp)
  have f2 : V.heap[w.heap.size + 1 + 1]? = some (.cells #[.slice xk p ck, .int .i64 t] 24) := by rw [← hV]; exact heap_last (by simp)
  have X : Hid (∀ U, Below V.heap.size V U → GrAt U S (.slice xg n cg) G ∧ GrAt U S (.slice xh m ch) H ∧ GrAt U S (.slice xk p ck) K ∧ (∀ b, S b → b < U.heap.size) ∧ U.cell? ⟨0, 0, none⟩ = some (.iface T ev) ∧ 0 < U.heap.size ∧ U.heap[w.heap.size]? = some (.cells #[.slice xg n cg, .int .i64 r] 24) ∧ U.heap[w.heap.size + 1]? = some (.cells #[.slice xh m ch, .int .i64 s] 24) ∧ U.heap[w.heap.size + 1 + 1]? = some (.cells #[.slice xk p ck, .int .i64 t] 24) ∧ Below w.heap.size w U ∧ w.heap.size + 3 ≤ U.heap.size) := Lib.hid fun U hU => by
    have hs := hU.size
    have hBU : Below w.heap.size w U := BV.trans (hU.mono (by omega))
    exact ⟨hG.carry (keeps_of hBU hS) fun _ h => h, hH.carry (keeps_of hBU hS) fun _ h => h, hK.carry (keeps_of hBU hS) fun _ h => h, fun b hb => Nat.lt_of_lt_of_le (hS b hb) hBU.size, (hBU.cell (p := ⟨_, 0, none⟩) hgl).trans hg, Nat.lt_of_lt_of_le hgl hBU.size, (hU.block _ (by omega)).trans f0, (hU.block _ (by omega)).trans f1, (hU.block _ (by omega)).trans f2, hBU, by omega⟩
  have Z := Lib.hid (And.intro sG (And.intro sH (And.intro sK (And.intro bG (And.intro bH (And.intro bK hS))))))
  have HGO := Lib.hid (And.intro hxg (And.intro hng (And.intro en (And.intro em ep))))
  clear hg hgl hG hH hK hS sG sH sK bG bH bK f0 f1 f2 BV hxg hng
  go_enter Tryd.func8, Tryd.ntmps8
  have C0 := Lib.hid (alive_any V T ev (X.out V (Below.refl _ _)).2.2.2.2.1 (X.out V (Below.refl _ _)).2.2.2.2.2.1)
  go_wp2_with fail
  refine C0.out.mono ?_
  rintro e0 W0 ⟨rfl, hB0⟩
  have HB0 := Lib.hid hB0
  have s0 := hB0.size
  clear C0 hB0 hV
  have x := X.out W0 HB0.out
  have a0 := Lib.cell_of_heap x.2.2.2.2.2.2.1 0
  have a1 := Lib.cell_of_heap x.2.2.2.2.2.2.1 1
  have a2 := Lib.cell_of_heap x.2.2.2.2.2.2.2.1 0
  have a3 := Lib.cell_of_heap x.2.2.2.2.2.2.2.1 1
  have a4 := Lib.cell_of_heap x.2.2.2.2.2.2.2.2.1 0
  have a5 := Lib.cell_of_heap x.2.2.2.2.2.2.2.2.1 1
  simp only [List.getElem?_toArray, List.getElem?_cons_zero, List.getElem?_cons_succ] at a0 a1 a2 a3 a4 a5
  have hl0 : w.heap.size < W0.heap.size := by have := x.2.2.2.2.2.2.2.2.2.2; omega
  have hl1 : w.heap.size + 1 < W0.heap.size := by have := x.2.2.2.2.2.2.2.2.2.2; omega
  have hl2 : w.heap.size + 1 + 1 < W0.heap.size := by have := x.2.2.2.2.2.2.2.2.2.2; omega
  have C := Lib.hid (great_any S (.slice xg n cg) r G W0 x.1 x.2.2.2.1 Z.out.2.2.2.1)
  go_wp2_with fail
  refine C.out.mono ?_
  rintro e1 W1 ⟨rfl, hB1⟩
  have s1 := hB1.size
  have HB1 := Lib.hid (HB0.out.trans (hB1.mono (by omega)))
  clear C hB1
  clear a0 a1 a2 a3 a4 a5 x hl0 hl1 hl2
  have x := X.out W1 HB1.out
  have a0 := Lib.cell_of_heap x.2.2.2.2.2.2.1 0
  have a1 := Lib.cell_of_heap x.2.2.2.2.2.2.1 1
  have a2 := Lib.cell_of_heap x.2.2.2.2.2.2.2.1 0
  have a3 := Lib.cell_of_heap x.2.2.2.2.2.2.2.1 1
  have a4 := Lib.cell_of_heap x.2.2.2.2.2.2.2.2.1 0
  have a5 := Lib.cell_of_heap x.2.2.2.2.2.2.2.2.1 1
  simp only [List.getElem?_toArray, List.getElem?_cons_zero, List.getElem?_cons_succ] at a0 a1 a2 a3 a4 a5
  have hl0 : w.heap.size < W1.heap.size := by have := x.2.2.2.2.2.2.2.2.2.2; omega
  have hl1 : w.heap.size + 1 < W1.heap.size := by have := x.2.2.2.2.2.2.2.2.2.2; omega
  have hl2 : w.heap.size + 1 + 1 < W1.heap.size := by have := x.2.2.2.2.2.2.2.2.2.2; omega
  by_cases hG : (200 : Int) < (greatN G : Int)
  · go_wp2_with fail
    go_ret
    exact ⟨rfl, (X.out _ HB1.out).2.2.2.2.2.2.2.2.2.1⟩
  · have egG : decide ((200 : Int) < (greatN G : Int)) = false := by simp [hG]
    clear a0 a1 a2 a3 a4 a5 x hl0 hl1 hl2
    have x := X.out W1 HB1.out
    have a0 := Lib.cell_of_heap x.2.2.2.2.2.2.1 0
    have a1 := Lib.cell_of_heap x.2.2.2.2.2.2.1 1
    have a2 := Lib.cell_of_heap x.2.2.2.2.2.2.2.1 0
    have a3 := Lib.cell_of_heap x.2.2.2.2.2.2.2.1 1
    have a4 := Lib.cell_of_heap x.2.2.2.2.2.2.2.2.1 0
    have a5 := Lib.cell_of_heap x.2.2.2.2.2.2.2.2.1 1
    simp only [List.getElem?_toArray, List.getElem?_cons_zero, List.getElem?_cons_succ] at a0 a1 a2 a3 a4 a5
    have hl0 : w.heap.size < W1.heap.size := by have := x.2.2.2.2.2.2.2.2.2.2; omega
    have hl1 : w.heap.size + 1 < W1.heap.size := by have := x.2.2.2.2.2.2.2.2.2.2; omega
    have hl2 : w.heap.size + 1 + 1 < W1.heap.size := by have := x.2.2.2.2.2.2.2.2.2.2; omega
    have C := Lib.hid (great_any S (.slice xh m ch) s H W1 x.2.1 x.2.2.2.1 Z.out.2.2.2.2.1)
    go_wp2_with fail
    refine C.out.mono ?_
    rintro e2 W2 ⟨rfl, hB2⟩
    have s2 := hB2.size
    have HB2 := Lib.hid (HB1.out.trans (hB2.mono (by omega)))
    clear C hB2
    clear a0 a1 a2 a3 a4 a5 x hl0 hl1 hl2
    have x := X.out W2 HB2.out
    have a0 := Lib.cell_of_heap x.2.2.2.2.2.2.1 0
    have a1 := Lib.cell_of_heap x.2.2.2.2.2.2.1 1
    have a2 := Lib.cell_of_heap x.2.2.2.2.2.2.2.1 0
    have a3 := Lib.cell_of_heap x.2.2.2.2.2.2.2.1 1
    have a4 := Lib.cell_of_heap x.2.2.2.2.2.2.2.2.1 0
    have a5 := Lib.cell_of_heap x.2.2.2.2.2.2.2.2.1 1
    simp only [List.getElem?_toArray, List.getElem?_cons_zero, List.getElem?_cons_succ] at a0 a1 a2 a3 a4 a5
    have hl0 : w.heap.size < W2.heap.size := by have := x.2.2.2.2.2.2.2.2.2.2; omega
    have hl1 : w.heap.size + 1 < W2.heap.size := by have := x.2.2.2.2.2.2.2.2.2.2; omega
    have hl2 : w.heap.size + 1 + 1 < W2.heap.size := by have := x.2.2.2.2.2.2.2.2.2.2; omega
    by_cases hH : (200 : Int) < (greatN H : Int)
    · go_wp2_with fail
      go_ret
      exact ⟨rfl, (X.out _ HB2.out).2.2.2.2.2.2.2.2.2.1⟩
    · have egH : decide ((200 : Int) < (greatN H : Int)) = false := by simp [hH]
      clear a0 a1 a2 a3 a4 a5 x hl0 hl1 hl2
      have x := X.out W2 HB2.out
      have a0 := Lib.cell_of_heap x.2.2.2.2.2.2.1 0
      have a1 := Lib.cell_of_heap x.2.2.2.2.2.2.1 1
      have a2 := Lib.cell_of_heap x.2.2.2.2.2.2.2.1 0
      have a3 := Lib.cell_of_heap x.2.2.2.2.2.2.2.1 1
      have a4 := Lib.cell_of_heap x.2.2.2.2.2.2.2.2.1 0
      have a5 := Lib.cell_of_heap x.2.2.2.2.2.2.2.2.1 1
      simp only [List.getElem?_toArray, List.getElem?_cons_zero, List.getElem?_cons_succ] at a0 a1 a2 a3 a4 a5
      have hl0 : w.heap.size < W2.heap.size := by have := x.2.2.2.2.2.2.2.2.2.2; omega
      have hl1 : w.heap.size + 1 < W2.heap.size := by have := x.2.2.2.2.2.2.2.2.2.2; omega
      have hl2 : w.heap.size + 1 + 1 < W2.heap.size := by have := x.2.2.2.2.2.2.2.2.2.2; omega
      have C := Lib.hid (great_any S (.slice xk p ck) t K W2 x.2.2.1 x.2.2.2.1 Z.out.2.2.2.2.2.1)
      go_wp2_with fail
      refine C.out.mono ?_
      rintro e3 W3 ⟨rfl, hB3⟩
      have s3 := hB3.size
      have HB3 := Lib.hid (HB2.out.trans (hB3.mono (by omega)))
      clear C hB3
      clear a0 a1 a2 a3 a4 a5 x hl0 hl1 hl2
      have x := X.out W3 HB3.out
      have a0 := Lib.cell_of_heap x.2.2.2.2.2.2.1 0
      have a1 := Lib.cell_of_heap x.2.2.2.2.2.2.1 1
      have a2 := Lib.cell_of_heap x.2.2.2.2.2.2.2.1 0
      have a3 := Lib.cell_of_heap x.2.2.2.2.2.2.2.1 1
      have a4 := Lib.cell_of_heap x.2.2.2.2.2.2.2.2.1 0
      have a5 := Lib.cell_of_heap x.2.2.2.2.2.2.2.2.1 1
      simp only [List.getElem?_toArray, List.getElem?_cons_zero, List.getElem?_cons_succ] at a0 a1 a2 a3 a4 a5
      have hl0 : w.heap.size < W3.heap.size := by have := x.2.2.2.2.2.2.2.2.2.2; omega
      have hl1 : w.heap.size + 1 < W3.heap.size := by have := x.2.2.2.2.2.2.2.2.2.2; omega
      have hl2 : w.heap.size + 1 + 1 < W3.heap.size := by have := x.2.2.2.2.2.2.2.2.2.2; omega
      by_cases hK : (200 : Int) < (greatN K : Int)
      · go_wp2_with fail
        go_ret
        exact ⟨rfl, (X.out _ HB3.out).2.2.2.2.2.2.2.2.2.1⟩
      · have egK : decide ((200 : Int) < (greatN K : Int)) = false := by simp [hK]
        clear a0 a1 a2 a3 a4 a5 x hl0 hl1 hl2
        have x := X.out W3 HB3.out
        have a0 := Lib.cell_of_heap x.2.2.2.2.2.2.1 0
        have a1 := Lib.cell_of_heap x.2.2.2.2.2.2.1 1
        have a2 := Lib.cell_of_heap x.2.2.2.2.2.2.2.1 0
        have a3 := Lib.cell_of_heap x.2.2.2.2.2.2.2.1 1
        have a4 := Lib.cell_of_heap x.2.2.2.2.2.2.2.2.1 0
        have a5 := Lib.cell_of_heap x.2.2.2.2.2.2.2.2.1 1
        simp only [List.getElem?_toArray, List.getElem?_cons_zero, List.getElem?_cons_succ] at a0 a1 a2 a3 a4 a5
        have hl0 : w.heap.size < W3.heap.size := by have := x.2.2.2.2.2.2.2.2.2.2; omega
        have hl1 : w.heap.size + 1 < W3.heap.size := by have := x.2.2.2.2.2.2.2.2.2.2; omega
        have hl2 : w.heap.size + 1 + 1 < W3.heap.size := by have := x.2.2.2.2.2.2.2.2.2.2; omega
        obtain ⟨cG, hcG⟩ : ∃ c, checkG G r = c := ⟨_, rfl⟩
        have hwG := checkG_ways G r
        have C := Lib.hid (check_any S (.slice xg n cg) r G W3 T ev x.2.2.2.2.1 x.2.2.2.2.2.1 x.1 x.2.2.2.1 Z.out.1)
        rw [hcG] at C hwG
        go_wp2_with fail
        refine C.out.mono ?_
        rintro e4 W4 ⟨rfl, hB4⟩
        have s4 := hB4.size
        have HB4 := Lib.hid (HB3.out.trans (hB4.mono (by omega)))
        clear C hB4
        clear a0 a1 a2 a3 a4 a5 x hl0 hl1 hl2
        have x := X.out W4 HB4.out
        have a0 := Lib.cell_of_heap x.2.2.2.2.2.2.1 0
        have a1 := Lib.cell_of_heap x.2.2.2.2.2.2.1 1
        have a2 := Lib.cell_of_heap x.2.2.2.2.2.2.2.1 0
        have a3 := Lib.cell_of_heap x.2.2.2.2.2.2.2.1 1
        have a4 := Lib.cell_of_heap x.2.2.2.2.2.2.2.2.1 0
        have a5 := Lib.cell_of_heap x.2.2.2.2.2.2.2.2.1 1
        simp only [List.getElem?_toArray, List.getElem?_cons_zero, List.getElem?_cons_succ] at a0 a1 a2 a3 a4 a5
        have hl0 : w.heap.size < W4.heap.size := by have := x.2.2.2.2.2.2.2.2.2.2; omega
        have hl1 : w.heap.size + 1 < W4.heap.size := by have := x.2.2.2.2.2.2.2.2.2.2; omega
        have hl2 : w.heap.size + 1 + 1 < W4.heap.size := by have := x.2.2.2.2.2.2.2.2.2.2; omega
        rcases hwG with rfl | rfl | rfl
        rotate_left
        · go_wp2_with fail
          go_ret
          exact ⟨rfl, (X.out _ HB4.out).2.2.2.2.2.2.2.2.2.1⟩
        · go_wp2_with fail
          go_ret
          exact ⟨rfl, (X.out _ HB4.out).2.2.2.2.2.2.2.2.2.1⟩
        · have HCG := Lib.hid hcG
          clear hcG
          clear a0 a1 a2 a3 a4 a5 x hl0 hl1 hl2
          have x := X.out W4 HB4.out
          have a0 := Lib.cell_of_heap x.2.2.2.2.2.2.1 0
          have a1 := Lib.cell_of_heap x.2.2.2.2.2.2.1 1
          have a2 := Lib.cell_of_heap x.2.2.2.2.2.2.2.1 0
          have a3 := Lib.cell_of_heap x.2.2.2.2.2.2.2.1 1
          have a4 := Lib.cell_of_heap x.2.2.2.2.2.2.2.2.1 0
          have a5 := Lib.cell_of_heap x.2.2.2.2.2.2.2.2.1 1
          simp only [List.getElem?_toArray, List.getElem?_cons_zero, List.getElem?_cons_succ] at a0 a1 a2 a3 a4 a5
          have hl0 : w.heap.size < W4.heap.size := by have := x.2.2.2.2.2.2.2.2.2.2; omega
          have hl1 : w.heap.size + 1 < W4.heap.size := by have := x.2.2.2.2.2.2.2.2.2.2; omega
          have hl2 : w.heap.size + 1 + 1 < W4.heap.size := by have := x.2.2.2.2.2.2.2.2.2.2; omega
          obtain ⟨cH, hcH⟩ : ∃ c, checkG H s = c := ⟨_, rfl⟩
          have hwH := checkG_ways H s
          have C := Lib.hid (check_any S (.slice xh m ch) s H W4 T ev x.2.2.2.2.1 x.2.2.2.2.2.1 x.2.1 x.2.2.2.1 Z.out.2.1)
          rw [hcH] at C hwH
          go_wp2_with fail
          refine C.out.mono ?_
          rintro e5 W5 ⟨rfl, hB5⟩
          have s5 := hB5.size
          have HB5 := Lib.hid (HB4.out.trans (hB5.mono (by omega)))
          clear C hB5
          clear a0 a1 a2 a3 a4 a5 x hl0 hl1 hl2
          have x := X.out W5 HB5.out
          have a0 := Lib.cell_of_heap x.2.2.2.2.2.2.1 0
          have a1 := Lib.cell_of_heap x.2.2.2.2.2.2.1 1
          have a2 := Lib.cell_of_heap x.2.2.2.2.2.2.2.1 0
          have a3 := Lib.cell_of_heap x.2.2.2.2.2.2.2.1 1
          have a4 := Lib.cell_of_heap x.2.2.2.2.2.2.2.2.1 0
          have a5 := Lib.cell_of_heap x.2.2.2.2.2.2.2.2.1 1
          simp only [List.getElem?_toArray, List.getElem?_cons_zero, List.getElem?_cons_succ] at a0 a1 a2 a3 a4 a5
          have hl0 : w.heap.size < W5.heap.size := by have := x.2.2.2.2.2.2.2.2.2.2; omega
          have hl1 : w.heap.size + 1 < W5.heap.size := by have := x.2.2.2.2.2.2.2.2.2.2; omega
          have hl2 : w.heap.size + 1 + 1 < W5.heap.size := by have := x.2.2.2.2.2.2.2.2.2.2; omega
          rcases hwH with rfl | rfl | rfl
          rotate_left
          · go_wp2_with fail
            go_ret
            exact ⟨rfl, (X.out _ HB5.out).2.2.2.2.2.2.2.2.2.1⟩
          · go_wp2_with fail
            go_ret
            exact ⟨rfl, (X.out _ HB5.out).2.2.2.2.2.2.2.2.2.1⟩
          · have HCH := Lib.hid hcH
            clear hcH
            clear a0 a1 a2 a3 a4 a5 x hl0 hl1 hl2
            have x := X.out W5 HB5.out
            have a0 := Lib.cell_of_heap x.2.2.2.2.2.2.1 0
            have a1 := Lib.cell_of_heap x.2.2.2.2.2.2.1 1
            have a2 := Lib.cell_of_heap x.2.2.2.2.2.2.2.1 0
            have a3 := Lib.cell_of_heap x.2.2.2.2.2.2.2.1 1
            have a4 := Lib.cell_of_heap x.2.2.2.2.2.2.2.2.1 0
            have a5 := Lib.cell_of_heap x.2.2.2.2.2.2.2.2.1 1
            simp only [List.getElem?_toArray, List.getElem?_cons_zero, List.getElem?_cons_succ] at a0 a1 a2 a3 a4 a5
            have hl0 : w.heap.size < W5.heap.size := by have := x.2.2.2.2.2.2.2.2.2.2; omega
            have hl1 : w.heap.size + 1 < W5.heap.size := by have := x.2.2.2.2.2.2.2.2.2.2; omega
            have hl2 : w.heap.size + 1 + 1 < W5.heap.size := by have := x.2.2.2.2.2.2.2.2.2.2; omega
            obtain ⟨cK, hcK⟩ : ∃ c, checkG K t = c := ⟨_, rfl⟩
            have hwK := checkG_ways K t
            have C := Lib.hid (check_any S (.slice xk p ck) t K W5 T ev x.2.2.2.2.1 x.2.2.2.2.2.1 x.2.2.1 x.2.2.2.1 Z.out.2.2.1)
            rw [hcK] at C hwK
            go_wp2_with fail
            refine C.out.mono ?_
            rintro e6 W6 ⟨rfl, hB6⟩
            have s6 := hB6.size
            have HB6 := Lib.hid (HB5.out.trans (hB6.mono (by omega)))
            clear C hB6
            clear a0 a1 a2 a3 a4 a5 x hl0 hl1 hl2
            have x := X.out W6 HB6.out
            have a0 := Lib.cell_of_heap x.2.2.2.2.2.2.1 0
            have a1 := Lib.cell_of_heap x.2.2.2.2.2.2.1 1
            have a2 := Lib.cell_of_heap x.2.2.2.2.2.2.2.1 0
            have a3 := Lib.cell_of_heap x.2.2.2.2.2.2.2.1 1
            have a4 := Lib.cell_of_heap x.2.2.2.2.2.2.2.2.1 0
            have a5 := Lib.cell_of_heap x.2.2.2.2.2.2.2.2.1 1
            simp only [List.getElem?_toArray, List.getElem?_cons_zero, List.getElem?_cons_succ] at a0 a1 a2 a3 a4 a5
            have hl0 : w.heap.size < W6.heap.size := by have := x.2.2.2.2.2.2.2.2.2.2; omega
            have hl1 : w.heap.size + 1 < W6.heap.size := by have := x.2.2.2.2.2.2.2.2.2.2; omega
            have hl2 : w.heap.size + 1 + 1 < W6.heap.size := by have := x.2.2.2.2.2.2.2.2.2.2; omega
            rcases hwK with rfl | rfl | rfl
            rotate_left
            · go_wp2_with fail
              go_ret
              exact ⟨rfl, (X.out _ HB6.out).2.2.2.2.2.2.2.2.2.1⟩
            · go_wp2_with fail
              go_ret
              exact ⟨rfl, (X.out _ HB6.out).2.2.2.2.2.2.2.2.2.1⟩
            · have HCK := Lib.hid hcK
              clear hcK
              clear a0 a1 a2 a3 a4 a5 x hl0 hl1 hl2
              have hgr := great_len (l := G) (k := 200) (by omega)
              have RD := Lib.hid (reachG_done HCG.out (fun x hx => by have := hgr.2.1 x hx; omega))
              have x := X.out W6 HB6.out
              have a0 := Lib.cell_of_heap x.2.2.2.2.2.2.1 0
              have a1 := Lib.cell_of_heap x.2.2.2.2.2.2.1 1
              have a2 := Lib.cell_of_heap x.2.2.2.2.2.2.2.1 0
              have a3 := Lib.cell_of_heap x.2.2.2.2.2.2.2.1 1
              have a4 := Lib.cell_of_heap x.2.2.2.2.2.2.2.2.1 0
              have a5 := Lib.cell_of_heap x.2.2.2.2.2.2.2.2.1 1
              simp only [List.getElem?_toArray, List.getElem?_cons_zero, List.getElem?_cons_succ] at a0 a1 a2 a3 a4 a5
              have hl0 : w.heap.size < W6.heap.size := by have := x.2.2.2.2.2.2.2.2.2.2; omega
              have hl1 : w.heap.size + 1 < W6.heap.size := by have := x.2.2.2.2.2.2.2.2.2.2; omega
              have hl2 : w.heap.size + 1 + 1 < W6.heap.size := by have := x.2.2.2.2.2.2.2.2.2.2; omega
              have C := Lib.hid (reach_any S (.slice xg n cg) r G W6 T ev x.2.2.2.2.1 x.2.2.2.2.2.1 x.1 x.2.2.2.1 Z.out.1 (by omega) (fun x hx => by have := hgr.2.1 x hx; omega))
              obtain ⟨L, hL⟩ : ∃ L, reachG G r = L := ⟨_, rfl⟩
              rw [hL] at C RD
              clear hL
              obtain ⟨N, hN⟩ : ∃ N, L.length = N := ⟨_, rfl⟩
              have hN2 : N ≤ 200 := by
                have := Gu.nodup_le RD.out.1 RD.out.2.1
                rw [HGO.out.2.2.1] at this
                have h := hgr.1
                rw [HGO.out.2.2.1] at h
                omega
              have hN0 : 0 < N := by
                have h := RD.out.2.2.1
                rcases L with _ | ⟨a, l⟩
                · cases h
                · simp at hN; omega
              rw [hN] at C
              have HLN := Lib.hid hN
              have HGR := Lib.hid hgr
              clear hN hgr
              go_wp2_with fail
              refine C.out.mono ?_
              rintro e7 W7 ⟨v, rfl, ho, hB7⟩
              have s7 := hB7.size
              have HB7 := Lib.hid (HB6.out.trans (hB7.mono (by omega)))
              clear C hB7
              clear a0 a1 a2 a3 a4 a5 x hl0 hl1 hl2
              obtain ⟨gl, cl, rfl, hgl, hcl, hcx⟩ : ∃ gl cl, v = .slice (some ⟨gl, 0, none⟩) N cl ∧ gl < W7.heap.size ∧ N ≤ cl ∧ cl ≤ maxLen := by
                rcases ho.2 with ⟨_, h0⟩ | ⟨g, cap, cur, hv, h1, h2, h3, h4, _⟩
                · omega
                · exact ⟨g, cap, hv, (ho.lt g (by rw [hv]; rfl)).2, h3, h4⟩
              unfold maxLen at hcx
              have HO : Hid (∀ i q : Nat, L[i]? = some q → W7.cell? ⟨gl, i, none⟩ = some (.int .i64 (q : Int))) := Lib.hid fun i q hq => by
                have hi := (List.getElem?_eq_some_iff.1 hq).1
                rw [ho.cellAt _ (by have := HLN.out; omega)]
                unfold nums
                rw [List.getElem?_map, hq]; rfl
              clear ho
              have hmm := @run_makeMap Tryd.prog
              go_wp2_with fail
              clear hmm
              go_loopg [50] N (fun gk i wr => ∃ j : Nat, gk = N - j ∧ i = .int .i64 (j : Int) ∧ j ≤ N ∧ Met wr W7.heap.size j (fun k => (L.take j).contains k) ∧ Below W7.heap.size W7 wr)
              case atStart => exact ⟨0, by simp, by first | rfl | simp, Nat.zero_le _, by simpa using met_made W7, (Below.refl _ _).alloc (Nat.le_refl _) _⟩
              case round =>
                obtain ⟨j, rfl, rfl, hj, hm, hB⟩ := hrel
                have sr := hB.size
                by_cases hlt : j < N
                · have hi' : (j : Int) < (N : Int) := by omega
                  obtain ⟨q, hq⟩ : ∃ q, L[j]? = some q := ⟨_, List.getElem?_eq_getElem (by have := HLN.out; omega)⟩
                  have hqn : q ≤ 4611686018427387904 := by have h := RD.out.2.1 q (List.mem_of_getElem? hq); have h2 := HGR.out.1; omega
                  have e1 : wr.cell? ⟨gl, j, none⟩ = some (.int .i64 (q : Int)) := (World.cell?_of_block (hB.block gl hgl)).trans (HO.out j q hq)
                  have hlw : gl < wr.heap.size := by omega
                  have htk : L.take (j + 1) = L.take j ++ [q] := by rw [List.take_add_one, hq]; rfl
                  obtain ⟨f, hf⟩ : ∃ f : Nat → Bool, (fun k => (L.take j).contains k) = f := ⟨_, rfl⟩
                  have hfq : f q = false := by
                    rw [← hf]
                    simp only [List.contains_eq_mem, decide_eq_false_iff_not]
                    intro h
                    obtain ⟨i, hi, e⟩ := List.mem_iff_getElem.1 h
                    rw [List.length_take] at hi
                    rw [List.getElem_take] at e
                    obtain ⟨h1, h2⟩ := List.getElem?_eq_some_iff.1 hq
                    exact List.pairwise_iff_getElem.1 RD.out.1 i j (by omega) h1 (by omega) (e.trans h2.symm)
                  rw [hf] at hm
                  have HM := Lib.hid hm
                  have HF := Lib.hid (And.intro hf (And.intro htk hB))
                  clear hf htk hB hm hq
                  go_wp2_with (first
                    | (at_lookup; (refine wpList_met_look rfl (.tmp 54) (.tmp 55) rfl HM.out rfl rfl hqn ?_); (rw [hfq]))
                    | (at_mapUpdate; (refine wpList_met_put rfl (.tmp 57) (.tmp 58) _ rfl HM.out (by unfold maxLen; omega) rfl rfl hqn rfl ?_); (intro w8 hm8 hg8)))
                  go_roundg (N - (j + 1))
                  case measure => omega
                  case rel =>
                    obtain ⟨hf, htk, hB⟩ := HF.out
                    refine ⟨j + 1, rfl, by first | rfl | simp, hlt, ?_, hB.grown hg8 (by omega) (fun k hk => by cases hk; omega)⟩
                    have e : (fun k => (L.take (j + 1)).contains k) = fun k => k == q || f k := by
                      funext k
                      rw [htk, ← hf]
                      by_cases hk : k = q <;> simp [hk]
                    rw [e]
                    exact hm8
                · have hi' : ¬ (j : Int) < (N : Int) := by omega
                  obtain rfl : N = j := by omega
                  have hm' : Met wr W7.heap.size N (fun k => L.contains k) := by
                    have hall : L.take N = L := List.take_of_length_le (by have := HLN.out; omega)
                    rw [hall] at hm
                    exact hm
                  obtain ⟨W8, e8⟩ : ∃ W8, W8 = wr := ⟨_, rfl⟩
                  rw [← e8] at hm' hB sr ⊢
                  clear e8 hm
                  have HM := Lib.hid hm'
                  have HB8 := Lib.hid (HB7.out.trans (hB.mono (by omega)))
                  have HO8 : Hid (∀ i q : Nat, L[i]? = some q → W8.cell? ⟨gl, i, none⟩ = some (.int .i64 (q : Int))) := Lib.hid fun i q hq => (World.cell?_of_block (hB.block gl hgl)).trans (HO.out i q hq)
                  have hl8 : gl < W8.heap.size := by omega
                  clear hm' hB HO
                  go_wp2_with fail
                  go_loopg [62] N (fun gk i wr => ∃ j : Nat, gk = N - j ∧ i = .int .i64 (j : Int) ∧ j ≤ N ∧ Below W8.heap.size W8 wr)
                  case atStart => exact ⟨0, by simp, by first | rfl | simp, Nat.zero_le _, Below.refl _ _⟩
                  case round =>
                    obtain ⟨j, rfl, rfl, hj, hB⟩ := hrel
                    have sr2 := hB.size
                    by_cases hlt : j < N
                    · have hi' : (j : Int) < (N : Int) := by omega
                      obtain ⟨q, hq⟩ : ∃ q, L[j]? = some q := ⟨_, List.getElem?_eq_getElem (by have := HLN.out; omega)⟩
                      have hqL := List.mem_of_getElem? hq
                      have hqG := RD.out.2.1 q hqL
                      have e1 : wr.cell? ⟨gl, j, none⟩ = some (.int .i64 (q : Int)) := (World.cell?_of_block (hB.block gl hl8)).trans (HO8.out j q hq)
                      have xw := X.out wr (HB8.out.trans (hB.mono (by omega)))
                      have b0 := Lib.cell_of_heap xw.2.2.2.2.2.2.1 0
                      simp only [List.getElem?_toArray, List.getElem?_cons_zero, List.getElem?_cons_succ] at b0
                      have hen := HGO.out.2.2.1
                      obtain ⟨rfl, hgc, hgx, hSg⟩ := HGO.out.1 (by omega)
                      obtain ⟨va, vl, hgn⟩ := HGO.out.2.1 q hqG
                      have hBw := xw.2.2.2.2.2.2.2.2.2.1
                      have hgn2 := hgn.carry (keeps_of hBw Z.out.2.2.2.2.2.2) fun _ h => h
                      obtain ⟨xa, ca, ga, oa, rfl, hxa, hna⟩ := hgn2.ha.open_
                      have c2 := hgn2.c2
                      have hqn : (q : Int) < (n : Int) := by omega
                      have hgw : gg < wr.heap.size := xw.2.2.2.1 gg hSg
                      have hlw : gl < wr.heap.size := by omega
                      have hww : w.heap.size < wr.heap.size := by have := xw.2.2.2.2.2.2.2.2.2.2; omega
                      unfold maxLen at hgx
                      obtain ⟨na, hnl⟩ : ∃ na, (G[q]).args.length = na := ⟨_, rfl⟩
                      rw [hnl] at c2 hxa
                      have HQ := Lib.hid (And.intro hB (And.intro hxa (And.intro hna (And.intro hnl (And.intro hqL hSg)))))
                      clear hB hxa hna hgn hgn2 xw hq hBw
                      go_wp2_with fail
                      obtain ⟨wo, ewo⟩ : ∃ wo, wo = wr := ⟨_, rfl⟩
                      rw [← ewo] at HQ
                      go_loopg [73] na (fun gk i wz => ∃ k : Nat, gk = na - k ∧ i = .int .i64 (k : Int) ∧ k ≤ na ∧ wz = wo)
                      case atStart => exact ⟨0, by simp, by first | rfl | simp, Nat.zero_le _, ewo.symm⟩
                      case round =>
                        obtain ⟨k, rfl, rfl, hk, ez⟩ := hrel
                        rw [ez]
                        clear ez ewo
                        by_cases hlk : k < na
                        · have hi2 : (k : Int) < (na : Int) := by omega
                          obtain ⟨rfl, ha1, ha2, hSa⟩ := HQ.out.2.1 (by omega)
                          have hka : k < (G[q]).args.length := by have := HQ.out.2.2.2.1; omega
                          have ca0 := HQ.out.2.2.1 k hka
                          obtain ⟨a, hav⟩ : ∃ a, (G[q]).args[k] = a := ⟨_, rfl⟩
                          have haf := args_fit HCG.out hqG _ (List.getElem_mem hka)
                          rw [hav] at haf ca0
                          obtain ⟨a', rfl⟩ : ∃ a' : Nat, a = (a' : Int) := ⟨a.toNat, by omega⟩
                          have haL : L.contains a' = true := by
                            have h := RD.out.2.2.2.1 q HQ.out.2.2.2.2.1 a' (by
                              rw [argsOf_eq hqG]
                              have := List.mem_map_of_mem (f := Int.toNat) (List.getElem_mem hka)
                              rw [hav] at this
                              simpa using this)
                            simpa using h
                          have hal : a' ≤ 4611686018427387904 := by have := HGR.out.1; omega
                          have haw : ga < wo.heap.size := by have h1 := (X.out wo (HB8.out.trans (HQ.out.1.mono (by omega)))).2.2.2.1 ga hSa; exact h1
                          have HMz : Hid (Met wo _ _ _) := Lib.hid (Met.of HM.out (HQ.out.1.block _ HM.out.lt))
                          unfold maxLen at ha2
                          go_wp2_with (at_lookup; (refine wpList_met_look rfl (.tmp 77) (.tmp 78) rfl HMz.out rfl rfl hal ?_); (rw [haL]))
                          go_roundg (na - (k + 1))
                          case measure => omega
                          case rel => exact ⟨k + 1, rfl, by first | rfl | simp, hlk, rfl⟩
                        · have hi2 : ¬ (k : Int) < (na : Int) := by omega
                          go_wp2_with fail
                          go_roundg (N - (j + 1))
                          case measure => omega
                          case rel => exact ⟨j + 1, rfl, by first | rfl | simp, hlt, HQ.out.1⟩
                    · have hi' : ¬ (j : Int) < (N : Int) := by omega
                      obtain rfl : N = j := by omega
                      obtain ⟨W9, e9⟩ : ∃ W9, W9 = wr := ⟨_, rfl⟩
                      rw [← e9] at hB sr2 ⊢
                      clear e9
                      have HB9 := Lib.hid (HB8.out.trans (hB.mono (by omega)))
                      have SO : Hid (∀ V, Below W9.heap.size W9 V → V.cell? ⟨gl, 0, none⟩ = some (.int .i64 r) ∧ V.cell? ⟨w.heap.size, 0, none⟩ = some (.slice xg n cg) ∧ V.cell? ⟨w.heap.size, 1, none⟩ = some (.int .i64 r) ∧ V.cell? ⟨w.heap.size + 1, 0, none⟩ = some (.slice xh m ch) ∧ V.cell? ⟨w.heap.size + 1, 1, none⟩ = some (.int .i64 s) ∧ V.cell? ⟨w.heap.size + 1 + 1, 0, none⟩ = some (.slice xk p ck) ∧ V.cell? ⟨w.heap.size + 1 + 1, 1, none⟩ = some (.int .i64 t)) := Lib.hid fun U hU => by
                        have h1 : L[0]? = some r.toNat := by
                          have := RD.out.2.2.1
                          rwa [List.head?_eq_getElem?] at this
                        have hr := inside_iff.1 (checkG_ok.1 HCG.out).2.1
                        have h2 := (World.cell?_of_block ((hU.block gl (by omega)).trans (hB.block gl hl8))).trans (HO8.out 0 _ h1)
                        rw [show ((r.toNat : Nat) : Int) = r by omega] at h2
                        have x := X.out U (HB9.out.trans (hU.mono (by have := HB9.out.size; omega)))
                        exact ⟨h2, Lib.cell_of_heap x.2.2.2.2.2.2.1 0, Lib.cell_of_heap x.2.2.2.2.2.2.1 1, Lib.cell_of_heap x.2.2.2.2.2.2.2.1 0, Lib.cell_of_heap x.2.2.2.2.2.2.2.1 1, Lib.cell_of_heap x.2.2.2.2.2.2.2.2.1 0, Lib.cell_of_heap x.2.2.2.2.2.2.2.2.1 1⟩
                      have XY : Hid (∀ U, Below W9.heap.size W9 U → GrAt U S (.slice xg n cg) G ∧ GrAt U S (.slice xh m ch) H ∧ GrAt U S (.slice xk p ck) K ∧ (∀ b, S b → b < U.heap.size) ∧ U.cell? ⟨0, 0, none⟩ = some (.iface T ev) ∧ 0 < U.heap.size ∧ U.heap[w.heap.size]? = some (.cells #[.slice xg n cg, .int .i64 r] 24) ∧ U.heap[w.heap.size + 1]? = some (.cells #[.slice xh m ch, .int .i64 s] 24) ∧ U.heap[w.heap.size + 1 + 1]? = some (.cells #[.slice xk p ck, .int .i64 t] 24) ∧ Below w.heap.size w U ∧ w.heap.size + 3 ≤ U.heap.size) := Lib.hid fun U hU => X.out U (HB9.out.trans (hU.mono HB9.out.size))
                      have grG := HGR.out
                      have grH := great_len (l := H) (k := 200) (by omega)
                      have grK := great_len (l := K) (k := 200) (by omega)
                      have CA : Hid (∀ U, Below W9.heap.size W9 U → Calls Tryd.prog 21 #[.agg #[.slice xg n cg, .int .i64 r], .agg #[.slice xh m ch, .int .i64 s]] U fun e w' => e = .returned (.bool (sameGr G r H s)) ∧ Below W9.heap.size W9 w') := Lib.hid fun U hU => by
                        have x := XY.out U hU
                        exact (gsame_any S _ _ r s G H U T ev x.2.2.2.2.1 x.2.2.2.2.2.1 x.1 x.2.1 x.2.2.2.1 Z.out.1 Z.out.2.1 (by omega) (by omega) (fun x hx => by have := grG.2.1 x hx; omega)).mono fun e w' h => ⟨h.1, hU.trans (h.2.mono hU.size)⟩
                      have CB : Hid (∀ U, Below W9.heap.size W9 U → Calls Tryd.prog 21 #[.agg #[.slice xh m ch, .int .i64 s], .agg #[.slice xk p ck, .int .i64 t]] U fun e w' => e = .returned (.bool (sameGr H s K t)) ∧ Below W9.heap.size W9 w') := Lib.hid fun U hU => by
                        have x := XY.out U hU
                        exact (gsame_any S _ _ s t H K U T ev x.2.2.2.2.1 x.2.2.2.2.2.1 x.2.1 x.2.2.1 x.2.2.2.1 Z.out.2.1 Z.out.2.2.1 (by omega) (by omega) (fun x hx => by have := grH.2.1 x hx; omega)).mono fun e w' h => ⟨h.1, hU.trans (h.2.mono hU.size)⟩
                      have CD : Hid (∀ U, Below W9.heap.size W9 U → Calls Tryd.prog 21 #[.agg #[.slice xg n cg, .int .i64 r], .agg #[.slice xk p ck, .int .i64 t]] U fun e w' => e = .returned (.bool (sameGr G r K t)) ∧ Below W9.heap.size W9 w') := Lib.hid fun U hU => by
                        have x := XY.out U hU
                        exact (gsame_any S _ _ r t G K U T ev x.2.2.2.2.1 x.2.2.2.2.2.1 x.1 x.2.2.1 x.2.2.2.1 Z.out.1 Z.out.2.2.1 (by omega) (by omega) (fun x hx => by have := grG.2.1 x hx; omega)).mono fun e w' h => ⟨h.1, hU.trans (h.2.mono hU.size)⟩
                      have FIN : Hid (∀ U, Below W9.heap.size W9 U → Below w.heap.size w U) := Lib.hid fun U hU => (XY.out U hU).2.2.2.2.2.2.2.2.2.1
                      have htr : sameGr G r H s = true → sameGr H s K t = true → sameGr G r K t = true := fun h1 h2 => sameGr_iff.2 ((sameGr_iff.1 h1).trans (sameGr_iff.1 h2))
                      obtain ⟨A, hA⟩ : ∃ A, sameGr G r H s = A := ⟨_, rfl⟩
                      obtain ⟨B, hBv⟩ : ∃ B, sameGr H s K t = B := ⟨_, rfl⟩
                      obtain ⟨D, hD⟩ : ∃ D, sameGr G r K t = D := ⟨_, rfl⟩
                      rw [hA] at CA htr
                      rw [hBv] at CB htr
                      rw [hD] at CD htr
                      have hBB : Below W9.heap.size W9 W9.drew := (Below.refl _ _).drew
                      clear hA hBv hD hB grG grH grK
                      go_wp2_with fail
                      cases A with
                      | false =>
                        refine wp_region_held_drew (S := fun V => V.cell? ⟨gl, 0, none⟩ = some (.int .i64 r) ∧ V.cell? ⟨w.heap.size, 0, none⟩ = some (.slice xg n cg) ∧ V.cell? ⟨w.heap.size, 1, none⟩ = some (.int .i64 r) ∧ V.cell? ⟨w.heap.size + 1, 0, none⟩ = some (.slice xh m ch) ∧ V.cell? ⟨w.heap.size + 1, 1, none⟩ = some (.int .i64 s) ∧ V.cell? ⟨w.heap.size + 1 + 1, 0, none⟩ = some (.slice xk p ck) ∧ V.cell? ⟨w.heap.size + 1 + 1, 1, none⟩ = some (.int .i64 t)) (by kernel_rfl) (SO.out _ hBB) (fun hHeld => ?_)
                        refine wpAnyH_take (i := 0) (v := ?_) rfl (by kernel_rfl) (by kernel_rfl) (by kernel_rfl) (fun _ _ _ h => h) (Or.inl ⟨by rfl, ?_⟩) (by assumption) ?_
                        rotate_left
                        · intro w hSw
                          (try dsimp only at hSw)
                          go_simp
                          try with_reducible rfl
                        try simp only [List.getElem_toArray, List.getElem_cons_zero, List.getElem_cons_succ, Act.put, List.setIfInBounds_toArray, List.set_cons_zero, List.set_cons_succ]
                        refine wpAnyH_take (i := 1) (v := ?_) rfl (by kernel_rfl) (by kernel_rfl) (by kernel_rfl) (fun _ _ _ h => h) (Or.inl ⟨by rfl, ?_⟩) (by assumption) ?_
                        rotate_left
                        · intro w hSw
                          (try dsimp only at hSw)
                          go_simp
                          try with_reducible rfl
                        try simp only [List.getElem_toArray, List.getElem_cons_zero, List.getElem_cons_succ, Act.put, List.setIfInBounds_toArray, List.set_cons_zero, List.set_cons_succ]
                        refine wpAnyH_take (i := 2) (v := ?_) rfl (by kernel_rfl) (by kernel_rfl) (by kernel_rfl) (fun _ _ _ h => h) (Or.inl ⟨by rfl, ?_⟩) (by assumption) ?_
                        rotate_left
                        · intro w hSw
                          (try dsimp only at hSw)
                          go_simp
                          try with_reducible rfl
                        try simp only [List.getElem_toArray, List.getElem_cons_zero, List.getElem_cons_succ, Act.put, List.setIfInBounds_toArray, List.set_cons_zero, List.set_cons_succ]
                        refine wpAnyH_take (i := 3) (v := ?_) rfl (by kernel_rfl) (by kernel_rfl) (by kernel_rfl) (fun _ _ _ h => h) (Or.inl ⟨by rfl, ?_⟩) (by assumption) ?_
                        rotate_left
                        · intro w hSw
                          (try dsimp only at hSw)
                          go_simp
                          try with_reducible rfl
                        try simp only [List.getElem_toArray, List.getElem_cons_zero, List.getElem_cons_succ, Act.put, List.setIfInBounds_toArray, List.set_cons_zero, List.set_cons_succ]
                        refine wpAnyH_take (i := 4) (v := ?_) rfl (by kernel_rfl) (by kernel_rfl) (by kernel_rfl) (fun _ _ _ h => h) (Or.inl ⟨by rfl, ?_⟩) (by assumption) ?_
                        rotate_left
                        · intro w hSw
                          (try dsimp only at hSw)
                          go_simp
                          try with_reducible rfl
                        try simp only [List.getElem_toArray, List.getElem_cons_zero, List.getElem_cons_succ, Act.put, List.setIfInBounds_toArray, List.set_cons_zero, List.set_cons_succ]
                        refine wpAnyH_take (i := 5) (v := ?_) rfl (by kernel_rfl) (by kernel_rfl) (by kernel_rfl) (fun _ _ _ h => h) (Or.inl ⟨by rfl, ?_⟩) (by assumption) ?_
                        rotate_left
                        · intro w hSw
                          (try dsimp only at hSw)
                          go_simp
                          try with_reducible rfl
                        try simp only [List.getElem_toArray, List.getElem_cons_zero, List.getElem_cons_succ, Act.put, List.setIfInBounds_toArray, List.set_cons_zero, List.set_cons_succ]
                        refine wpAnyH_take (i := 6) (v := ?_) rfl (by kernel_rfl) (by kernel_rfl) (by kernel_rfl) (fun _ _ _ h => h) (Or.inl ⟨by rfl, ?_⟩) (by assumption) ?_
                        rotate_left
                        · intro w hSw
                          (try dsimp only at hSw)
                          go_simp
                          try with_reducible rfl
                        try simp only [List.getElem_toArray, List.getElem_cons_zero, List.getElem_cons_succ, Act.put, List.setIfInBounds_toArray, List.set_cons_zero, List.set_cons_succ]
                        refine wpAnyH_take (i := 7) (v := ?_) rfl (by kernel_rfl) (by kernel_rfl) (by kernel_rfl) (fun _ _ _ h => h) (Or.inl ⟨by rfl, ?_⟩) (by assumption) ?_
                        rotate_left
                        · intro w hSw
                          (try dsimp only at hSw)
                          go_simp
                          try with_reducible rfl
                        try simp only [List.getElem_toArray, List.getElem_cons_zero, List.getElem_cons_succ, Act.put, List.setIfInBounds_toArray, List.set_cons_zero, List.set_cons_succ]
                        refine wpAnyH_take (i := 8) (v := ?_) rfl (by kernel_rfl) (by kernel_rfl) (by kernel_rfl) (fun _ _ _ h => h) (Or.inl ⟨by rfl, ?_⟩) (by assumption) ?_
                        rotate_left
                        · intro w hSw
                          (try dsimp only at hSw)
                          go_simp
                          try with_reducible rfl
                        try simp only [List.getElem_toArray, List.getElem_cons_zero, List.getElem_cons_succ, Act.put, List.setIfInBounds_toArray, List.set_cons_zero, List.set_cons_succ]
                        refine wpAnyH_ready (rs := [9]) (by kernel_rfl) (by simp) ?_
                        refine AllReadyH.cons (by simp only [List.getElem?_toArray, List.getElem?_cons_zero, List.getElem?_cons_succ]; rfl) (fun K hK => ?_) AllReadyH.nil
                        go_simp
                        (go_at_call 21; with_reducible refine (CA.out _ hBB).mono ?_; rintro e9 w9 ⟨rfl, hBB⟩)
                        go_wp2_with fail
                        refine hK.out _ _ (by first | assumption | exact SO.out _ (by first | exact hBB | exact dN_below hBB _ | exact hBB.drew)) (fun hHeld => ?_)
                        try simp only [List.getElem_toArray, List.getElem_cons_zero, List.getElem_cons_succ, Act.put, List.setIfInBounds_toArray, List.set_cons_zero, List.set_cons_succ]
                        refine wpAnyH_take (i := 10) (v := ?_) rfl (by kernel_rfl) (by kernel_rfl) (by kernel_rfl) (fun _ _ _ h => h) (Or.inl ⟨by rfl, ?_⟩) (by assumption) ?_
                        rotate_left
                        · intro w hSw
                          (try dsimp only at hSw)
                          go_simp
                          try with_reducible rfl
                        try simp only [List.getElem_toArray, List.getElem_cons_zero, List.getElem_cons_succ, Act.put, List.setIfInBounds_toArray, List.set_cons_zero, List.set_cons_succ]
                        refine wpAnyH_take (i := 11) (v := ?_) rfl (by kernel_rfl) (by kernel_rfl) (by kernel_rfl) (fun _ _ _ h => h) (Or.inl ⟨by rfl, ?_⟩) (by assumption) ?_
                        rotate_left
                        · intro w hSw
                          (try dsimp only at hSw)
                          go_simp
                          try with_reducible rfl
                        try simp only [List.getElem_toArray, List.getElem_cons_zero, List.getElem_cons_succ, Act.put, List.setIfInBounds_toArray, List.set_cons_zero, List.set_cons_succ]
                        refine wpAnyH_take (i := 12) (v := undef) rfl (by kernel_rfl) (by kernel_rfl) (by kernel_rfl) (fun _ _ _ h => h) (Or.inr ⟨by rfl, rfl⟩) (by assumption) ?_
                        try simp only [List.getElem_toArray, List.getElem_cons_zero, List.getElem_cons_succ, Act.put, List.setIfInBounds_toArray, List.set_cons_zero, List.set_cons_succ]
                        refine wpAnyH_take (i := 13) (v := undef) rfl (by kernel_rfl) (by kernel_rfl) (by kernel_rfl) (fun _ _ _ h => h) (Or.inr ⟨by rfl, rfl⟩) (by assumption) ?_
                        try simp only [List.getElem_toArray, List.getElem_cons_zero, List.getElem_cons_succ, Act.put, List.setIfInBounds_toArray, List.set_cons_zero, List.set_cons_succ]
                        refine wpAnyH_take (i := 14) (v := undef) rfl (by kernel_rfl) (by kernel_rfl) (by kernel_rfl) (fun _ _ _ h => h) (Or.inr ⟨by rfl, rfl⟩) (by assumption) ?_
                        try simp only [List.getElem_toArray, List.getElem_cons_zero, List.getElem_cons_succ, Act.put, List.setIfInBounds_toArray, List.set_cons_zero, List.set_cons_succ]
                        refine wpAnyH_take (i := 15) (v := undef) rfl (by kernel_rfl) (by kernel_rfl) (by kernel_rfl) (fun _ _ _ h => h) (Or.inr ⟨by rfl, rfl⟩) (by assumption) ?_
                        try simp only [List.getElem_toArray, List.getElem_cons_zero, List.getElem_cons_succ, Act.put, List.setIfInBounds_toArray, List.set_cons_zero, List.set_cons_succ]
                        refine wpAnyH_take (i := 16) (v := ?_) rfl (by kernel_rfl) (by kernel_rfl) (by kernel_rfl) (fun _ _ _ h => h) (Or.inl ⟨by rfl, ?_⟩) (by assumption) ?_
                        rotate_left
                        · intro w hSw
                          (try dsimp only at hSw)
                          go_simp
                          try with_reducible rfl
                        try simp only [List.getElem_toArray, List.getElem_cons_zero, List.getElem_cons_succ, Act.put, List.setIfInBounds_toArray, List.set_cons_zero, List.set_cons_succ]
                        refine wpAnyH_take (i := 17) (v := ?_) rfl (by kernel_rfl) (by kernel_rfl) (by kernel_rfl) (fun _ _ _ h => h) (Or.inl ⟨by rfl, ?_⟩) (by assumption) ?_
                        rotate_left
                        · intro w hSw
                          (try dsimp only at hSw)
                          go_simp
                          try with_reducible rfl
                        try simp only [List.getElem_toArray, List.getElem_cons_zero, List.getElem_cons_succ, Act.put, List.setIfInBounds_toArray, List.set_cons_zero, List.set_cons_succ]
                        refine wpAnyH_take (i := 18) (v := undef) rfl (by kernel_rfl) (by kernel_rfl) (by kernel_rfl) (fun _ _ _ h => h) (Or.inr ⟨by rfl, rfl⟩) (by assumption) ?_
                        try simp only [List.getElem_toArray, List.getElem_cons_zero, List.getElem_cons_succ, Act.put, List.setIfInBounds_toArray, List.set_cons_zero, List.set_cons_succ]
                        refine wpAnyH_take (i := 19) (v := undef) rfl (by kernel_rfl) (by kernel_rfl) (by kernel_rfl) (fun _ _ _ h => h) (Or.inr ⟨by rfl, rfl⟩) (by assumption) ?_
                        try simp only [List.getElem_toArray, List.getElem_cons_zero, List.getElem_cons_succ, Act.put, List.setIfInBounds_toArray, List.set_cons_zero, List.set_cons_succ]
                        refine wpAnyH_take (i := 20) (v := undef) rfl (by kernel_rfl) (by kernel_rfl) (by kernel_rfl) (fun _ _ _ h => h) (Or.inr ⟨by rfl, rfl⟩) (by assumption) ?_
                        try simp only [List.getElem_toArray, List.getElem_cons_zero, List.getElem_cons_succ, Act.put, List.setIfInBounds_toArray, List.set_cons_zero, List.set_cons_succ]
                        refine wpAnyH_take (i := 21) (v := ?_) rfl (by kernel_rfl) (by kernel_rfl) (by kernel_rfl) (fun _ _ _ h => h) (Or.inl ⟨by rfl, ?_⟩) (by assumption) ?_
                        rotate_left
                        · intro w hSw
                          (try dsimp only at hSw)
                          go_simp
                          try with_reducible rfl
                        try simp only [List.getElem_toArray, List.getElem_cons_zero, List.getElem_cons_succ, Act.put, List.setIfInBounds_toArray, List.set_cons_zero, List.set_cons_succ]
                        refine wpAnyH_take (i := 22) (v := ?_) rfl (by kernel_rfl) (by kernel_rfl) (by kernel_rfl) (fun _ _ _ h => h) (Or.inl ⟨by rfl, ?_⟩) (by assumption) ?_
                        rotate_left
                        · intro w hSw
                          (try dsimp only at hSw)
                          go_simp
                          try with_reducible rfl
                        try simp only [List.getElem_toArray, List.getElem_cons_zero, List.getElem_cons_succ, Act.put, List.setIfInBounds_toArray, List.set_cons_zero, List.set_cons_succ]
                        refine wpAnyH_take (i := 23) (v := ?_) rfl (by kernel_rfl) (by kernel_rfl) (by kernel_rfl) (fun _ _ _ h => h) (Or.inl ⟨by rfl, ?_⟩) (by assumption) ?_
                        rotate_left
                        · intro w hSw
                          (try dsimp only at hSw)
                          go_simp
                          try with_reducible rfl
                        try simp only [List.getElem_toArray, List.getElem_cons_zero, List.getElem_cons_succ, Act.put, List.setIfInBounds_toArray, List.set_cons_zero, List.set_cons_succ]
                        refine wpAnyH_done (by kernel_rfl) ?_ _
                        go_wp2_with fail
                        go_ret
                        exact ⟨rfl, FIN.out _ (by first | exact hBB | exact dN_below hBB _ | exact hBB.drew)⟩
                      | true =>
                        cases B with
                        | false =>
                          refine wp_region_held_drew (S := fun V => V.cell? ⟨gl, 0, none⟩ = some (.int .i64 r) ∧ V.cell? ⟨w.heap.size, 0, none⟩ = some (.slice xg n cg) ∧ V.cell? ⟨w.heap.size, 1, none⟩ = some (.int .i64 r) ∧ V.cell? ⟨w.heap.size + 1, 0, none⟩ = some (.slice xh m ch) ∧ V.cell? ⟨w.heap.size + 1, 1, none⟩ = some (.int .i64 s) ∧ V.cell? ⟨w.heap.size + 1 + 1, 0, none⟩ = some (.slice xk p ck) ∧ V.cell? ⟨w.heap.size + 1 + 1, 1, none⟩ = some (.int .i64 t)) (by kernel_rfl) (SO.out _ hBB) (fun hHeld => ?_)
                          refine wpAnyH_take (i := 0) (v := ?_) rfl (by kernel_rfl) (by kernel_rfl) (by kernel_rfl) (fun _ _ _ h => h) (Or.inl ⟨by rfl, ?_⟩) (by assumption) ?_
                          rotate_left
                          · intro w hSw
                            (try dsimp only at hSw)
                            go_simp
                            try with_reducible rfl
                          try simp only [List.getElem_toArray, List.getElem_cons_zero, List.getElem_cons_succ, Act.put, List.setIfInBounds_toArray, List.set_cons_zero, List.set_cons_succ]
                          refine wpAnyH_take (i := 1) (v := ?_) rfl (by kernel_rfl) (by kernel_rfl) (by kernel_rfl) (fun _ _ _ h => h) (Or.inl ⟨by rfl, ?_⟩) (by assumption) ?_
                          rotate_left
                          · intro w hSw
                            (try dsimp only at hSw)
                            go_simp
                            try with_reducible rfl
                          try simp only [List.getElem_toArray, List.getElem_cons_zero, List.getElem_cons_succ, Act.put, List.setIfInBounds_toArray, List.set_cons_zero, List.set_cons_succ]
                          refine wpAnyH_take (i := 2) (v := ?_) rfl (by kernel_rfl) (by kernel_rfl) (by kernel_rfl) (fun _ _ _ h => h) (Or.inl ⟨by rfl, ?_⟩) (by assumption) ?_
                          rotate_left
                          · intro w hSw
                            (try dsimp only at hSw)
                            go_simp
                            try with_reducible rfl
                          try simp only [List.getElem_toArray, List.getElem_cons_zero, List.getElem_cons_succ, Act.put, List.setIfInBounds_toArray, List.set_cons_zero, List.set_cons_succ]
                          refine wpAnyH_take (i := 3) (v := ?_) rfl (by kernel_rfl) (by kernel_rfl) (by kernel_rfl) (fun _ _ _ h => h) (Or.inl ⟨by rfl, ?_⟩) (by assumption) ?_
                          rotate_left
                          · intro w hSw
                            (try dsimp only at hSw)
                            go_simp
                            try with_reducible rfl
                          try simp only [List.getElem_toArray, List.getElem_cons_zero, List.getElem_cons_succ, Act.put, List.setIfInBounds_toArray, List.set_cons_zero, List.set_cons_succ]
                          refine wpAnyH_take (i := 4) (v := ?_) rfl (by kernel_rfl) (by kernel_rfl) (by kernel_rfl) (fun _ _ _ h => h) (Or.inl ⟨by rfl, ?_⟩) (by assumption) ?_
                          rotate_left
                          · intro w hSw
                            (try dsimp only at hSw)
                            go_simp
                            try with_reducible rfl
                          try simp only [List.getElem_toArray, List.getElem_cons_zero, List.getElem_cons_succ, Act.put, List.setIfInBounds_toArray, List.set_cons_zero, List.set_cons_succ]
                          refine wpAnyH_take (i := 5) (v := ?_) rfl (by kernel_rfl) (by kernel_rfl) (by kernel_rfl) (fun _ _ _ h => h) (Or.inl ⟨by rfl, ?_⟩) (by assumption) ?_
                          rotate_left
                          · intro w hSw
                            (try dsimp only at hSw)
                            go_simp
                            try with_reducible rfl
                          try simp only [List.getElem_toArray, List.getElem_cons_zero, List.getElem_cons_succ, Act.put, List.setIfInBounds_toArray, List.set_cons_zero, List.set_cons_succ]
                          refine wpAnyH_take (i := 6) (v := ?_) rfl (by kernel_rfl) (by kernel_rfl) (by kernel_rfl) (fun _ _ _ h => h) (Or.inl ⟨by rfl, ?_⟩) (by assumption) ?_
                          rotate_left
                          · intro w hSw
                            (try dsimp only at hSw)
                            go_simp
                            try with_reducible rfl
                          try simp only [List.getElem_toArray, List.getElem_cons_zero, List.getElem_cons_succ, Act.put, List.setIfInBounds_toArray, List.set_cons_zero, List.set_cons_succ]
                          refine wpAnyH_take (i := 7) (v := ?_) rfl (by kernel_rfl) (by kernel_rfl) (by kernel_rfl) (fun _ _ _ h => h) (Or.inl ⟨by rfl, ?_⟩) (by assumption) ?_
                          rotate_left
                          · intro w hSw
                            (try dsimp only at hSw)
                            go_simp
                            try with_reducible rfl
                          try simp only [List.getElem_toArray, List.getElem_cons_zero, List.getElem_cons_succ, Act.put, List.setIfInBounds_toArray, List.set_cons_zero, List.set_cons_succ]
                          refine wpAnyH_take (i := 8) (v := ?_) rfl (by kernel_rfl) (by kernel_rfl) (by kernel_rfl) (fun _ _ _ h => h) (Or.inl ⟨by rfl, ?_⟩) (by assumption) ?_
                          rotate_left
                          · intro w hSw
                            (try dsimp only at hSw)
                            go_simp
                            try with_reducible rfl
                          try simp only [List.getElem_toArray, List.getElem_cons_zero, List.getElem_cons_succ, Act.put, List.setIfInBounds_toArray, List.set_cons_zero, List.set_cons_succ]
                          refine wpAnyH_ready (rs := [9]) (by kernel_rfl) (by simp) ?_
                          refine AllReadyH.cons (by simp only [List.getElem?_toArray, List.getElem?_cons_zero, List.getElem?_cons_succ]; rfl) (fun K hK => ?_) AllReadyH.nil
                          go_simp
                          (go_at_call 21; with_reducible refine (CA.out _ hBB).mono ?_; rintro e9 w9 ⟨rfl, hBB⟩)
                          go_wp2_with fail
                          refine hK.out _ _ (by first | assumption | exact SO.out _ (by first | exact hBB | exact dN_below hBB _ | exact hBB.drew)) (fun hHeld => ?_)
                          try simp only [List.getElem_toArray, List.getElem_cons_zero, List.getElem_cons_succ, Act.put, List.setIfInBounds_toArray, List.set_cons_zero, List.set_cons_succ]
                          refine wpAnyH_take (i := 10) (v := ?_) rfl (by kernel_rfl) (by kernel_rfl) (by kernel_rfl) (fun _ _ _ h => h) (Or.inl ⟨by rfl, ?_⟩) (by assumption) ?_
                          rotate_left
                          · intro w hSw
                            (try dsimp only at hSw)
                            go_simp
                            try with_reducible rfl
                          try simp only [List.getElem_toArray, List.getElem_cons_zero, List.getElem_cons_succ, Act.put, List.setIfInBounds_toArray, List.set_cons_zero, List.set_cons_succ]
                          refine wpAnyH_take (i := 11) (v := ?_) rfl (by kernel_rfl) (by kernel_rfl) (by kernel_rfl) (fun _ _ _ h => h) (Or.inl ⟨by rfl, ?_⟩) (by assumption) ?_
                          rotate_left
                          · intro w hSw
                            (try dsimp only at hSw)
                            go_simp
                            try with_reducible rfl
                          try simp only [List.getElem_toArray, List.getElem_cons_zero, List.getElem_cons_succ, Act.put, List.setIfInBounds_toArray, List.set_cons_zero, List.set_cons_succ]
                          refine wpAnyH_take (i := 12) (v := ?_) rfl (by kernel_rfl) (by kernel_rfl) (by kernel_rfl) (fun _ _ _ h => h) (Or.inl ⟨by rfl, ?_⟩) (by assumption) ?_
                          rotate_left
                          · intro w hSw
                            (try dsimp only at hSw)
                            go_simp
                            try with_reducible rfl
                          try simp only [List.getElem_toArray, List.getElem_cons_zero, List.getElem_cons_succ, Act.put, List.setIfInBounds_toArray, List.set_cons_zero, List.set_cons_succ]
                          refine wpAnyH_take (i := 13) (v := ?_) rfl (by kernel_rfl) (by kernel_rfl) (by kernel_rfl) (fun _ _ _ h => h) (Or.inl ⟨by rfl, ?_⟩) (by assumption) ?_
                          rotate_left
                          · intro w hSw
                            (try dsimp only at hSw)
                            go_simp
                            try with_reducible rfl
                          try simp only [List.getElem_toArray, List.getElem_cons_zero, List.getElem_cons_succ, Act.put, List.setIfInBounds_toArray, List.set_cons_zero, List.set_cons_succ]
                          refine wpAnyH_ready (rs := [14]) (by kernel_rfl) (by simp) ?_
                          refine AllReadyH.cons (by simp only [List.getElem?_toArray, List.getElem?_cons_zero, List.getElem?_cons_succ]; rfl) (fun K hK => ?_) AllReadyH.nil
                          go_simp
                          (go_at_call 21; with_reducible refine (CB.out _ hBB).mono ?_; rintro e9 w9 ⟨rfl, hBB⟩)
                          go_wp2_with fail
                          refine hK.out _ _ (by first | assumption | exact SO.out _ (by first | exact hBB | exact dN_below hBB _ | exact hBB.drew)) (fun hHeld => ?_)
                          try simp only [List.getElem_toArray, List.getElem_cons_zero, List.getElem_cons_succ, Act.put, List.setIfInBounds_toArray, List.set_cons_zero, List.set_cons_succ]
                          refine wpAnyH_take (i := 15) (v := ?_) rfl (by kernel_rfl) (by kernel_rfl) (by kernel_rfl) (fun _ _ _ h => h) (Or.inl ⟨by rfl, ?_⟩) (by assumption) ?_
                          rotate_left
                          · intro w hSw
                            (try dsimp only at hSw)
                            go_simp
                            try with_reducible rfl
                          try simp only [List.getElem_toArray, List.getElem_cons_zero, List.getElem_cons_succ, Act.put, List.setIfInBounds_toArray, List.set_cons_zero, List.set_cons_succ]
                          refine wpAnyH_take (i := 16) (v := ?_) rfl (by kernel_rfl) (by kernel_rfl) (by kernel_rfl) (fun _ _ _ h => h) (Or.inl ⟨by rfl, ?_⟩) (by assumption) ?_
                          rotate_left
                          · intro w hSw
                            (try dsimp only at hSw)
                            go_simp
                            try with_reducible rfl
                          try simp only [List.getElem_toArray, List.getElem_cons_zero, List.getElem_cons_succ, Act.put, List.setIfInBounds_toArray, List.set_cons_zero, List.set_cons_succ]
                          refine wpAnyH_take (i := 17) (v := ?_) rfl (by kernel_rfl) (by kernel_rfl) (by kernel_rfl) (fun _ _ _ h => h) (Or.inl ⟨by rfl, ?_⟩) (by assumption) ?_
                          rotate_left
                          · intro w hSw
                            (try dsimp only at hSw)
                            go_simp
                            try with_reducible rfl
                          try simp only [List.getElem_toArray, List.getElem_cons_zero, List.getElem_cons_succ, Act.put, List.setIfInBounds_toArray, List.set_cons_zero, List.set_cons_succ]
                          refine wpAnyH_take (i := 18) (v := undef) rfl (by kernel_rfl) (by kernel_rfl) (by kernel_rfl) (fun _ _ _ h => h) (Or.inr ⟨by rfl, rfl⟩) (by assumption) ?_
                          try simp only [List.getElem_toArray, List.getElem_cons_zero, List.getElem_cons_succ, Act.put, List.setIfInBounds_toArray, List.set_cons_zero, List.set_cons_succ]
                          refine wpAnyH_take (i := 19) (v := undef) rfl (by kernel_rfl) (by kernel_rfl) (by kernel_rfl) (fun _ _ _ h => h) (Or.inr ⟨by rfl, rfl⟩) (by assumption) ?_
                          try simp only [List.getElem_toArray, List.getElem_cons_zero, List.getElem_cons_succ, Act.put, List.setIfInBounds_toArray, List.set_cons_zero, List.set_cons_succ]
                          refine wpAnyH_take (i := 20) (v := undef) rfl (by kernel_rfl) (by kernel_rfl) (by kernel_rfl) (fun _ _ _ h => h) (Or.inr ⟨by rfl, rfl⟩) (by assumption) ?_
                          try simp only [List.getElem_toArray, List.getElem_cons_zero, List.getElem_cons_succ, Act.put, List.setIfInBounds_toArray, List.set_cons_zero, List.set_cons_succ]
                          refine wpAnyH_take (i := 21) (v := ?_) rfl (by kernel_rfl) (by kernel_rfl) (by kernel_rfl) (fun _ _ _ h => h) (Or.inl ⟨by rfl, ?_⟩) (by assumption) ?_
                          rotate_left
                          · intro w hSw
                            (try dsimp only at hSw)
                            go_simp
                            try with_reducible rfl
                          try simp only [List.getElem_toArray, List.getElem_cons_zero, List.getElem_cons_succ, Act.put, List.setIfInBounds_toArray, List.set_cons_zero, List.set_cons_succ]
                          refine wpAnyH_take (i := 22) (v := ?_) rfl (by kernel_rfl) (by kernel_rfl) (by kernel_rfl) (fun _ _ _ h => h) (Or.inl ⟨by rfl, ?_⟩) (by assumption) ?_
                          rotate_left
                          · intro w hSw
                            (try dsimp only at hSw)
                            go_simp
                            try with_reducible rfl
                          try simp only [List.getElem_toArray, List.getElem_cons_zero, List.getElem_cons_succ, Act.put, List.setIfInBounds_toArray, List.set_cons_zero, List.set_cons_succ]
                          refine wpAnyH_take (i := 23) (v := ?_) rfl (by kernel_rfl) (by kernel_rfl) (by kernel_rfl) (fun _ _ _ h => h) (Or.inl ⟨by rfl, ?_⟩) (by assumption) ?_
                          rotate_left
                          · intro w hSw
                            (try dsimp only at hSw)
                            go_simp
                            try with_reducible rfl
                          try simp only [List.getElem_toArray, List.getElem_cons_zero, List.getElem_cons_succ, Act.put, List.setIfInBounds_toArray, List.set_cons_zero, List.set_cons_succ]
                          refine wpAnyH_done (by kernel_rfl) ?_ _
                          go_wp2_with fail
                          go_ret
                          exact ⟨rfl, FIN.out _ (by first | exact hBB | exact dN_below hBB _ | exact hBB.drew)⟩
                        | true =>
                          obtain rfl := htr rfl rfl
                          refine wp_region_held_drew (S := fun V => V.cell? ⟨gl, 0, none⟩ = some (.int .i64 r) ∧ V.cell? ⟨w.heap.size, 0, none⟩ = some (.slice xg n cg) ∧ V.cell? ⟨w.heap.size, 1, none⟩ = some (.int .i64 r) ∧ V.cell? ⟨w.heap.size + 1, 0, none⟩ = some (.slice xh m ch) ∧ V.cell? ⟨w.heap.size + 1, 1, none⟩ = some (.int .i64 s) ∧ V.cell? ⟨w.heap.size + 1 + 1, 0, none⟩ = some (.slice xk p ck) ∧ V.cell? ⟨w.heap.size + 1 + 1, 1, none⟩ = some (.int .i64 t)) (by kernel_rfl) (SO.out _ hBB) (fun hHeld => ?_)
                          refine wpAnyH_take (i := 0) (v := ?_) rfl (by kernel_rfl) (by kernel_rfl) (by kernel_rfl) (fun _ _ _ h => h) (Or.inl ⟨by rfl, ?_⟩) (by assumption) ?_
                          rotate_left
                          · intro w hSw
                            (try dsimp only at hSw)
                            go_simp
                            try with_reducible rfl
                          try simp only [List.getElem_toArray, List.getElem_cons_zero, List.getElem_cons_succ, Act.put, List.setIfInBounds_toArray, List.set_cons_zero, List.set_cons_succ]
                          refine wpAnyH_take (i := 1) (v := ?_) rfl (by kernel_rfl) (by kernel_rfl) (by kernel_rfl) (fun _ _ _ h => h) (Or.inl ⟨by rfl, ?_⟩) (by assumption) ?_
                          rotate_left
                          · intro w hSw
                            (try dsimp only at hSw)
                            go_simp
                            try with_reducible rfl
                          try simp only [List.getElem_toArray, List.getElem_cons_zero, List.getElem_cons_succ, Act.put, List.setIfInBounds_toArray, List.set_cons_zero, List.set_cons_succ]
                          refine wpAnyH_take (i := 2) (v := ?_) rfl (by kernel_rfl) (by kernel_rfl) (by kernel_rfl) (fun _ _ _ h => h) (Or.inl ⟨by rfl, ?_⟩) (by assumption) ?_
                          rotate_left
                          · intro w hSw
                            (try dsimp only at hSw)
                            go_simp
                            try with_reducible rfl
                          try simp only [List.getElem_toArray, List.getElem_cons_zero, List.getElem_cons_succ, Act.put, List.setIfInBounds_toArray, List.set_cons_zero, List.set_cons_succ]
                          refine wpAnyH_take (i := 3) (v := ?_) rfl (by kernel_rfl) (by kernel_rfl) (by kernel_rfl) (fun _ _ _ h => h) (Or.inl ⟨by rfl, ?_⟩) (by assumption) ?_
                          rotate_left
                          · intro w hSw
                            (try dsimp only at hSw)
                            go_simp
                            try with_reducible rfl
                          try simp only [List.getElem_toArray, List.getElem_cons_zero, List.getElem_cons_succ, Act.put, List.setIfInBounds_toArray, List.set_cons_zero, List.set_cons_succ]
                          refine wpAnyH_take (i := 4) (v := ?_) rfl (by kernel_rfl) (by kernel_rfl) (by kernel_rfl) (fun _ _ _ h => h) (Or.inl ⟨by rfl, ?_⟩) (by assumption) ?_
                          rotate_left
                          · intro w hSw
                            (try dsimp only at hSw)
                            go_simp
                            try with_reducible rfl
                          try simp only [List.getElem_toArray, List.getElem_cons_zero, List.getElem_cons_succ, Act.put, List.setIfInBounds_toArray, List.set_cons_zero, List.set_cons_succ]
                          refine wpAnyH_take (i := 5) (v := ?_) rfl (by kernel_rfl) (by kernel_rfl) (by kernel_rfl) (fun _ _ _ h => h) (Or.inl ⟨by rfl, ?_⟩) (by assumption) ?_
                          rotate_left
                          · intro w hSw
                            (try dsimp only at hSw)
                            go_simp
                            try with_reducible rfl
                          try simp only [List.getElem_toArray, List.getElem_cons_zero, List.getElem_cons_succ, Act.put, List.setIfInBounds_toArray, List.set_cons_zero, List.set_cons_succ]
                          refine wpAnyH_take (i := 6) (v := ?_) rfl (by kernel_rfl) (by kernel_rfl) (by kernel_rfl) (fun _ _ _ h => h) (Or.inl ⟨by rfl, ?_⟩) (by assumption) ?_
                          rotate_left
                          · intro w hSw
                            (try dsimp only at hSw)
                            go_simp
                            try with_reducible rfl
                          try simp only [List.getElem_toArray, List.getElem_cons_zero, List.getElem_cons_succ, Act.put, List.setIfInBounds_toArray, List.set_cons_zero, List.set_cons_succ]
                          refine wpAnyH_take (i := 7) (v := ?_) rfl (by kernel_rfl) (by kernel_rfl) (by kernel_rfl) (fun _ _ _ h => h) (Or.inl ⟨by rfl, ?_⟩) (by assumption) ?_
                          rotate_left
                          · intro w hSw
                            (try dsimp only at hSw)
                            go_simp
                            try with_reducible rfl
                          try simp only [List.getElem_toArray, List.getElem_cons_zero, List.getElem_cons_succ, Act.put, List.setIfInBounds_toArray, List.set_cons_zero, List.set_cons_succ]
                          refine wpAnyH_take (i := 8) (v := ?_) rfl (by kernel_rfl) (by kernel_rfl) (by kernel_rfl) (fun _ _ _ h => h) (Or.inl ⟨by rfl, ?_⟩) (by assumption) ?_
                          rotate_left
                          · intro w hSw
                            (try dsimp only at hSw)
                            go_simp
                            try with_reducible rfl
                          try simp only [List.getElem_toArray, List.getElem_cons_zero, List.getElem_cons_succ, Act.put, List.setIfInBounds_toArray, List.set_cons_zero, List.set_cons_succ]
                          refine wpAnyH_ready (rs := [9]) (by kernel_rfl) (by simp) ?_
                          refine AllReadyH.cons (by simp only [List.getElem?_toArray, List.getElem?_cons_zero, List.getElem?_cons_succ]; rfl) (fun K hK => ?_) AllReadyH.nil
                          go_simp
                          (go_at_call 21; with_reducible refine (CA.out _ hBB).mono ?_; rintro e9 w9 ⟨rfl, hBB⟩)
                          go_wp2_with fail
                          refine hK.out _ _ (by first | assumption | exact SO.out _ (by first | exact hBB | exact dN_below hBB _ | exact hBB.drew)) (fun hHeld => ?_)
                          try simp only [List.getElem_toArray, List.getElem_cons_zero, List.getElem_cons_succ, Act.put, List.setIfInBounds_toArray, List.set_cons_zero, List.set_cons_succ]
                          refine wpAnyH_take (i := 10) (v := ?_) rfl (by kernel_rfl) (by kernel_rfl) (by kernel_rfl) (fun _ _ _ h => h) (Or.inl ⟨by rfl, ?_⟩) (by assumption) ?_
                          rotate_left
                          · intro w hSw
                            (try dsimp only at hSw)
                            go_simp
                            try with_reducible rfl
                          try simp only [List.getElem_toArray, List.getElem_cons_zero, List.getElem_cons_succ, Act.put, List.setIfInBounds_toArray, List.set_cons_zero, List.set_cons_succ]
                          refine wpAnyH_take (i := 11) (v := ?_) rfl (by kernel_rfl) (by kernel_rfl) (by kernel_rfl) (fun _ _ _ h => h) (Or.inl ⟨by rfl, ?_⟩) (by assumption) ?_
                          rotate_left
                          · intro w hSw
                            (try dsimp only at hSw)
                            go_simp
                            try with_reducible rfl
                          try simp only [List.getElem_toArray, List.getElem_cons_zero, List.getElem_cons_succ, Act.put, List.setIfInBounds_toArray, List.set_cons_zero, List.set_cons_succ]
                          refine wpAnyH_take (i := 12) (v := ?_) rfl (by kernel_rfl) (by kernel_rfl) (by kernel_rfl) (fun _ _ _ h => h) (Or.inl ⟨by rfl, ?_⟩) (by assumption) ?_
                          rotate_left
                          · intro w hSw
                            (try dsimp only at hSw)
                            go_simp
                            try with_reducible rfl
                          try simp only [List.getElem_toArray, List.getElem_cons_zero, List.getElem_cons_succ, Act.put, List.setIfInBounds_toArray, List.set_cons_zero, List.set_cons_succ]
                          refine wpAnyH_take (i := 13) (v := ?_) rfl (by kernel_rfl) (by kernel_rfl) (by kernel_rfl) (fun _ _ _ h => h) (Or.inl ⟨by rfl, ?_⟩) (by assumption) ?_
                          rotate_left
                          · intro w hSw
                            (try dsimp only at hSw)
                            go_simp
                            try with_reducible rfl
                          try simp only [List.getElem_toArray, List.getElem_cons_zero, List.getElem_cons_succ, Act.put, List.setIfInBounds_toArray, List.set_cons_zero, List.set_cons_succ]
                          refine wpAnyH_ready (rs := [14]) (by kernel_rfl) (by simp) ?_
                          refine AllReadyH.cons (by simp only [List.getElem?_toArray, List.getElem?_cons_zero, List.getElem?_cons_succ]; rfl) (fun K hK => ?_) AllReadyH.nil
                          go_simp
                          (go_at_call 21; with_reducible refine (CB.out _ hBB).mono ?_; rintro e9 w9 ⟨rfl, hBB⟩)
                          go_wp2_with fail
                          refine hK.out _ _ (by first | assumption | exact SO.out _ (by first | exact hBB | exact dN_below hBB _ | exact hBB.drew)) (fun hHeld => ?_)
                          try simp only [List.getElem_toArray, List.getElem_cons_zero, List.getElem_cons_succ, Act.put, List.setIfInBounds_toArray, List.set_cons_zero, List.set_cons_succ]
                          refine wpAnyH_take (i := 15) (v := ?_) rfl (by kernel_rfl) (by kernel_rfl) (by kernel_rfl) (fun _ _ _ h => h) (Or.inl ⟨by rfl, ?_⟩) (by assumption) ?_
                          rotate_left
                          · intro w hSw
                            (try dsimp only at hSw)
                            go_simp
                            try with_reducible rfl
                          try simp only [List.getElem_toArray, List.getElem_cons_zero, List.getElem_cons_succ, Act.put, List.setIfInBounds_toArray, List.set_cons_zero, List.set_cons_succ]
                          refine wpAnyH_take (i := 16) (v := ?_) rfl (by kernel_rfl) (by kernel_rfl) (by kernel_rfl) (fun _ _ _ h => h) (Or.inl ⟨by rfl, ?_⟩) (by assumption) ?_
                          rotate_left
                          · intro w hSw
                            (try dsimp only at hSw)
                            go_simp
                            try with_reducible rfl
                          try simp only [List.getElem_toArray, List.getElem_cons_zero, List.getElem_cons_succ, Act.put, List.setIfInBounds_toArray, List.set_cons_zero, List.set_cons_succ]
                          refine wpAnyH_take (i := 17) (v := ?_) rfl (by kernel_rfl) (by kernel_rfl) (by kernel_rfl) (fun _ _ _ h => h) (Or.inl ⟨by rfl, ?_⟩) (by assumption) ?_
                          rotate_left
                          · intro w hSw
                            (try dsimp only at hSw)
                            go_simp
                            try with_reducible rfl
                          try simp only [List.getElem_toArray, List.getElem_cons_zero, List.getElem_cons_succ, Act.put, List.setIfInBounds_toArray, List.set_cons_zero, List.set_cons_succ]
                          refine wpAnyH_take (i := 18) (v := ?_) rfl (by kernel_rfl) (by kernel_rfl) (by kernel_rfl) (fun _ _ _ h => h) (Or.inl ⟨by rfl, ?_⟩) (by assumption) ?_
                          rotate_left
                          · intro w hSw
                            (try dsimp only at hSw)
                            go_simp
                            try with_reducible rfl
                          try simp only [List.getElem_toArray, List.getElem_cons_zero, List.getElem_cons_succ, Act.put, List.setIfInBounds_toArray, List.set_cons_zero, List.set_cons_succ]
                          refine wpAnyH_take (i := 19) (v := ?_) rfl (by kernel_rfl) (by kernel_rfl) (by kernel_rfl) (fun _ _ _ h => h) (Or.inl ⟨by rfl, ?_⟩) (by assumption) ?_
                          rotate_left
                          · intro w hSw
                            (try dsimp only at hSw)
                            go_simp
                            try with_reducible rfl
                          try simp only [List.getElem_toArray, List.getElem_cons_zero, List.getElem_cons_succ, Act.put, List.setIfInBounds_toArray, List.set_cons_zero, List.set_cons_succ]
                          refine wpAnyH_ready (rs := [20]) (by kernel_rfl) (by simp) ?_
                          refine AllReadyH.cons (by simp only [List.getElem?_toArray, List.getElem?_cons_zero, List.getElem?_cons_succ]; rfl) (fun K hK => ?_) AllReadyH.nil
                          go_simp
                          (go_at_call 21; with_reducible refine (CD.out _ hBB).mono ?_; rintro e9 w9 ⟨rfl, hBB⟩)
                          go_wp2_with fail
                          refine hK.out _ _ (by first | assumption | exact SO.out _ (by first | exact hBB | exact dN_below hBB _ | exact hBB.drew)) (fun hHeld => ?_)
                          try simp only [List.getElem_toArray, List.getElem_cons_zero, List.getElem_cons_succ, Act.put, List.setIfInBounds_toArray, List.set_cons_zero, List.set_cons_succ]
                          refine wpAnyH_take (i := 21) (v := ?_) rfl (by kernel_rfl) (by kernel_rfl) (by kernel_rfl) (fun _ _ _ h => h) (Or.inl ⟨by rfl, ?_⟩) (by assumption) ?_
                          rotate_left
                          · intro w hSw
                            (try dsimp only at hSw)
                            go_simp
                            try with_reducible rfl
                          try simp only [List.getElem_toArray, List.getElem_cons_zero, List.getElem_cons_succ, Act.put, List.setIfInBounds_toArray, List.set_cons_zero, List.set_cons_succ]
                          refine wpAnyH_take (i := 22) (v := ?_) rfl (by kernel_rfl) (by kernel_rfl) (by kernel_rfl) (fun _ _ _ h => h) (Or.inl ⟨by rfl, ?_⟩) (by assumption) ?_
                          rotate_left
                          · intro w hSw
                            (try dsimp only at hSw)
                            go_simp
                            try with_reducible rfl
                          try simp only [List.getElem_toArray, List.getElem_cons_zero, List.getElem_cons_succ, Act.put, List.setIfInBounds_toArray, List.set_cons_zero, List.set_cons_succ]
                          refine wpAnyH_take (i := 23) (v := ?_) rfl (by kernel_rfl) (by kernel_rfl) (by kernel_rfl) (fun _ _ _ h => h) (Or.inl ⟨by rfl, ?_⟩) (by assumption) ?_
                          rotate_left
                          · intro w hSw
                            (try dsimp only at hSw)
                            go_simp
                            try with_reducible rfl
                          try simp only [List.getElem_toArray, List.getElem_cons_zero, List.getElem_cons_succ, Act.put, List.setIfInBounds_toArray, List.set_cons_zero, List.set_cons_succ]
                          refine wpAnyH_done (by kernel_rfl) ?_ _
                          go_wp2_with fail
                          go_ret
                          exact ⟨rfl, FIN.out _ (by first | exact hBB | exact dN_below hBB _ | exact hBB.drew)⟩
end Go.Proofs.YtelmigkbofnicaaDoor
