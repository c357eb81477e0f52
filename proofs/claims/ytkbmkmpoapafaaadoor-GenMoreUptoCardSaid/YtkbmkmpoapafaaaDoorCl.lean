/- gen.clone told. -/
import Derived.Test.YtkbmkmpoapafaaaDoorPn
import Derived.Test.YtkbmkmpoapafaaaDoorMa
import Derived.Test.YtkbmkmpoapafaaaDoorTm
namespace Go.Proofs.YtkbmkmpoapafaaaDoor
open Go.ChangeShapes Go.WideShapes Go.ChangeAt Go.RowKit

set_option linter.unusedSimpArgs false in
set_option maxHeartbeats 2000000 in
set_option maxRecDepth 100000 in
theorem clone_node (S : Nat → Prop) (x : GN) (va vl : Value) (w : World) (ha : Nums w S va x.args) (hl : Strs w S vl x.labels) (hS : ∀ b, S b → b < w.heap.size) (la : x.args.length ≤ 2000) (ll : x.labels.length ≤ 2000) :
    Calls Tryd.prog 27 #[.agg #[.int .i64 x.k, .string x.nm, va, vl, .bool x.op]] w fun e w' => ∃ xa ca xl nl cl, e = .returned (.agg #[.int .i64 x.k, .string x.nm, .slice xa x.args.length ca, .slice xl nl cl, .bool x.op]) ∧ w'.ownsRow w.heap.size 3 1 (.slice xa x.args.length ca) x.args.length (numsI x.args) ∧ Strs w' (fun b => w.heap.size ≤ b ∧ b < w'.heap.size ∧ (Value.slice xa x.args.length ca).ownBlock ≠ some b) (.slice xl nl cl) x.labels ∧ Below w.heap.size w w' := by
  obtain ⟨xa, ca, ga, oa, rfl, -, -⟩ := ha.open_
  obtain ⟨xl, cl, gl, ol, rfl, -, -⟩ := hl.open_
  obtain ⟨na, hna⟩ : ∃ n, x.args.length = n := ⟨_, rfl⟩
  obtain ⟨nl, hnl⟩ : ∃ n, x.labels.length = n := ⟨_, rfl⟩
  obtain ⟨k0, hk0⟩ : ∃ n, x.k = n := ⟨_, rfl⟩
  obtain ⟨k1, hk1⟩ : ∃ n, x.nm = n := ⟨_, rfl⟩
  obtain ⟨k4, hk4⟩ : ∃ n, x.op = n := ⟨_, rfl⟩
  obtain ⟨AL, hAL⟩ : ∃ l, x.args = l := ⟨_, rfl⟩
  obtain ⟨LL, hLL⟩ : ∃ l, x.labels = l := ⟨_, rfl⟩
  rw [hna] at ha ⊢
  rw [hnl] at hl ⊢
  rw [hk0, hk1, hk4]
  rw [hAL] at ha hna la ⊢
  rw [hLL] at hl hnl ll ⊢
  obtain ⟨W1, hW1⟩ : ∃ W1, (w.alloc (.cells #[.int .i64 k0, .string k1, .slice xa na ca, .slice xl nl cl, .bool k4] 37)).alloc (.cells #[.int .i64 0, .string ⟨#[]⟩, .slice none 0 0, .slice none 0 0, .bool false] 37) = W1 := ⟨_, rfl⟩
  have B1 : Below w.heap.size w W1 := by rw [← hW1]; exact ((Below.refl _ _).alloc (Nat.le_refl _) _).alloc (by simp) _
  have s1 : W1.heap.size = w.heap.size + 2 := by rw [← hW1]; simp
  have b0 : W1.heap[w.heap.size]? = some (.cells #[.int .i64 k0, .string k1, .slice xa na ca, .slice xl nl cl, .bool k4] 37) := by rw [← hW1, heap_old (by simp)]; exact heap_last rfl
  have b1 : W1.heap[w.heap.size + 1]? = some (.cells #[.int .i64 0, .string ⟨#[]⟩, .slice none 0 0, .slice none 0 0, .bool false] 37) := by rw [← hW1]; exact heap_last (by simp)
  have C1 := Lib.hid (cloneI_any S _ AL W1 (ha.carry (keeps_of B1 hS) fun _ h => h) (by omega))
  have C2 : Hid (∀ V, Below w.heap.size w V → Calls Tryd.prog 43 #[.slice xl nl cl] V fun e w' => ∃ x' c', e = .returned (.slice x' nl c') ∧ w'.ownsRow V.heap.size 9 1 (.slice x' nl c') LL.length (LL.map Value.string) ∧ Below V.heap.size V w') := Lib.hid fun V hV => by
    refine (clone_any S _ LL V (hl.carry (keeps_of hV hS) fun _ h => h) (by omega)).mono ?_
    rintro e w' ⟨v', rfl, h1, h2⟩
    obtain ⟨x', c', rfl⟩ := own_shape h1
    rw [hnl] at h1 ⊢
    exact ⟨x', c', rfl, h1, h2⟩
  have a2 := Lib.cell_of_heap b0 2
  simp only [List.getElem?_toArray, List.getElem?_cons_zero, List.getElem?_cons_succ] at a2
  have HW1 := Lib.hid hW1
  have HB1 := Lib.hid (And.intro B1 (And.intro b0 (And.intro b1 (And.intro s1 (And.intro hna hnl)))))
  rw [hna] at C1
  have hlt1 : w.heap.size < W1.heap.size := by omega
  clear ha hl hS hna hnl hk0 hk1 hk4 hAL hLL B1 b0 b1 hW1 s1
  go_enter Tryd.func27, Tryd.ntmps27
  go_wp2_with fail
  rw [HW1.out]
  refine C1.out.mono ?_
  rintro e2 W2 ⟨v2, rfl, ho2, hB2⟩
  have s2 := hB2.size
  obtain ⟨x2, c2, rfl⟩ := own_shape ho2
  have hb2 := (hB2.block w.heap.size hlt1).trans HB1.out.2.1
  have p0 := Lib.cell_of_heap hb2 2
  have p1 := Lib.cell_of_heap hb2 3
  have pf := Lib.frozen_of_heap hb2 2
  simp only [List.getElem?_toArray, List.getElem?_cons_zero, List.getElem?_cons_succ] at p0 p1
  have hww2 : w.heap.size < W2.heap.size := by omega
  have B2 : Below w.heap.size w W2 := HB1.out.1.trans (hB2.mono HB1.out.1.size)
  have H2 := Lib.hid (And.intro ho2 (And.intro hB2 (And.intro hb2 B2)))
  clear ho2 hB2 hb2 B2 C1 HW1 a2
  go_wp2_with fail
  have B3 : Below w.heap.size w (W2.setCell ⟨w.heap.size, 2, none⟩ (.slice x2 na c2)) := H2.out.2.2.2.setCell (p := ⟨w.heap.size, 2, none⟩) (Nat.le_refl _) _
  have hb3 := heap_setCell_same _ _ 2 _ _ (.slice x2 na c2) H2.out.2.2.1
  simp only [List.setIfInBounds_toArray, List.set_cons_zero, List.set_cons_succ] at hb3
  have k3 : ∀ q, q ≠ w.heap.size → (W2.setCell ⟨w.heap.size, 2, none⟩ (.slice x2 na c2)).heap[q]? = W2.heap[q]? := fun q hq => heap_setCell_other _ ⟨w.heap.size, 2, none⟩ q _ hq
  have s3 : (W2.setCell ⟨w.heap.size, 2, none⟩ (.slice x2 na c2)).heap.size = W2.heap.size := by simp
  obtain ⟨W3, hW3⟩ : ∃ W3, W2.setCell ⟨w.heap.size, 2, none⟩ (.slice x2 na c2) = W3 := ⟨_, rfl⟩
  rw [hW3] at B3 hb3 k3 s3 ⊢
  refine (C2.out _ B3).mono ?_
  rintro e4 W4 ⟨x4, c4, rfl, ho4, hB4⟩
  have s4 := hB4.size
  have hb4 := (hB4.block w.heap.size (by omega)).trans hb3
  have hz4 := (hB4.block (w.heap.size + 1) (by have := HB1.out.2.2.2.1; omega)).trans ((k3 _ (by omega)).trans ((H2.out.2.1.block (w.heap.size + 1) (by have := HB1.out.2.2.2.1; omega)).trans HB1.out.2.2.1))
  have q0 := Lib.cell_of_heap hb4 0
  have q1 := Lib.cell_of_heap hb4 1
  have q2 := Lib.cell_of_heap hb4 2
  have q3 := Lib.cell_of_heap hb4 3
  have q4 := Lib.cell_of_heap hb4 4
  have qf := Lib.frozen_of_heap hb4 3
  have z0 := Lib.cell_of_heap hz4 0
  have z1 := Lib.cell_of_heap hz4 1
  have z2 := Lib.cell_of_heap hz4 2
  have z3 := Lib.cell_of_heap hz4 3
  have z4 := Lib.cell_of_heap hz4 4
  have f0 := Lib.frozen_of_heap hz4 0
  have f1 := Lib.frozen_of_heap hz4 1
  have f2 := Lib.frozen_of_heap hz4 2
  have f3 := Lib.frozen_of_heap hz4 3
  have f4 := Lib.frozen_of_heap hz4 4
  simp only [List.getElem?_toArray, List.getElem?_cons_zero, List.getElem?_cons_succ] at q0 q1 q2 q3 q4 z0 z1 z2 z3 z4
  have hww4 : w.heap.size < W4.heap.size := by omega
  have hww41 : w.heap.size + 1 < W4.heap.size := by have := HB1.out.2.2.2.1; omega
  have H4 := Lib.hid (And.intro ho4 (And.intro hB4 (And.intro hb4 (And.intro hz4 (And.intro B3 (And.intro k3 s3))))))
  clear ho4 hB4 hb4 hz4 B3 k3 hb3 hW3 p0 p1 pf
  go_wp2_with fail
  obtain ⟨ho4, hB4, hb4, hz4, B3, k3, s3⟩ := H4.out
  have hz5 := (heap_setCell_other W4 ⟨w.heap.size, 3, none⟩ (w.heap.size + 1) (.slice x4 nl c4) (show w.heap.size + 1 ≠ w.heap.size by omega)).trans hz4
  have hP := heap_put5 (v0 := .int .i64 k0) (v1 := .string k1) (v2 := .slice x2 na c2) (v3 := .slice x4 nl c4) (v4 := .bool k4) hz5
  obtain ⟨W5, hW5⟩ : ∃ W5, W4.setCell ⟨w.heap.size, 3, none⟩ (.slice x4 nl c4) = W5 := ⟨_, rfl⟩
  rw [hW5] at hP hz5 ⊢
  have hk5 : ∀ q, q ≠ w.heap.size → W5.heap[q]? = W4.heap[q]? := fun q hq => by rw [← hW5]; exact heap_setCell_other _ ⟨w.heap.size, 3, none⟩ q _ hq
  have hB5 : Below w.heap.size w W5 := by rw [← hW5]; exact (B3.trans (hB4.mono B3.size)).setCell (p := ⟨w.heap.size, 3, none⟩) (Nat.le_refl _) _
  have hs5 : W5.heap.size = W4.heap.size := by rw [← hW5]; simp
  obtain ⟨W9, hW9⟩ : ∃ W9, ((((W5.setCell ⟨w.heap.size + 1, 0, none⟩ (.int .i64 k0)).setCell ⟨w.heap.size + 1, 1, none⟩ (.string k1)).setCell ⟨w.heap.size + 1, 2, none⟩ (.slice x2 na c2)).setCell ⟨w.heap.size + 1, 3, none⟩ (.slice x4 nl c4)).setCell ⟨w.heap.size + 1, 4, none⟩ (.bool k4) = W9 := ⟨_, rfl⟩
  have hB9 : Below w.heap.size w W9 := by rw [← hW9]; exact below_put5 hB5 (Nat.le_succ _) _ _ _ _ _
  have hk : ∀ q, q ≠ w.heap.size + 1 → W9.heap[q]? = W5.heap[q]? := fun q hq => by rw [← hW9]; exact heap_put5_ne _ _ _ _ _ hq
  have hs9 : W9.heap.size = W5.heap.size := by rw [← hW9]; simp
  rw [hW9] at hP ⊢
  have hz1 := HB1.out.2.2.2.1
  have hO9 : W9.ownsRow W1.heap.size 3 1 (.slice x2 na c2) na (numsI AL) := own_same H2.out.1 fun q hq => by
    have h := H2.out.1.lt q hq
    exact (hk q (by omega)).trans ((hk5 q (by omega)).trans ((hB4.block q (by omega)).trans (k3 q (by omega))))
  refine bodyPost_ret (results_node (k := 2) rfl _ _ (w.heap.size + 1) (.int .i64 k0) (.string k1) (.slice x2 na c2) (.slice x4 nl c4) (.bool k4) rfl (by rw [Lib.cell_of_heap hP]; rfl) (by rw [Lib.cell_of_heap hP]; rfl) (by rw [Lib.cell_of_heap hP]; rfl) (by rw [Lib.cell_of_heap hP]; rfl) (by rw [Lib.cell_of_heap hP]; rfl)) rfl ⟨x2, c2, x4, nl, c4, rfl, own_base hO9 (by omega), ?_, hB9⟩
  refine strs_own (base := W3.heap.size) (e := 9) (own_same (by rw [HB1.out.2.2.2.2.2] at ho4 ⊢; exact ho4) fun q hq => ?_) fun q hq => ?_
  · have h := ho4.lt q hq
    exact (hk q (by omega)).trans (hk5 q (by omega))
  · have h := ho4.lt q hq
    refine ⟨by omega, by omega, fun hh => ?_⟩
    have := H2.out.1.lt q hh
    omega
end Go.Proofs.YtkbmkmpoapafaaaDoor
