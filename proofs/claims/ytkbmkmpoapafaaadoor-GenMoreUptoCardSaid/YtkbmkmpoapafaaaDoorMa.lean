/- gen.marked told. -/
import Derived.Test.YtkbmkmpoapafaaaDoorMk
import Derived.Test.YtkbmkmpoapafaaaDoorMr
import Derived.Test.YtkbmkmpoapafaaaDoorZn
import Derived.Test.YtkbmkmpoapafaaaDoorRh
import Derived.Test.YtkbmkmpoapafaaaDoorShelf
import Derived.Test.YtkbmkmpoapafaaaDoorGm
namespace Go.Proofs.YtkbmkmpoapafaaaDoor
open Go.ChangeShapes Go.WideShapes Go.ChangeAt Go.RowKit

theorem numsI_nat {l : List Int} (h : ∀ a ∈ l, 0 ≤ a) : numsI l = nums (l.map Int.toNat) := by
  unfold numsI nums
  rw [List.map_map]
  refine List.map_congr_left fun a ha => ?_
  have := h a ha
  simp only [Function.comp]
  congr 1
  omega
/-- slices.Clone of numbers. -/
theorem cloneI_any (S : Nat → Prop) (v : Value) (l : List Int) (w : World) (h : Nums w S v l) (hl : l.length ≤ 100000) :
    Calls Tryd.prog 42 #[v] w fun e w' => ∃ v', e = .returned v' ∧ w'.ownsRow w.heap.size 3 1 v' l.length (numsI l) ∧ Below w.heap.size w w' := by
  obtain ⟨g, o, hs, hc⟩ := h
  rcases hs with ⟨rfl | ⟨a, c, rfl⟩, h0⟩ | ⟨cap, rfl, hle, _, _⟩
  · obtain rfl := List.eq_nil_of_length_eq_zero h0
    refine (Tryd.slices_Clone_int_nil 0 0 w).mono ?_
    rintro e w' ⟨rfl, rfl⟩
    exact ⟨_, rfl, World.ownsRow_nil _ _ _ _, Below.refl _ _⟩
  · obtain rfl := List.eq_nil_of_length_eq_zero h0
    refine (Tryd.slices_Clone_int_zero a c w).mono ?_
    rintro e w' ⟨v', rfl, h1, _, h2⟩
    exact ⟨_, rfl, h1, h2⟩
  · refine (Tryd.slices_Clone_int g o l.length cap l w (Nat.le_refl _) (by omega) (fun j hj => ?_)).mono ?_
    · rw [hc j hj, List.getD_eq_getElem?_getD, List.getElem?_eq_getElem hj]; rfl
    · rintro e w' ⟨v', rfl, h1, _, h2⟩
      rw [List.take_length] at h1
      exact ⟨_, rfl, h1, h2⟩

/-- What the function that is handed over does: it puts behind a row what follows from a node. -/
def Puts (K B n : Nat) (nx : Nat → List Nat) (cb : Nat) (w : World) : Prop := ∀ (W : World) (v : Value) (t : List Nat) (q : Nat), Below w.heap.size w W → W.ownsRow B 3 1 v t.length (nums t) → B ≤ W.heap.size → q < n → t.length ≤ 5000000 → Calls Tryd.prog K #[v, .int .i64 (q : Int), .pointer (some ⟨cb, 0, none⟩)] W fun e W' => ∃ x c, e = .returned (.slice x (t.length + (nx q).length) c) ∧ W'.ownsRow B 3 1 (.slice x (t.length + (nx q).length) c) (t.length + (nx q).length) (nums (t ++ nx q)) ∧ W.grownBy W' v.ownBlock

set_option linter.unusedSimpArgs false in
set_option maxHeartbeats 4000000 in
set_option maxRecDepth 100000 in
theorem marked_reached (S : Nat → Prop) (nx : Nat → List Nat) (n cb : Nat) (vf : Value) (l : List Int) (w : World) (hf : Nums w S vf l) (hl : ∀ a ∈ l, 0 ≤ a ∧ a < (n : Int)) (hn : n ≤ 2000) (hll : l.length ≤ 3000) (hnx : ∀ i, i < n → ∀ j ∈ nx i, j < n) (hk : ∀ i, i < n → (nx i).length ≤ 2000) (hS : ∀ b, S b → b < w.heap.size) (HN : Puts 47 (w.heap.size + 1) n nx cb w) :
    Calls Tryd.prog 39 #[.int .i64 (n : Int), vf, .func (.func 47) #[] #[.pointer (some ⟨cb, 0, none⟩)]] w fun e w' => ∃ f, e = .returned (.slice (some ⟨w.heap.size, 0, none⟩) n n) ∧ MetR w' w.heap.size n f ∧ (∀ i, i < n → (f i = true ↔ Gu.Rch nx (l.map Int.toNat) i)) ∧ Below w.heap.size w w' := by
  obtain ⟨xf, cf, gf, of_, rfl, -, -⟩ := hf.open_
  have hmk := run_make_row' (P := Tryd.prog) 49 4 (.bool false) 1 Tryd.underlying49 boolInfo rfl .i64 .i64 n (by omega) (by omega)
  obtain ⟨W1, hW1⟩ : ∃ W1, w.alloc (.cells (madeCells #[.bool false] n) 4) = W1 := ⟨_, rfl⟩
  have B1 : Below w.heap.size w W1 := by rw [← hW1]; exact (Below.refl _ _).alloc (Nat.le_refl _) _
  have s1 : W1.heap.size = w.heap.size + 1 := by rw [← hW1]; simp
  have M1 : MetR W1 w.heap.size n (fun _ => false) := by rw [← hW1]; exact metr_made w n _
  have C1 := Lib.hid (cloneI_any S _ l W1 (hf.carry (keeps_of B1 hS) fun _ h => h) (by omega))
  obtain ⟨m0, hm0⟩ : ∃ m, l.length = m := ⟨_, rfl⟩
  obtain ⟨F, hF⟩ : ∃ F, l.map Int.toNat = F := ⟨_, rfl⟩
  have hFl : F.length = m0 := by rw [← hF, List.length_map, hm0]
  have hFn : ∀ a ∈ F, a < n := fun a ha => by
    rw [← hF] at ha
    obtain ⟨z, hz, rfl⟩ := List.mem_map.1 ha
    have := hl z hz
    omega
  rw [numsI_nat fun a ha => (hl a ha).1, hF] at C1
  rw [hm0] at C1 hll hf ⊢
  rw [hF]
  have hcost : Gu.cost nx (fun _ => false) n ≤ 4000000 := Nat.le_trans (Gu.cost_le n hk) (Nat.mul_le_mul_right 2000 hn)
  have H := Lib.hid (And.intro hFn (And.intro hnx (And.intro hk (And.intro HN (And.intro B1 (And.intro M1 hFl))))))
  have HW1 := Lib.hid hW1
  have HLB := Lib.hid s1
  clear hf hl hnx hk hS HN B1 M1 hW1 hm0 hF hFn s1
  go_enter Tryd.func39, Tryd.ntmps39
  go_wp2_with fail
  rw [HW1.out]
  refine C1.out.mono ?_
  rintro e2 W2 ⟨v2, rfl, ho2, hB2⟩
  have s2 := hB2.size
  rw [HLB.out] at s2 ho2
  have HB2 := Lib.hid (And.intro (H.out.2.2.2.2.1.trans (hB2.mono (by have := HLB.out; omega))) (H.out.2.2.2.2.2.1.of (hB2.block w.heap.size (by have := HLB.out; omega))))
  rw [← hFl] at ho2
  have HO2 := Lib.hid ho2
  clear C1 HW1 hmk hB2 ho2
  go_wp2_with fail
  go_loopg [8] (Gu.cost nx (fun _ => false) n + F.length) (fun gk v wr => ∃ (t : List Nat) (f : Nat → Bool), gk = Gu.cost nx f n + t.length ∧ gk ≤ 4500000 ∧ Gu.Mk nx n F f t ∧ MetR wr w.heap.size n f ∧ wr.ownsRow (w.heap.size + 1) 3 1 v t.length (nums t) ∧ Below w.heap.size w wr)
  case atStart => exact ⟨F, _, rfl, by omega, Gu.mk_start, HB2.out.2, HO2.out, HB2.out.1⟩
  case round =>
    obtain ⟨t, f, rfl, hgk, hmk, hM, hT, hB⟩ := hrel
    obtain ⟨wz, rfl⟩ : ∃ wz, wz = wr := ⟨_, rfl⟩
    obtain ⟨xt, ct, rfl⟩ := own_shape hT
    have sB := hB.size
    have hlb := hM.lt
    rcases List.eq_nil_or_concat t with rfl | ⟨t, q, hq⟩
    · have HZ := Lib.hid (And.intro hmk (And.intro hM hB))
      clear hmk hM hT hB
      simp only [List.length_nil]
      go_wp2_with fail
      go_ret
      exact ⟨f, rfl, HZ.out.2.1, fun i _ => HZ.out.1.done i, HZ.out.2.2⟩
    · rw [List.concat_eq_append] at hq
      subst hq
      obtain ⟨tn, htn⟩ : ∃ m, t.length = m := ⟨_, rfl⟩
      have hlen : (t ++ [q]).length = tn + 1 := by simp [htn]
      rw [hlen] at hT hgk ⊢
      rw [nums_append] at hT
      obtain ⟨tg, rfl⟩ : ∃ g, xt = some ⟨g, 0, none⟩ := by
        rcases hT.2 with ⟨_, h0⟩ | ⟨g, cap, cur, hv, _⟩
        · omega
        · cases hv; exact ⟨g, rfl⟩
      have htg := hT.lt tg (by simp [Value.ownBlock])
      have e0 : wz.cell? ⟨tg, tn, none⟩ = some (.int .i64 (q : Int)) := by
        rw [hT.cellAt _ (by omega), List.getElem?_append_right (by rw [nums_length, htn]; omega), nums_length, htn, Nat.sub_self]; rfl
      have hpop := ownsRow_pop (n := tn) (by rw [nums_length]; omega) hT
      have hcap : tn + 1 ≤ ct ∧ ct ≤ maxLen := by
        rcases hT.2 with ⟨_, h0⟩ | ⟨g, cap, cur, hv, _, _, h1, h2, _⟩
        · omega
        · cases hv; exact ⟨h1, h2⟩
      obtain ⟨hct, hcx⟩ := hcap
      unfold maxLen at hcx
      have hqn : q < n := (hmk.todo_ q (by simp)).lt H.out.1 H.out.2.1
      have hqn' : (q : Int) < (n : Int) := by omega
      have hm1 : (tn : Int) < (tn : Int) + 1 := by omega
      have c1 := hM.cell hqn
      have f1 := hM.frozen q
      have ztg := htg.2
      obtain ⟨bq, hbq⟩ : ∃ b, f q = b := ⟨_, rfl⟩
      rw [hbq] at c1
      have HI := Lib.hid (And.intro hmk (And.intro hM (And.intro hB (And.intro hpop (And.intro htn (And.intro hbq htg.1))))))
      clear hmk hM hB hpop htn hbq hT htg hlen
      cases bq with
      | true =>
        go_wp2_with fail
        obtain ⟨hmk, hM, hB, hpop, htn, hbq, htg⟩ := HI.out
        go_roundg (Gu.cost nx f n + t.length)
        case measure => (try simp only [List.length_append, List.length_cons, List.length_nil]); omega
        case rel => exact ⟨t, f, rfl, by omega, hmk.skip hbq, hM, by rw [htn]; exact hpop, hB⟩
      | false =>
        have hcs := Gu.cost_step (nx := nx) HI.out.2.2.2.2.2.1 n hqn
        have W3B : Below w.heap.size w (wz.setCell ⟨w.heap.size, q, none⟩ (.bool true)) := HI.out.2.2.1.setCell (p := ⟨w.heap.size, q, none⟩) (Nat.le_refl _) _
        have hpop3 : (wz.setCell ⟨w.heap.size, q, none⟩ (.bool true)).ownsRow (w.heap.size + 1) 3 1 (.slice (some ⟨tg, 0, none⟩) tn ct) tn (nums t) := own_same HI.out.2.2.2.1 fun p hp => by
          simp only [Value.ownBlock, Option.some.injEq] at hp
          subst hp
          exact heap_setCell_other _ ⟨w.heap.size, q, none⟩ _ _ (show tg ≠ w.heap.size by have := HI.out.2.2.2.2.2.2; omega)
        have CN := Lib.hid (H.out.2.2.2.1 _ (.slice (some ⟨tg, 0, none⟩) tn ct) t q W3B (by rw [HI.out.2.2.2.2.1]; exact hpop3) (by rw [World.size_setCell]; omega) hqn (by rw [HI.out.2.2.2.2.1]; omega))
        have HQ := Lib.hid (And.intro hcs W3B)
        rw [HI.out.2.2.2.2.1] at CN
        clear hcs W3B hpop3
        go_wp2_with (go_at_call 47; (with_reducible refine CN.out.mono ?_); (rintro e5 w5 ⟨x5, c5, rfl, ho5, hg5⟩); (have H5 := Lib.hid (And.intro ho5 hg5)); clear ho5 hg5)
        obtain ⟨hmk, hM, hB, hpop, htn, hbq, htg⟩ := HI.out
        obtain ⟨ho5, hg5⟩ := H5.out
        obtain ⟨hcs, W3B⟩ := HQ.out
        have s5 := hg5.size
        rw [World.size_setCell] at s5
        go_roundg (Gu.cost nx (Gu.setT f q) n + (t ++ nx q).length)
        case measure => (try simp only [List.length_append, List.length_cons, List.length_nil]); omega
        case rel =>
          refine ⟨t ++ nx q, Gu.setT f q, rfl, by rw [List.length_append]; omega, hmk.step, ?_, by rw [List.length_append, htn]; exact ho5, W3B.grown hg5 (by rw [World.size_setCell]; omega) (fun b hb => by simp only [Value.ownBlock, Option.some.injEq] at hb; omega)⟩
          exact (hM.put hqn true).of (hg5.block w.heap.size (by rw [World.size_setCell]; omega) (fun h => by simp only [Value.ownBlock, Option.some.injEq] at h; omega))

set_option linter.unusedSimpArgs false in
set_option maxHeartbeats 4000000 in
set_option maxRecDepth 100000 in
theorem marked_leading (S : Nat → Prop) (nx : Nat → List Nat) (n cb : Nat) (vf : Value) (l : List Int) (w : World) (hf : Nums w S vf l) (hl : ∀ a ∈ l, 0 ≤ a ∧ a < (n : Int)) (hn : n ≤ 2000) (hll : l.length ≤ 3000) (hnx : ∀ i, i < n → ∀ j ∈ nx i, j < n) (hk : ∀ i, i < n → (nx i).length ≤ 2000) (hS : ∀ b, S b → b < w.heap.size) (HN : Puts 40 (w.heap.size + 1) n nx cb w) :
    Calls Tryd.prog 39 #[.int .i64 (n : Int), vf, .func (.func 40) #[] #[.pointer (some ⟨cb, 0, none⟩)]] w fun e w' => ∃ f, e = .returned (.slice (some ⟨w.heap.size, 0, none⟩) n n) ∧ MetR w' w.heap.size n f ∧ (∀ i, i < n → (f i = true ↔ Gu.Rch nx (l.map Int.toNat) i)) ∧ Below w.heap.size w w' := by
  obtain ⟨xf, cf, gf, of_, rfl, -, -⟩ := hf.open_
  have hmk := run_make_row' (P := Tryd.prog) 49 4 (.bool false) 1 Tryd.underlying49 boolInfo rfl .i64 .i64 n (by omega) (by omega)
  obtain ⟨W1, hW1⟩ : ∃ W1, w.alloc (.cells (madeCells #[.bool false] n) 4) = W1 := ⟨_, rfl⟩
  have B1 : Below w.heap.size w W1 := by rw [← hW1]; exact (Below.refl _ _).alloc (Nat.le_refl _) _
  have s1 : W1.heap.size = w.heap.size + 1 := by rw [← hW1]; simp
  have M1 : MetR W1 w.heap.size n (fun _ => false) := by rw [← hW1]; exact metr_made w n _
  have C1 := Lib.hid (cloneI_any S _ l W1 (hf.carry (keeps_of B1 hS) fun _ h => h) (by omega))
  obtain ⟨m0, hm0⟩ : ∃ m, l.length = m := ⟨_, rfl⟩
  obtain ⟨F, hF⟩ : ∃ F, l.map Int.toNat = F := ⟨_, rfl⟩
  have hFl : F.length = m0 := by rw [← hF, List.length_map, hm0]
  have hFn : ∀ a ∈ F, a < n := fun a ha => by
    rw [← hF] at ha
    obtain ⟨z, hz, rfl⟩ := List.mem_map.1 ha
    have := hl z hz
    omega
  rw [numsI_nat fun a ha => (hl a ha).1, hF] at C1
  rw [hm0] at C1 hll hf ⊢
  rw [hF]
  have hcost : Gu.cost nx (fun _ => false) n ≤ 4000000 := Nat.le_trans (Gu.cost_le n hk) (Nat.mul_le_mul_right 2000 hn)
  have H := Lib.hid (And.intro hFn (And.intro hnx (And.intro hk (And.intro HN (And.intro B1 (And.intro M1 hFl))))))
  have HW1 := Lib.hid hW1
  have HLB := Lib.hid s1
  clear hf hl hnx hk hS HN B1 M1 hW1 hm0 hF hFn s1
  go_enter Tryd.func39, Tryd.ntmps39
  go_wp2_with fail
  rw [HW1.out]
  refine C1.out.mono ?_
  rintro e2 W2 ⟨v2, rfl, ho2, hB2⟩
  have s2 := hB2.size
  rw [HLB.out] at s2 ho2
  have HB2 := Lib.hid (And.intro (H.out.2.2.2.2.1.trans (hB2.mono (by have := HLB.out; omega))) (H.out.2.2.2.2.2.1.of (hB2.block w.heap.size (by have := HLB.out; omega))))
  rw [← hFl] at ho2
  have HO2 := Lib.hid ho2
  clear C1 HW1 hmk hB2 ho2
  go_wp2_with fail
  go_loopg [8] (Gu.cost nx (fun _ => false) n + F.length) (fun gk v wr => ∃ (t : List Nat) (f : Nat → Bool), gk = Gu.cost nx f n + t.length ∧ gk ≤ 4500000 ∧ Gu.Mk nx n F f t ∧ MetR wr w.heap.size n f ∧ wr.ownsRow (w.heap.size + 1) 3 1 v t.length (nums t) ∧ Below w.heap.size w wr)
  case atStart => exact ⟨F, _, rfl, by omega, Gu.mk_start, HB2.out.2, HO2.out, HB2.out.1⟩
  case round =>
    obtain ⟨t, f, rfl, hgk, hmk, hM, hT, hB⟩ := hrel
    obtain ⟨wz, rfl⟩ : ∃ wz, wz = wr := ⟨_, rfl⟩
    obtain ⟨xt, ct, rfl⟩ := own_shape hT
    have sB := hB.size
    have hlb := hM.lt
    rcases List.eq_nil_or_concat t with rfl | ⟨t, q, hq⟩
    · have HZ := Lib.hid (And.intro hmk (And.intro hM hB))
      clear hmk hM hT hB
      simp only [List.length_nil]
      go_wp2_with fail
      go_ret
      exact ⟨f, rfl, HZ.out.2.1, fun i _ => HZ.out.1.done i, HZ.out.2.2⟩
    · rw [List.concat_eq_append] at hq
      subst hq
      obtain ⟨tn, htn⟩ : ∃ m, t.length = m := ⟨_, rfl⟩
      have hlen : (t ++ [q]).length = tn + 1 := by simp [htn]
      rw [hlen] at hT hgk ⊢
      rw [nums_append] at hT
      obtain ⟨tg, rfl⟩ : ∃ g, xt = some ⟨g, 0, none⟩ := by
        rcases hT.2 with ⟨_, h0⟩ | ⟨g, cap, cur, hv, _⟩
        · omega
        · cases hv; exact ⟨g, rfl⟩
      have htg := hT.lt tg (by simp [Value.ownBlock])
      have e0 : wz.cell? ⟨tg, tn, none⟩ = some (.int .i64 (q : Int)) := by
        rw [hT.cellAt _ (by omega), List.getElem?_append_right (by rw [nums_length, htn]; omega), nums_length, htn, Nat.sub_self]; rfl
      have hpop := ownsRow_pop (n := tn) (by rw [nums_length]; omega) hT
      have hcap : tn + 1 ≤ ct ∧ ct ≤ maxLen := by
        rcases hT.2 with ⟨_, h0⟩ | ⟨g, cap, cur, hv, _, _, h1, h2, _⟩
        · omega
        · cases hv; exact ⟨h1, h2⟩
      obtain ⟨hct, hcx⟩ := hcap
      unfold maxLen at hcx
      have hqn : q < n := (hmk.todo_ q (by simp)).lt H.out.1 H.out.2.1
      have hqn' : (q : Int) < (n : Int) := by omega
      have hm1 : (tn : Int) < (tn : Int) + 1 := by omega
      have c1 := hM.cell hqn
      have f1 := hM.frozen q
      have ztg := htg.2
      obtain ⟨bq, hbq⟩ : ∃ b, f q = b := ⟨_, rfl⟩
      rw [hbq] at c1
      have HI := Lib.hid (And.intro hmk (And.intro hM (And.intro hB (And.intro hpop (And.intro htn (And.intro hbq htg.1))))))
      clear hmk hM hB hpop htn hbq hT htg hlen
      cases bq with
      | true =>
        go_wp2_with fail
        obtain ⟨hmk, hM, hB, hpop, htn, hbq, htg⟩ := HI.out
        go_roundg (Gu.cost nx f n + t.length)
        case measure => (try simp only [List.length_append, List.length_cons, List.length_nil]); omega
        case rel => exact ⟨t, f, rfl, by omega, hmk.skip hbq, hM, by rw [htn]; exact hpop, hB⟩
      | false =>
        have hcs := Gu.cost_step (nx := nx) HI.out.2.2.2.2.2.1 n hqn
        have W3B : Below w.heap.size w (wz.setCell ⟨w.heap.size, q, none⟩ (.bool true)) := HI.out.2.2.1.setCell (p := ⟨w.heap.size, q, none⟩) (Nat.le_refl _) _
        have hpop3 : (wz.setCell ⟨w.heap.size, q, none⟩ (.bool true)).ownsRow (w.heap.size + 1) 3 1 (.slice (some ⟨tg, 0, none⟩) tn ct) tn (nums t) := own_same HI.out.2.2.2.1 fun p hp => by
          simp only [Value.ownBlock, Option.some.injEq] at hp
          subst hp
          exact heap_setCell_other _ ⟨w.heap.size, q, none⟩ _ _ (show tg ≠ w.heap.size by have := HI.out.2.2.2.2.2.2; omega)
        have CN := Lib.hid (H.out.2.2.2.1 _ (.slice (some ⟨tg, 0, none⟩) tn ct) t q W3B (by rw [HI.out.2.2.2.2.1]; exact hpop3) (by rw [World.size_setCell]; omega) hqn (by rw [HI.out.2.2.2.2.1]; omega))
        have HQ := Lib.hid (And.intro hcs W3B)
        rw [HI.out.2.2.2.2.1] at CN
        clear hcs W3B hpop3
        go_wp2_with (go_at_call 40; (with_reducible refine CN.out.mono ?_); (rintro e5 w5 ⟨x5, c5, rfl, ho5, hg5⟩); (have H5 := Lib.hid (And.intro ho5 hg5)); clear ho5 hg5)
        obtain ⟨hmk, hM, hB, hpop, htn, hbq, htg⟩ := HI.out
        obtain ⟨ho5, hg5⟩ := H5.out
        obtain ⟨hcs, W3B⟩ := HQ.out
        have s5 := hg5.size
        rw [World.size_setCell] at s5
        go_roundg (Gu.cost nx (Gu.setT f q) n + (t ++ nx q).length)
        case measure => (try simp only [List.length_append, List.length_cons, List.length_nil]); omega
        case rel =>
          refine ⟨t ++ nx q, Gu.setT f q, rfl, by rw [List.length_append]; omega, hmk.step, ?_, by rw [List.length_append, htn]; exact ho5, W3B.grown hg5 (by rw [World.size_setCell]; omega) (fun b hb => by simp only [Value.ownBlock, Option.some.injEq] at hb; omega)⟩
          exact (hM.put hqn true).of (hg5.block w.heap.size (by rw [World.size_setCell]; omega) (fun h => by simp only [Value.ownBlock, Option.some.injEq] at h; omega))
end Go.Proofs.YtkbmkmpoapafaaaDoor
