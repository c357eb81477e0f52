/- trefoillaw06.GraphSame. -/
import Derived.Test.YtelmigkbofnicaaDoorRs
import Derived.Test.YtelmigkbofnicaaDoorGg
import Derived.Test.YtelmigkbofnicaaDoorGv
import Derived.Test.YtelmigkbofnicaaDoorGj
namespace Go.Proofs.YtelmigkbofnicaaDoor
open Go.ChangeShapes Go.WideShapes Go.ChangeAt Go.RowKit

set_option linter.unusedSimpArgs false in
set_option maxHeartbeats 8000000 in
set_option maxRecDepth 100000 in
theorem samelaw_any (S : Nat → Prop) (vg vh : Value) (r s : Int) (G H : List GN) (w : World) (T : TypeId) (ev : Value) (hg : w.cell? ⟨0, 0, none⟩ = some (.iface T ev)) (hgl : 0 < w.heap.size) (hG : GrAt w S vg G) (hH : GrAt w S vh H) (hS : ∀ b, S b → b < w.heap.size) (sG : Sized G) (sH : Sized H)
    (bG : greatN G ≤ 4611686018427387904) (bH : greatN H ≤ 4611686018427387904) :
    Calls Tryd.prog 4 #[.agg #[vg, .int .i64 r], .agg #[vh, .int .i64 s]] w fun e w' => e = .returned (.bool true) ∧ Below w.heap.size w w' := by
  obtain ⟨xg, cg, gg, og, rfl, _, _⟩ := hG.open_
  obtain ⟨xh, ch, gh, oh, rfl, _, _⟩ := hH.open_
  obtain ⟨n, en⟩ : ∃ n, G.length = n := ⟨_, rfl⟩
  obtain ⟨m, em⟩ : ∃ m, H.length = m := ⟨_, rfl⟩
  rw [en] at hG ⊢
  rw [em] at hH ⊢
  obtain ⟨V, hV⟩ : ∃ V, (w.alloc (.cells #[.slice xg n cg, .int .i64 r] 24)).alloc (.cells #[.slice xh m ch, .int .i64 s] 24) = V := ⟨_, rfl⟩
  have BV : Below w.heap.size w V := by rw [← hV]; exact ((Below.refl _ _).alloc (Nat.le_refl _) _).alloc (by simp) _
  have sV : V.heap.size = w.heap.size + 2 := by rw [← hV]; simp
  have f0 : V.heap[w.heap.size]? = some (.cells #[.slice xg n cg, .int .i64 r] 24) := by rw [← hV, heap_old (by simp)]; exact heap_last rfl
  have f1 : V.heap[w.heap.size + 1]? = some (.cells #[.slice xh m ch, .int .i64 s] 24) := by rw [← hV]; exact heap_last (by simp)
  have X : Hid (∀ U, Below V.heap.size V U → GrAt U S (.slice xg n cg) G ∧ GrAt U S (.slice xh m ch) H ∧ (∀ b, S b → b < U.heap.size) ∧ U.cell? ⟨0, 0, none⟩ = some (.iface T ev) ∧ 0 < U.heap.size ∧ U.heap[w.heap.size]? = some (.cells #[.slice xg n cg, .int .i64 r] 24) ∧ U.heap[w.heap.size + 1]? = some (.cells #[.slice xh m ch, .int .i64 s] 24) ∧ Below w.heap.size w U ∧ w.heap.size + 2 ≤ U.heap.size) := Lib.hid fun U hU => by
    have hs := hU.size
    have hBU : Below w.heap.size w U := BV.trans (hU.mono (by omega))
    exact ⟨hG.carry (keeps_of hBU hS) fun _ h => h, hH.carry (keeps_of hBU hS) fun _ h => h, fun b hb => Nat.lt_of_lt_of_le (hS b hb) hBU.size, (hBU.cell (p := ⟨_, 0, none⟩) hgl).trans hg, Nat.lt_of_lt_of_le hgl hBU.size, (hU.block _ (by omega)).trans f0, (hU.block _ (by omega)).trans f1, hBU, by omega⟩
  have Z := Lib.hid (And.intro sG (And.intro sH (And.intro bG (And.intro bH hS))))
  have HGO := Lib.hid (And.intro en em)
  clear hg hgl hG hH hS sG sH bG bH f0 f1 BV en em
  go_enter Tryd.func4, Tryd.ntmps4
  have C0 := Lib.hid (alive_any V T ev (X.out V (Below.refl _ _)).2.2.2.1 (X.out V (Below.refl _ _)).2.2.2.2.1)
  go_wp2_with fail
  refine C0.out.mono ?_
  rintro e0 W0 ⟨rfl, hB0⟩
  have HB0 := Lib.hid hB0
  have s0 := hB0.size
  clear C0 hB0 hV
  have x := X.out W0 HB0.out
  have a0 := Lib.cell_of_heap x.2.2.2.2.2.1 0
  have a1 := Lib.cell_of_heap x.2.2.2.2.2.1 1
  have a2 := Lib.cell_of_heap x.2.2.2.2.2.2.1 0
  have a3 := Lib.cell_of_heap x.2.2.2.2.2.2.1 1
  simp only [List.getElem?_toArray, List.getElem?_cons_zero, List.getElem?_cons_succ] at a0 a1 a2 a3
  have hl0 : w.heap.size < W0.heap.size := by have := x.2.2.2.2.2.2.2.2; omega
  have hl1 : w.heap.size + 1 < W0.heap.size := by have := x.2.2.2.2.2.2.2.2; omega
  have C := Lib.hid (great_any S (.slice xg n cg) r G W0 x.1 x.2.2.1 Z.out.2.2.1)
  go_wp2_with fail
  refine C.out.mono ?_
  rintro e1 W1 ⟨rfl, hB1⟩
  have s1 := hB1.size
  have HB1 := Lib.hid (HB0.out.trans (hB1.mono (by omega)))
  clear C hB1
  clear a0 a1 a2 a3 x hl0 hl1
  have x := X.out W1 HB1.out
  have a0 := Lib.cell_of_heap x.2.2.2.2.2.1 0
  have a1 := Lib.cell_of_heap x.2.2.2.2.2.1 1
  have a2 := Lib.cell_of_heap x.2.2.2.2.2.2.1 0
  have a3 := Lib.cell_of_heap x.2.2.2.2.2.2.1 1
  simp only [List.getElem?_toArray, List.getElem?_cons_zero, List.getElem?_cons_succ] at a0 a1 a2 a3
  have hl0 : w.heap.size < W1.heap.size := by have := x.2.2.2.2.2.2.2.2; omega
  have hl1 : w.heap.size + 1 < W1.heap.size := by have := x.2.2.2.2.2.2.2.2; omega
  by_cases hG : (150 : Int) < (greatN G : Int)
  · go_wp2_with fail
    go_ret
    exact ⟨rfl, (X.out _ HB1.out).2.2.2.2.2.2.2.1⟩
  · have egG : decide ((150 : Int) < (greatN G : Int)) = false := by simp [hG]
    clear a0 a1 a2 a3 x hl0 hl1
    have x := X.out W1 HB1.out
    have a0 := Lib.cell_of_heap x.2.2.2.2.2.1 0
    have a1 := Lib.cell_of_heap x.2.2.2.2.2.1 1
    have a2 := Lib.cell_of_heap x.2.2.2.2.2.2.1 0
    have a3 := Lib.cell_of_heap x.2.2.2.2.2.2.1 1
    simp only [List.getElem?_toArray, List.getElem?_cons_zero, List.getElem?_cons_succ] at a0 a1 a2 a3
    have hl0 : w.heap.size < W1.heap.size := by have := x.2.2.2.2.2.2.2.2; omega
    have hl1 : w.heap.size + 1 < W1.heap.size := by have := x.2.2.2.2.2.2.2.2; omega
    have C := Lib.hid (great_any S (.slice xh m ch) s H W1 x.2.1 x.2.2.1 Z.out.2.2.2.1)
    go_wp2_with fail
    refine C.out.mono ?_
    rintro e2 W2 ⟨rfl, hB2⟩
    have s2 := hB2.size
    have HB2 := Lib.hid (HB1.out.trans (hB2.mono (by omega)))
    clear C hB2
    clear a0 a1 a2 a3 x hl0 hl1
    have x := X.out W2 HB2.out
    have a0 := Lib.cell_of_heap x.2.2.2.2.2.1 0
    have a1 := Lib.cell_of_heap x.2.2.2.2.2.1 1
    have a2 := Lib.cell_of_heap x.2.2.2.2.2.2.1 0
    have a3 := Lib.cell_of_heap x.2.2.2.2.2.2.1 1
    simp only [List.getElem?_toArray, List.getElem?_cons_zero, List.getElem?_cons_succ] at a0 a1 a2 a3
    have hl0 : w.heap.size < W2.heap.size := by have := x.2.2.2.2.2.2.2.2; omega
    have hl1 : w.heap.size + 1 < W2.heap.size := by have := x.2.2.2.2.2.2.2.2; omega
    by_cases hH : (150 : Int) < (greatN H : Int)
    · go_wp2_with fail
      go_ret
      exact ⟨rfl, (X.out _ HB2.out).2.2.2.2.2.2.2.1⟩
    · have egH : decide ((150 : Int) < (greatN H : Int)) = false := by simp [hH]
      clear a0 a1 a2 a3 x hl0 hl1
      have grG := great_len (l := G) (k := 150) (by omega)
      have grH := great_len (l := H) (k := 150) (by omega)
      obtain ⟨sb, hsb⟩ : ∃ b, sameGr G r H s = b := ⟨_, rfl⟩
      have e0 : (sb == sb) = true := by simp
      have CS1 : Hid (∀ U, Below W2.heap.size W2 U → Calls Tryd.prog 21 #[.agg #[.slice xg n cg, .int .i64 r], .agg #[.slice xh m ch, .int .i64 s]] U fun e w' => e = .returned (.bool sb) ∧ Below W2.heap.size W2 w') := Lib.hid fun U hU => by
        have x := X.out U (HB2.out.trans (hU.mono (by omega)))
        rw [← hsb]
        exact (gsame_any S _ _ r s G H U T ev x.2.2.2.1 x.2.2.2.2.1 x.1 x.2.1 x.2.2.1 Z.out.1 Z.out.2.1 (by omega) (by omega) (fun x hx => by have := grG.2.1 x hx; omega)).mono fun e w' h => ⟨h.1, hU.trans (h.2.mono hU.size)⟩
      have CS2 : Hid (∀ U, Below W2.heap.size W2 U → Calls Tryd.prog 22 #[.agg #[.slice xg n cg, .int .i64 r], .agg #[.slice xh m ch, .int .i64 s]] U fun e w' => e = .returned (.bool sb) ∧ Below W2.heap.size W2 w') := Lib.hid fun U hU => by
        have x := X.out U (HB2.out.trans (hU.mono (by omega)))
        rw [← hsb]
        exact (refsame_any S _ _ r s G H U x.1 x.2.1 x.2.2.1 Z.out.1 Z.out.2.1 (by omega) (by omega) (fun x hx => by have := grG.2.1 x hx; omega)).mono fun e w' h => ⟨h.1, hU.trans (h.2.mono hU.size)⟩
      have SO : Hid (∀ V, Below W2.heap.size W2 V → V.cell? ⟨w.heap.size, 0, none⟩ = some (.slice xg n cg) ∧ V.cell? ⟨w.heap.size, 1, none⟩ = some (.int .i64 r) ∧ V.cell? ⟨w.heap.size + 1, 0, none⟩ = some (.slice xh m ch) ∧ V.cell? ⟨w.heap.size + 1, 1, none⟩ = some (.int .i64 s)) := Lib.hid fun V hV => by
        have x := X.out V (HB2.out.trans (hV.mono (by omega)))
        exact ⟨Lib.cell_of_heap x.2.2.2.2.2.1 0, Lib.cell_of_heap x.2.2.2.2.2.1 1, Lib.cell_of_heap x.2.2.2.2.2.2.1 0, Lib.cell_of_heap x.2.2.2.2.2.2.1 1⟩
      have hBB : Below W2.heap.size W2 W2.drew := (Below.refl _ _).drew
      clear hsb grG grH
      go_wp2_with fail
      refine wp_region_held_drew (S := fun V => V.cell? ⟨w.heap.size, 0, none⟩ = some (.slice xg n cg) ∧ V.cell? ⟨w.heap.size, 1, none⟩ = some (.int .i64 r) ∧ V.cell? ⟨w.heap.size + 1, 0, none⟩ = some (.slice xh m ch) ∧ V.cell? ⟨w.heap.size + 1, 1, none⟩ = some (.int .i64 s)) (by kernel_rfl) (SO.out _ hBB) (fun hHeld => ?_)
      refine wpAnyH_take (i := 0) (v := ?_) rfl (by kernel_rfl) (by kernel_rfl) (by kernel_rfl) (fun _ _ _ h => h) (Or.inl ⟨by rfl, ?_⟩) (by assumption) ?_
      rotate_left
      · intro w hSw
        (try dsimp only at hSw)
        go_simp
        try with_reducible rfl
      try simp only [List.getElem_toArray, List.getElem_cons_zero, List.getElem_cons_succ, Act.put, List.setIfInBounds_toArray, List.set_cons_zero, List.set_cons_succ]
      refine wpAnyH_take (i := 1) (v := ?_) rfl (by kernel_rfl) (by kernel_rfl) (by kernel_rfl) (fun _ _ _ h => h) (Or.inl ⟨by rfl, ?_⟩) (by assumption) ?_
      rotate_left
      · intro w hSw
        (try dsimp only at hSw)
        go_simp
        try with_reducible rfl
      try simp only [List.getElem_toArray, List.getElem_cons_zero, List.getElem_cons_succ, Act.put, List.setIfInBounds_toArray, List.set_cons_zero, List.set_cons_succ]
      refine wpAnyH_take (i := 3) (v := ?_) rfl (by kernel_rfl) (by kernel_rfl) (by kernel_rfl) (fun _ _ _ h => h) (Or.inl ⟨by rfl, ?_⟩) (by assumption) ?_
      rotate_left
      · intro w hSw
        (try dsimp only at hSw)
        go_simp
        try with_reducible rfl
      try simp only [List.getElem_toArray, List.getElem_cons_zero, List.getElem_cons_succ, Act.put, List.setIfInBounds_toArray, List.set_cons_zero, List.set_cons_succ]
      refine wpAnyH_take (i := 4) (v := ?_) rfl (by kernel_rfl) (by kernel_rfl) (by kernel_rfl) (fun _ _ _ h => h) (Or.inl ⟨by rfl, ?_⟩) (by assumption) ?_
      rotate_left
      · intro w hSw
        (try dsimp only at hSw)
        go_simp
        try with_reducible rfl
      try simp only [List.getElem_toArray, List.getElem_cons_zero, List.getElem_cons_succ, Act.put, List.setIfInBounds_toArray, List.set_cons_zero, List.set_cons_succ]
      refine wpAnyH_ready (rs := [2]) (by kernel_rfl) (by simp) ?_
      refine AllReadyH.cons (by simp only [List.getElem?_toArray, List.getElem?_cons_zero, List.getElem?_cons_succ]; rfl) (fun K hK => ?_) AllReadyH.nil
      go_simp
      (go_at_call 21; with_reducible refine (CS1.out _ hBB).mono ?_; rintro e9 w9 ⟨rfl, hBB⟩)
      go_wp2_with fail
      refine hK.out _ _ (by first | assumption | exact SO.out _ (by first | exact hBB | exact dN_below hBB _ | exact hBB.drew)) (fun hHeld => ?_)
      try simp only [List.getElem_toArray, List.getElem_cons_zero, List.getElem_cons_succ, Act.put, List.setIfInBounds_toArray, List.set_cons_zero, List.set_cons_succ]
      refine wpAnyH_ready (rs := [5]) (by kernel_rfl) (by simp) ?_
      refine AllReadyH.cons (by simp only [List.getElem?_toArray, List.getElem?_cons_zero, List.getElem?_cons_succ]; rfl) (fun K hK => ?_) AllReadyH.nil
      go_simp
      (go_at_call 22; with_reducible refine (CS2.out _ hBB).mono ?_; rintro e9 w9 ⟨rfl, hBB⟩)
      go_wp2_with fail
      refine hK.out _ _ (by first | assumption | exact SO.out _ (by first | exact hBB | exact dN_below hBB _ | exact hBB.drew)) (fun hHeld => ?_)
      try simp only [List.getElem_toArray, List.getElem_cons_zero, List.getElem_cons_succ, Act.put, List.setIfInBounds_toArray, List.set_cons_zero, List.set_cons_succ]
      refine wpAnyH_take (i := 6) (v := ?_) rfl (by kernel_rfl) (by kernel_rfl) (by kernel_rfl) (fun _ _ _ h => h) (Or.inl ⟨by rfl, ?_⟩) (by assumption) ?_
      rotate_left
      · intro w hSw
        (try dsimp only at hSw)
        go_simp
        try with_reducible rfl
      try simp only [List.getElem_toArray, List.getElem_cons_zero, List.getElem_cons_succ, Act.put, List.setIfInBounds_toArray, List.set_cons_zero, List.set_cons_succ]
      refine wpAnyH_take (i := 7) (v := ?_) rfl (by kernel_rfl) (by kernel_rfl) (by kernel_rfl) (fun _ _ _ h => h) (Or.inl ⟨by rfl, ?_⟩) (by assumption) ?_
      rotate_left
      · intro w hSw
        (try dsimp only at hSw)
        go_simp
        try with_reducible rfl
      try simp only [List.getElem_toArray, List.getElem_cons_zero, List.getElem_cons_succ, Act.put, List.setIfInBounds_toArray, List.set_cons_zero, List.set_cons_succ]
      refine wpAnyH_done (by kernel_rfl) ?_ _
      go_wp2_with fail
      go_ret
      exact ⟨rfl, (X.out _ (HB2.out.trans ((show Below W2.heap.size W2 _ by first | exact hBB | exact dN_below hBB _ | exact hBB.drew).mono (by omega)))).2.2.2.2.2.2.2.1⟩
end Go.Proofs.YtelmigkbofnicaaDoor
