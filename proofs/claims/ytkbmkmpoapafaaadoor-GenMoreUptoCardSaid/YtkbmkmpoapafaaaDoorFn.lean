/- gen.Fixed and gen.Generic told. -/
import Derived.Test.YtkbmkmpoapafaaaDoorGe
namespace Go.Proofs.YtkbmkmpoapafaaaDoor
open Go.ChangeShapes Go.WideShapes Go.ChangeAt Go.RowKit

/-- A row of numbers of one's own is handed back, with an error's number. -/
def TwoGives (L : List Nat) (c : Int) (w : World) (e : Ending) (w' : World) : Prop := ∃ x d, e = .returned (.tuple #[.slice x L.length d, .int .i64 c]) ∧ w'.ownsRow w.heap.size 3 1 (.slice x L.length d) L.length (nums L) ∧ Below w.heap.size w w'

set_option linter.unusedSimpArgs false in
set_option maxHeartbeats 2000000 in
set_option maxRecDepth 100000 in
theorem fixed_any (S : Nat → Prop) (vg vf : Value) (r : Int) (G : List GN) (l : List Int) (w : World) (T : TypeId) (ev : Value) (hg : w.cell? ⟨0, 0, none⟩ = some (.iface T ev)) (hgl : 0 < w.heap.size) (hG : GrAt w S vg G) (hf : Nums w S vf l) (hS : ∀ b, S b → b < w.heap.size) (sG : Sized G) (lG : G.length ≤ 2000) (aG : ∀ x ∈ G, x.args.length ≤ 2000) (hll : l.length ≤ 3000) :
    Calls Tryd.prog 16 #[.agg #[vg, .int .i64 r], vf] w (TwoGives (fixG G r l) (genC G r l) w) := by
  obtain ⟨xg, cg, gg, og, rfl, -, -⟩ := hG.open_
  obtain ⟨xf, cf, gf, of_, rfl, -, -⟩ := hf.open_
  obtain ⟨n, en⟩ : ∃ n, G.length = n := ⟨_, rfl⟩
  obtain ⟨m, em⟩ : ∃ n, l.length = n := ⟨_, rfl⟩
  obtain ⟨W1, hW1⟩ : ∃ W1, w.alloc (.cells #[.slice xg n cg, .int .i64 r] 24) = W1 := ⟨_, rfl⟩
  have B1 : Below w.heap.size w W1 := by rw [← hW1]; exact (Below.refl _ _).alloc (Nat.le_refl _) _
  have s1 : W1.heap.size = w.heap.size + 1 := by rw [← hW1]; simp
  have b1 : W1.heap[w.heap.size]? = some (.cells #[.slice xg n cg, .int .i64 r] 24) := by rw [← hW1]; exact heap_last rfl
  have X : Hid (∀ V, Below W1.heap.size W1 V → GrAt V S (.slice xg n cg) G ∧ Nums V S (.slice xf m cf) l ∧ (∀ b, S b → b < V.heap.size) ∧ V.heap[w.heap.size]? = some (.cells #[.slice xg n cg, .int .i64 r] 24) ∧ w.heap.size < V.heap.size ∧ Below w.heap.size w V ∧ V.cell? ⟨0, 0, none⟩ = some (.iface T ev) ∧ 0 < V.heap.size) := Lib.hid fun V hV => by
    have hB := B1.trans (hV.mono (by omega))
    have hs := hV.size
    rw [← en, ← em]
    exact ⟨hG.carry (keeps_of hB hS) fun _ h => h, hf.carry (keeps_of hB hS) fun _ h => h, fun b hb => Nat.lt_of_lt_of_le (hS b hb) hB.size, by rw [en]; exact (hV.block _ (by omega)).trans b1, by omega, hB, (hB.cell (p := ⟨_, 0, none⟩) hgl).trans hg, by omega⟩
  have x := X.out W1 (Below.refl _ _)
  have C1 := Lib.hid (gencheck_any S (.slice xg n cg) (.slice xf m cf) r G l W1 T ev x.2.2.2.2.2.2.1 x.2.2.2.2.2.2.2 x.1 x.2.1 x.2.2.1 sG)
  have a0 := Lib.cell_of_heap b1 0
  have a1 := Lib.cell_of_heap b1 1
  simp only [List.getElem?_toArray, List.getElem?_cons_zero, List.getElem?_cons_succ] at a0 a1
  have hlt1 : w.heap.size < W1.heap.size := by omega
  rw [en, em]
  have hw := genC_ways G r l
  have hLG : fixG G r l = if genC G r l = 0 then fixF G l else [] := rfl
  obtain ⟨L, hL⟩ : ∃ L, fixG G r l = L := ⟨_, rfl⟩
  rw [hL] at hLG ⊢
  have HOK := Lib.hid (@genC_ok G r l)
  obtain ⟨c, hc⟩ : ∃ c, genC G r l = c := ⟨_, rfl⟩
  rw [hc] at C1 hw hLG HOK ⊢
  have H := Lib.hid (And.intro lG (And.intro aG (And.intro hll (And.intro en (And.intro em (And.intro s1 hLG))))))
  have HW1 := Lib.hid hW1
  have SO : Hid (∀ V, Below W1.heap.size W1 V → V.cell? ⟨w.heap.size, 0, none⟩ = some (.slice xg n cg) ∧ V.cell? ⟨w.heap.size, 1, none⟩ = some (.int .i64 r) ∧ w.heap.size < V.heap.size ∧ Below W1.heap.size W1 V) := Lib.hid fun V hV => by
    have x := X.out V hV
    exact ⟨Lib.cell_of_heap x.2.2.2.1 0, Lib.cell_of_heap x.2.2.2.1 1, x.2.2.2.2.1, hV⟩
  clear hg hgl hG hf hS sG aG hll B1 s1 b1 hW1 x hL hLG hc
  have Z : Hid (∀ V, Below W1.heap.size W1 V → L = [] → TwoGives L c w (.returned (.tuple #[.slice none 0 0, .int .i64 c])) V) := Lib.hid fun V hV hL => by
    subst hL
    exact ⟨none, 0, rfl, World.ownsRow_nil _ _ _ _, (X.out V hV).2.2.2.2.2.1⟩
  rcases hw with rfl | rfl | rfl
  rotate_left
  · go_enter Tryd.func16, Tryd.ntmps16
    go_wp2_with fail
    rw [HW1.out]
    refine C1.out.mono ?_
    rintro e2 W2 ⟨rfl, hB2⟩
    have HB2 := Lib.hid hB2
    clear hB2 C1 HW1 a0 a1
    go_wp2_with fail
    go_ret2
    exact Z.out _ HB2.out (by rw [H.out.2.2.2.2.2.2]; rfl)
  · go_enter Tryd.func16, Tryd.ntmps16
    go_wp2_with fail
    rw [HW1.out]
    refine C1.out.mono ?_
    rintro e2 W2 ⟨rfl, hB2⟩
    have HB2 := Lib.hid hB2
    clear hB2 C1 HW1 a0 a1
    go_wp2_with fail
    go_ret2
    exact Z.out _ HB2.out (by rw [H.out.2.2.2.2.2.2]; rfl)
  · obtain ⟨hok, hin⟩ := HOK.out.1 rfl
    have HO := Lib.hid (And.intro hok hin)
    have hLF : L = fixF G l := by rw [H.out.2.2.2.2.2.2, if_pos rfl]
    have HLF := Lib.hid hLF
    clear hok hin hLF
    go_enter Tryd.func16, Tryd.ntmps16
    go_wp2_with fail
    rw [HW1.out]
    refine C1.out.mono ?_
    rintro e2 W2 ⟨rfl, hB2⟩
    have x := X.out W2 hB2
    have HB2 := Lib.hid hB2
    clear C1 HW1 a0 a1
    have a0 := Lib.cell_of_heap x.2.2.2.1 0
    have a1 := Lib.cell_of_heap x.2.2.2.1 1
    simp only [List.getElem?_toArray, List.getElem?_cons_zero, List.getElem?_cons_succ] at a0 a1
    have hww := x.2.2.2.2.1
    have C2 : Hid (∀ V, (V.cell? ⟨w.heap.size, 0, none⟩ = some (.slice xg n cg) ∧ V.cell? ⟨w.heap.size, 1, none⟩ = some (.int .i64 r) ∧ w.heap.size < V.heap.size ∧ Below W1.heap.size W1 V) → Calls Tryd.prog 33 #[.agg #[.slice xg n cg, .int .i64 r], .slice xf m cf] V fun e w' => ∃ b f, e = .returned (.slice (some ⟨b, 0, none⟩) n n) ∧ MetR w' b n f ∧ (∀ i, i < n → (f i = true ↔ Gu.Rch (argsOf G) (l.map Int.toNat) i)) ∧ Below W1.heap.size W1 w') := Lib.hid fun V hV => by
      obtain ⟨_, _, _, hB⟩ := hV
      have x := X.out V hB
      refine (reached_any S _ _ r G l V x.1 x.2.1 x.2.2.1 HO.out.1 H.out.1 H.out.2.1 HO.out.2 H.out.2.2.1).mono ?_
      rintro e w' ⟨b, f, rfl, _, h2, h3, h4⟩
      rw [H.out.2.2.2.1] at h2 h3 ⊢
      exact ⟨b, f, rfl, h2, h3, hB.trans (h4.mono hB.size)⟩
    clear hB2 x a0 a1
    go_wp2_with fail
    go_region_held3 (fun V => V.cell? ⟨w.heap.size, 0, none⟩ = some (.slice xg n cg) ∧ V.cell? ⟨w.heap.size, 1, none⟩ = some (.int .i64 r) ∧ w.heap.size < V.heap.size ∧ Below W1.heap.size W1 V)
      (first
        | with_reducible exact SO.out _ hU4 | with_reducible exact SO.out _ hU3
        | with_reducible exact SO.out _ HB2.out.drew)
      (first
        | (go_at_call 33; (with_reducible refine (C2.out _ (by with_reducible assumption)).mono ?_); (rintro e3 u3 ⟨b3, f3, rfl, hM3, hf3, hU3⟩); (have HU3 := Lib.hid (And.intro hM3 hf3)); clear hM3 hf3)
        | (go_at_call 32; (have hx3 := X.out _ hU3); (have hC3 := genfree_any S (.slice xg n cg) r G b3 f3 u3 hx3.1 hx3.2.2.1 (by rw [H.out.2.2.2.1]; exact HU3.out.1) H.out.1); (have hLe : freeL G f3 = L := by rw [HLF.out]; unfold fixF; exact freeL_congr fun i hi => by rw [H.out.2.2.2.1] at hi; exact rchB_of (HU3.out.2 i hi)); (rw [hLe, H.out.2.2.2.1] at hC3); (with_reducible refine hC3.mono ?_); (rintro e4 u4 ⟨x4, c4, rfl, hO4, hB4⟩); (have hU4 : Below W1.heap.size W1 u4 := hU3.trans (hB4.mono hU3.size)); (have H4 := Lib.hid hO4); clear hO4 hB4 hx3 hC3 hLe))
    all_goals
      go_wp2_with fail
      go_ret2
      have hx4 := X.out u4 hU4
      have hx3 := X.out u3 hU3
      exact ⟨x4, c4, rfl, own_base H4.out hx3.2.2.2.2.2.1.size, hx4.2.2.2.2.2.1⟩

set_option linter.unusedSimpArgs false in
set_option maxHeartbeats 2000000 in
set_option maxRecDepth 100000 in
theorem generics_any (S : Nat → Prop) (vg vf : Value) (r : Int) (G : List GN) (l : List Int) (w : World) (T : TypeId) (ev : Value) (hg : w.cell? ⟨0, 0, none⟩ = some (.iface T ev)) (hgl : 0 < w.heap.size) (hG : GrAt w S vg G) (hf : Nums w S vf l) (hS : ∀ b, S b → b < w.heap.size) (sG : Sized G) (lG : G.length ≤ 2000) (aG : ∀ x ∈ G, x.args.length ≤ 2000) (hll : l.length ≤ 3000) :
    Calls Tryd.prog 15 #[.agg #[vg, .int .i64 r], vf] w (TwoGives (genG G r l) (genC G r l) w) := by
  obtain ⟨xg, cg, gg, og, rfl, -, -⟩ := hG.open_
  obtain ⟨xf, cf, gf, of_, rfl, -, -⟩ := hf.open_
  obtain ⟨n, en⟩ : ∃ n, G.length = n := ⟨_, rfl⟩
  obtain ⟨m, em⟩ : ∃ n, l.length = n := ⟨_, rfl⟩
  obtain ⟨W1, hW1⟩ : ∃ W1, w.alloc (.cells #[.slice xg n cg, .int .i64 r] 24) = W1 := ⟨_, rfl⟩
  have B1 : Below w.heap.size w W1 := by rw [← hW1]; exact (Below.refl _ _).alloc (Nat.le_refl _) _
  have s1 : W1.heap.size = w.heap.size + 1 := by rw [← hW1]; simp
  have b1 : W1.heap[w.heap.size]? = some (.cells #[.slice xg n cg, .int .i64 r] 24) := by rw [← hW1]; exact heap_last rfl
  have X : Hid (∀ V, Below W1.heap.size W1 V → GrAt V S (.slice xg n cg) G ∧ Nums V S (.slice xf m cf) l ∧ (∀ b, S b → b < V.heap.size) ∧ V.heap[w.heap.size]? = some (.cells #[.slice xg n cg, .int .i64 r] 24) ∧ w.heap.size < V.heap.size ∧ Below w.heap.size w V ∧ V.cell? ⟨0, 0, none⟩ = some (.iface T ev) ∧ 0 < V.heap.size) := Lib.hid fun V hV => by
    have hB := B1.trans (hV.mono (by omega))
    have hs := hV.size
    rw [← en, ← em]
    exact ⟨hG.carry (keeps_of hB hS) fun _ h => h, hf.carry (keeps_of hB hS) fun _ h => h, fun b hb => Nat.lt_of_lt_of_le (hS b hb) hB.size, by rw [en]; exact (hV.block _ (by omega)).trans b1, by omega, hB, (hB.cell (p := ⟨_, 0, none⟩) hgl).trans hg, by omega⟩
  have x := X.out W1 (Below.refl _ _)
  have C1 := Lib.hid (gencheck_any S (.slice xg n cg) (.slice xf m cf) r G l W1 T ev x.2.2.2.2.2.2.1 x.2.2.2.2.2.2.2 x.1 x.2.1 x.2.2.1 sG)
  have a0 := Lib.cell_of_heap b1 0
  have a1 := Lib.cell_of_heap b1 1
  simp only [List.getElem?_toArray, List.getElem?_cons_zero, List.getElem?_cons_succ] at a0 a1
  have hlt1 : w.heap.size < W1.heap.size := by omega
  rw [en, em]
  have hw := genC_ways G r l
  have hLG : genG G r l = if genC G r l = 0 then genF G r l else [] := rfl
  obtain ⟨L, hL⟩ : ∃ L, genG G r l = L := ⟨_, rfl⟩
  rw [hL] at hLG ⊢
  have HOK := Lib.hid (@genC_ok G r l)
  obtain ⟨c, hc⟩ : ∃ c, genC G r l = c := ⟨_, rfl⟩
  rw [hc] at C1 hw hLG HOK ⊢
  have H := Lib.hid (And.intro lG (And.intro aG (And.intro hll (And.intro en (And.intro em (And.intro s1 hLG))))))
  have HW1 := Lib.hid hW1
  have SO : Hid (∀ V, Below W1.heap.size W1 V → V.cell? ⟨w.heap.size, 0, none⟩ = some (.slice xg n cg) ∧ V.cell? ⟨w.heap.size, 1, none⟩ = some (.int .i64 r) ∧ w.heap.size < V.heap.size ∧ Below W1.heap.size W1 V) := Lib.hid fun V hV => by
    have x := X.out V hV
    exact ⟨Lib.cell_of_heap x.2.2.2.1 0, Lib.cell_of_heap x.2.2.2.1 1, x.2.2.2.2.1, hV⟩
  clear hg hgl hG hf hS sG aG hll B1 s1 b1 hW1 x hL hLG hc
  have Z : Hid (∀ V, Below W1.heap.size W1 V → L = [] → TwoGives L c w (.returned (.tuple #[.slice none 0 0, .int .i64 c])) V) := Lib.hid fun V hV hL => by
    subst hL
    exact ⟨none, 0, rfl, World.ownsRow_nil _ _ _ _, (X.out V hV).2.2.2.2.2.1⟩
  rcases hw with rfl | rfl | rfl
  rotate_left
  · go_enter Tryd.func15, Tryd.ntmps15
    go_wp2_with fail
    rw [HW1.out]
    refine C1.out.mono ?_
    rintro e2 W2 ⟨rfl, hB2⟩
    have HB2 := Lib.hid hB2
    clear hB2 C1 HW1 a0 a1
    go_wp2_with fail
    go_ret2
    exact Z.out _ HB2.out (by rw [H.out.2.2.2.2.2.2]; rfl)
  · go_enter Tryd.func15, Tryd.ntmps15
    go_wp2_with fail
    rw [HW1.out]
    refine C1.out.mono ?_
    rintro e2 W2 ⟨rfl, hB2⟩
    have HB2 := Lib.hid hB2
    clear hB2 C1 HW1 a0 a1
    go_wp2_with fail
    go_ret2
    exact Z.out _ HB2.out (by rw [H.out.2.2.2.2.2.2]; rfl)
  · obtain ⟨hok, hin⟩ := HOK.out.1 rfl
    have HO := Lib.hid (And.intro hok hin)
    have hLF : L = genF G r l := by rw [H.out.2.2.2.2.2.2, if_pos rfl]
    have HLF := Lib.hid hLF
    clear hok hin hLF
    go_enter Tryd.func15, Tryd.ntmps15
    go_wp2_with fail
    rw [HW1.out]
    refine C1.out.mono ?_
    rintro e2 W2 ⟨rfl, hB2⟩
    have x := X.out W2 hB2
    have HB2 := Lib.hid hB2
    clear C1 HW1 a0 a1
    have a0 := Lib.cell_of_heap x.2.2.2.1 0
    have a1 := Lib.cell_of_heap x.2.2.2.1 1
    simp only [List.getElem?_toArray, List.getElem?_cons_zero, List.getElem?_cons_succ] at a0 a1
    have hww := x.2.2.2.2.1
    have C2 := Lib.hid (generic_any S (.slice xg n cg) (.slice xf m cf) r G l W2 x.1 x.2.1 x.2.2.1 HO.out.1 H.out.1 H.out.2.1 HO.out.2 H.out.2.2.1)
    rw [← HLF.out] at C2
    clear hB2 x
    go_wp2_with fail
    refine C2.out.mono ?_
    rintro e3 W3 ⟨x3, c3, rfl, h3, hB3⟩
    have H3 := Lib.hid (And.intro h3 hB3)
    clear h3 hB3 C2 a0 a1
    go_wp2_with fail
    go_ret2
    have hx2 := X.out W2 HB2.out
    exact ⟨x3, c3, rfl, own_base H3.out.1 hx2.2.2.2.2.2.1.size, hx2.2.2.2.2.2.1.trans (H3.out.2.mono hx2.2.2.2.2.2.1.size)⟩
end Go.Proofs.YtkbmkmpoapafaaaDoor
