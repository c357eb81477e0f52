/- trefoillaw13.alive. -/
import Derived.Test.YtkbmkmpoapafaaaDoorAg
namespace Go.Proofs.YtkbmkmpoapafaaaDoor
open Go.ChangeShapes Go.WideShapes Go.ChangeAt Go.RowKit

theorem nums2' {V : World} {S : Nat → Prop} {b : Nat} {a c : Int} {T : TypeId} (h : V.heap[b]? = some (.cells #[.int .i64 a, .int .i64 c] T)) (hb : S b) : Nums V S (.slice (some ⟨b, 0, none⟩) 2 2) [a, c] :=
  ⟨b, 0, .inr ⟨2, rfl, Nat.le_refl _, by unfold maxLen; omega, hb⟩, fun i hi => by
    match i, hi with
    | 0, _ => exact cell_block h rfl
    | 1, _ => exact cell_block h rfl⟩
theorem nums1' {V : World} {S : Nat → Prop} {b : Nat} {a : Int} {T : TypeId} (h : V.heap[b]? = some (.cells #[.int .i64 a] T)) (hb : S b) : Nums V S (.slice (some ⟨b, 0, none⟩) 1 1) [a] :=
  ⟨b, 0, .inr ⟨1, rfl, Nat.le_refl _, by unfold maxLen; omega, hb⟩, fun i hi => by
    match i, hi with
    | 0, _ => exact cell_block h rfl⟩
theorem nums0' {V : World} {S : Nat → Prop} : Nums V S (.slice none 0 0) [] := ⟨0, 0, .inl ⟨.inl rfl, rfl⟩, fun i hi => absurd hi (by simp)⟩
theorem strs0' {V : World} {S : Nat → Prop} : Strs V S (.slice none 0 0) [] := ⟨0, 0, .inl ⟨.inl rfl, rfl⟩, fun i hi => absurd hi (by simp)⟩
theorem gr_alG {V : World} {S : Nat → Prop} {b p : Nat} {T U : TypeId} (h : V.heap[b]? = some (.cells #[.int .i64 2, .string ⟨#[45, 62]⟩, .slice (some ⟨p, 0, none⟩) 2 2, .slice none 0 0, .bool false, .int .i64 1, .string ⟨#[]⟩, .slice none 0 0, .slice none 0 0, .bool false, .int .i64 1, .string ⟨#[]⟩, .slice none 0 0, .slice none 0 0, .bool false] T))
    (hp : V.heap[p]? = some (.cells #[.int .i64 1, .int .i64 2] U)) (hb : S b) (hpS : S p) : GrAt V S (.slice (some ⟨b, 0, none⟩) 3 3) alG :=
  ⟨b, 0, .inr ⟨3, rfl, Nat.le_refl _, by unfold maxLen; omega, hb⟩, fun i hi => by
    match i, hi with
    | 0, _ => exact ⟨_, _, ⟨hb, cell_block h rfl, cell_block h rfl, cell_block h rfl, cell_block h rfl, cell_block h rfl, nums2' hp hpS, strs0'⟩⟩
    | 1, _ => exact ⟨_, _, ⟨hb, cell_block h rfl, cell_block h rfl, cell_block h rfl, cell_block h rfl, cell_block h rfl, nums0', strs0'⟩⟩
    | 2, _ => exact ⟨_, _, ⟨hb, cell_block h rfl, cell_block h rfl, cell_block h rfl, cell_block h rfl, cell_block h rfl, nums0', strs0'⟩⟩⟩
set_option linter.unusedSimpArgs false in
set_option maxHeartbeats 2000000 in
set_option maxRecDepth 100000 in
theorem alive13_any (w : World) (T : TypeId) (ev : Value) (hg : w.cell? ⟨0, 0, none⟩ = some (.iface T ev)) (hgl : 0 < w.heap.size) :
    Calls Tryd.prog 7 #[] w fun e w' => e = .returned (.bool true) ∧ Below w.heap.size w w' := by
  have H := Lib.hid (And.intro hg hgl)
  clear hg hgl
  go_enter Tryd.func7, Tryd.ntmps7
  go_wp2_with fail
  obtain ⟨V, hV⟩ : ∃ V, (((w.alloc (.cells #[.int .i64 1, .int .i64 2] 3)).alloc (.cells #[.int .i64 2, .string ⟨#[45, 62]⟩, .slice (some ⟨w.heap.size, 0, none⟩) 2 2, .slice none 0 0, .bool false, .int .i64 1, .string ⟨#[]⟩, .slice none 0 0, .slice none 0 0, .bool false, .int .i64 1, .string ⟨#[]⟩, .slice none 0 0, .slice none 0 0, .bool false] 37)).alloc (.cells #[.slice (some ⟨w.heap.size + 1, 0, none⟩) 3 3, .int .i64 0] 24)).alloc (.cells #[.int .i64 2] 3) = V := ⟨_, rfl⟩
  rw [hV]
  have f0 : V.heap[w.heap.size]? = some (.cells #[.int .i64 1, .int .i64 2] 3) := by rw [← hV, heap_old (by simp <;> omega), heap_old (by simp <;> omega), heap_old (by simp <;> omega)]; exact heap_last rfl
  have f1 : V.heap[w.heap.size + 1]? = some (.cells #[.int .i64 2, .string ⟨#[45, 62]⟩, .slice (some ⟨w.heap.size, 0, none⟩) 2 2, .slice none 0 0, .bool false, .int .i64 1, .string ⟨#[]⟩, .slice none 0 0, .slice none 0 0, .bool false, .int .i64 1, .string ⟨#[]⟩, .slice none 0 0, .slice none 0 0, .bool false] 37) := by rw [← hV, heap_old (by simp <;> omega), heap_old (by simp <;> omega)]; exact heap_last (by simp)
  have f2 : V.heap[w.heap.size + 1 + 1]? = some (.cells #[.slice (some ⟨w.heap.size + 1, 0, none⟩) 3 3, .int .i64 0] 24) := by rw [← hV, heap_old (by simp <;> omega)]; exact heap_last (by simp)
  have f3 : V.heap[w.heap.size + 1 + 1 + 1]? = some (.cells #[.int .i64 2] 3) := by rw [← hV]; exact heap_last (by simp)
  have hBV : Below w.heap.size w V := by rw [← hV]; exact ((((Below.refl _ _).alloc (Nat.le_refl _) _).alloc (by simp) _).alloc (by simp <;> omega) _).alloc (by simp <;> omega) _
  have sV : V.heap.size = w.heap.size + 4 := by rw [← hV]; simp
  have gV : ∀ U, Below V.heap.size V U → GrAt U (fun b => b < V.heap.size) (.slice (some ⟨w.heap.size + 1, 0, none⟩) 3 3) alG := fun U hU => (gr_alG f1 f0 (by omega) (by omega)).carry (keeps_of hU fun _ h => h) (fun _ h => h)
  have eV : ∀ U, Below V.heap.size V U → U.cell? ⟨0, 0, none⟩ = some (.iface T ev) ∧ 0 < U.heap.size := fun U hU => by
    have h := hBV.trans (hU.mono hBV.size)
    exact ⟨(h.cell (p := ⟨_, 0, none⟩) H.out.2).trans H.out.1, Nat.lt_of_lt_of_le H.out.2 h.size⟩
  have C1 := Lib.hid (fresh_any (fun b => b < V.heap.size) _ _ 0 alG [2] V T ev (eV V (Below.refl _ _)).1 (eV V (Below.refl _ _)).2 (gV V (Below.refl _ _)) (nums1' f3 (by omega)) (fun _ h => h) sized_alG (by simp [alG]) args_alG edges_alG (by simp))
  have HV := Lib.hid (And.intro hBV (And.intro f2 (And.intro gV (And.intro eV sV))))
  clear f0 f1 f3 hBV gV eV hV f2
  refine C1.out.mono ?_
  rintro e2 W2 hpost
  obtain ⟨xs, ds, rfl, hG2, hB2⟩ : FreshGives (freshG alG 0 [2]) (freshR alG 0 [2]) 0 V e2 W2 := by
    rcases hpost with ⟨_, h⟩ | ⟨h, _⟩
    · exact h
    · exact absurd genC_alG h
  rw [fresh_alG, freshR_alG]
  rw [fresh_alG] at hG2
  have s2 := hB2.size
  obtain ⟨gg, og, hsl, hnd⟩ := hG2
  obtain ⟨cap, hvv, hcap, hcm, hSg⟩ : ∃ cap, Value.slice xs 5 ds = .slice (some ⟨gg, og, none⟩) 5 cap ∧ 5 ≤ cap ∧ cap ≤ maxLen ∧ (V.heap.size ≤ gg ∧ gg < W2.heap.size) := by
    rcases hsl with ⟨_, h0⟩ | ⟨cap, h1, h2, h3, h4⟩
    · simp at h0
    · exact ⟨cap, h1, h2, h3, h4⟩
  cases hvv
  unfold maxLen at hcm
  obtain ⟨va, vl, hn3⟩ := hnd 3 (by simp)
  obtain ⟨ga, oa, hsa, hca⟩ := hn3.ha
  obtain ⟨capa, rfl, hcapa, hcma, hSa⟩ : ∃ cap, va = .slice (some ⟨ga, oa, none⟩) 2 cap ∧ 2 ≤ cap ∧ cap ≤ maxLen ∧ (V.heap.size ≤ ga ∧ ga < W2.heap.size) := by
    rcases hsa with ⟨_, h0⟩ | ⟨cap, h1, h2, h3, h4⟩
    · simp [arrow] at h0
    · exact ⟨cap, h1, h2, h3, h4⟩
  unfold maxLen at hcma
  have n0 := hca 0 (by simp [arrow])
  have n1 := hca 1 (by simp [arrow])
  have n2 := hn3.c2
  simp only [arrow, List.getElem_cons_zero, List.getElem_cons_succ, Nat.add_zero] at n0 n1 n2
  have HB2 := Lib.hid hB2
  have b2 := (hB2.block (w.heap.size + 1 + 1) (by omega)).trans HV.out.2.1
  have a0 := Lib.cell_of_heap b2 0
  have a1 := Lib.cell_of_heap b2 1
  simp only [List.getElem?_toArray, List.getElem?_cons_zero, List.getElem?_cons_succ] at a0 a1
  have hlw : w.heap.size + 1 + 1 < W2.heap.size := by omega
  clear hnd hsl hsa hca hn3 b2 hB2 hpost C1
  go_wp2_with fail
  obtain ⟨W4, hW4⟩ : ∃ W4, (W2.alloc (.cells #[.slice (some ⟨gg, og, none⟩) 5 ds, .int .i64 3] 24)).alloc (.cells #[.int .i64 2] 3) = W4 := ⟨_, rfl⟩
  rw [hW4]
  have B4 : Below W2.heap.size W2 W4 := by rw [← hW4]; exact ((Below.refl _ _).alloc (Nat.le_refl _) _).alloc (by simp) _
  have f1 : W4.heap[W2.heap.size]? = some (.cells #[.slice (some ⟨gg, og, none⟩) 5 ds, .int .i64 3] 24) := by rw [← hW4, heap_old (by simp)]; exact heap_last rfl
  have f2 : W4.heap[W2.heap.size + 1]? = some (.cells #[.int .i64 2] 3) := by rw [← hW4]; exact heap_last (by simp)
  have s4 : W4.heap.size = W2.heap.size + 2 := by rw [← hW4]; simp
  have hBV4 : Below V.heap.size V W4 := HB2.out.trans (B4.mono s2)
  have C2 := Lib.hid (generics_any (fun b => b < W4.heap.size) _ _ 0 alG [2] W4 T ev (HV.out.2.2.2.1 W4 hBV4).1 (HV.out.2.2.2.1 W4 hBV4).2 ((HV.out.2.2.1 W4 hBV4).carry (fun _ _ => rfl) (fun b hb => by have := hBV4.size; omega)) (nums1' f2 (by omega)) (fun _ h => h) sized_alG (by simp [alG]) args_alG (by simp))
  have H4 := Lib.hid (And.intro B4 (And.intro f1 (And.intro s4 hBV4)))
  clear hW4 B4 f1 f2 hBV4
  refine C2.out.mono ?_
  rintro e5 W5 ⟨x5, d5, rfl, ho5, hB5⟩
  have hgen : genG alG 0 [2] = [1] := by unfold genG; rw [if_pos genC_alG, genF_alG]
  rw [hgen, genC_alG]
  rw [hgen] at ho5
  have s5 := hB5.size
  obtain ⟨g5, c5, hv5, u1, u2, u3, u4⟩ := own_has ho5 (by simp)
  cases hv5
  unfold maxLen at u2
  have q0 : W5.cell? ⟨g5, 0, none⟩ = some (.int .i64 1) := (ho5.cellAt 0 (by simp)).trans rfl
  have k5 : ∀ b, b < W2.heap.size → W5.heap[b]? = W2.heap[b]? := fun b hb => (hB5.block b (by omega)).trans (H4.out.1.block b hb)
  have b2 := (hB5.block W2.heap.size (by omega)).trans H4.out.2.1
  have p0 := Lib.cell_of_heap b2 0
  have p1 := Lib.cell_of_heap b2 1
  simp only [List.getElem?_toArray, List.getElem?_cons_zero, List.getElem?_cons_succ] at p0 p1
  have m0 := (World.cell?_of_block (a := ⟨ga, oa, none⟩) (k5 ga hSa.2)).trans n0
  have m1 := (World.cell?_of_block (a := ⟨ga, oa + 1, none⟩) (k5 ga hSa.2)).trans n1
  have m2 := (World.cell?_of_block (a := ⟨gg, og + 3 * 5 + 2, none⟩) (k5 gg hSg.2)).trans n2
  have m2a : W5.cell? ⟨gg, og + 15 + 2, none⟩ = some (.slice (some ⟨ga, oa, none⟩) 2 capa) := m2
  have m2b : W5.cell? ⟨gg, og + 17, none⟩ = some (.slice (some ⟨ga, oa, none⟩) 2 capa) := m2
  have l1 : W2.heap.size < W5.heap.size := by omega
  have l2 : gg < W5.heap.size := by omega
  have l3 : ga < W5.heap.size := by omega
  have HB5 := Lib.hid (HV.out.1.trans ((H4.out.2.2.2.trans (hB5.mono (by have := H4.out.2.2.2.size; omega))).mono HV.out.1.size))
  clear a0 a1 n0 n1 n2 m2 ho5 hB5 k5 b2 C2 hgen
  simp only [List.length_cons, List.length_nil, Nat.zero_add]
  go_wp2_with fail
  go_ret
  exact ⟨rfl, HB5.out⟩
end Go.Proofs.YtkbmkmpoapafaaaDoor
