/- trefoillaw06.alive. -/
import Derived.Test.YtelmigkbofnicaaDoorGa
import Derived.Test.YtelmigkbofnicaaDoorGs
import Derived.Test.YtelmigkbofnicaaDoorRg
namespace Go.Proofs.YtelmigkbofnicaaDoor
open Go.ChangeShapes Go.WideShapes Go.ChangeAt Go.RowKit

theorem nums2 {V : World} {S : Nat → Prop} {b : Nat} {a c : Int} {T : TypeId} (h : V.heap[b]? = some (.cells #[.int .i64 a, .int .i64 c] T)) (hb : S b) : Nums V S (.slice (some ⟨b, 0, none⟩) 2 2) [a, c] :=
  ⟨b, 0, .inr ⟨2, rfl, Nat.le_refl _, by unfold maxLen; omega, hb⟩, fun i hi => by
    match i, hi with
    | 0, _ => exact cell_block h rfl
    | 1, _ => exact cell_block h rfl⟩
theorem nums0 {V : World} {S : Nat → Prop} : Nums V S (.slice none 0 0) [] := ⟨0, 0, .inl ⟨.inl rfl, rfl⟩, fun i hi => absurd hi (by simp)⟩
theorem strs0 {V : World} {S : Nat → Prop} : Strs V S (.slice none 0 0) [] := ⟨0, 0, .inl ⟨.inl rfl, rfl⟩, fun i hi => absurd hi (by simp)⟩
theorem gr_aliveG {V : World} {S : Nat → Prop} {b p : Nat} {T U : TypeId} (h : V.heap[b]? = some (.cells #[.int .i64 2, .string ⟨#[45, 62]⟩, .slice (some ⟨p, 0, none⟩) 2 2, .slice none 0 0, .bool false, .int .i64 1, .string ⟨#[]⟩, .slice none 0 0, .slice none 0 0, .bool false] T))
    (hp : V.heap[p]? = some (.cells #[.int .i64 1, .int .i64 0] U)) (hb : S b) (hpS : S p) : GrAt V S (.slice (some ⟨b, 0, none⟩) 2 2) aliveG :=
  ⟨b, 0, .inr ⟨2, rfl, Nat.le_refl _, by unfold maxLen; omega, hb⟩, fun i hi => by
    match i, hi with
    | 0, _ => exact ⟨_, _, ⟨hb, cell_block h rfl, cell_block h rfl, cell_block h rfl, cell_block h rfl, cell_block h rfl, nums2 hp hpS, strs0⟩⟩
    | 1, _ => exact ⟨_, _, ⟨hb, cell_block h rfl, cell_block h rfl, cell_block h rfl, cell_block h rfl, cell_block h rfl, nums0, strs0⟩⟩⟩
theorem gr_aliveH {V : World} {S : Nat → Prop} {b p q : Nat} {T U X : TypeId} (h : V.heap[b]? = some (.cells #[.int .i64 2, .string ⟨#[45, 62]⟩, .slice (some ⟨p, 0, none⟩) 2 2, .slice none 0 0, .bool false, .int .i64 1, .string ⟨#[]⟩, .slice none 0 0, .slice none 0 0, .bool false, .int .i64 2, .string ⟨#[45, 62]⟩, .slice (some ⟨q, 0, none⟩) 2 2, .slice none 0 0, .bool false] T))
    (hp : V.heap[p]? = some (.cells #[.int .i64 1, .int .i64 2] U)) (hq : V.heap[q]? = some (.cells #[.int .i64 1, .int .i64 0] X)) (hb : S b) (hpS : S p) (hqS : S q) : GrAt V S (.slice (some ⟨b, 0, none⟩) 3 3) aliveH :=
  ⟨b, 0, .inr ⟨3, rfl, Nat.le_refl _, by unfold maxLen; omega, hb⟩, fun i hi => by
    match i, hi with
    | 0, _ => exact ⟨_, _, ⟨hb, cell_block h rfl, cell_block h rfl, cell_block h rfl, cell_block h rfl, cell_block h rfl, nums2 hp hpS, strs0⟩⟩
    | 1, _ => exact ⟨_, _, ⟨hb, cell_block h rfl, cell_block h rfl, cell_block h rfl, cell_block h rfl, cell_block h rfl, nums0, strs0⟩⟩
    | 2, _ => exact ⟨_, _, ⟨hb, cell_block h rfl, cell_block h rfl, cell_block h rfl, cell_block h rfl, cell_block h rfl, nums2 hq hqS, strs0⟩⟩⟩
theorem gr_none {V : World} {S : Nat → Prop} : GrAt V S (.slice none 0 0) [] := ⟨0, 0, .inl ⟨.inl rfl, rfl⟩, fun i hi => absurd hi (by simp)⟩
theorem sized_aliveG : Sized aliveG := fun x hx => by
  simp only [aliveG, List.mem_cons, List.not_mem_nil, or_false] at hx
  rcases hx with rfl | rfl <;> exact fun s hs => by cases hs
theorem sized_aliveH : Sized aliveH := fun x hx => by
  simp only [aliveH, List.mem_cons, List.not_mem_nil, or_false] at hx
  rcases hx with rfl | rfl | rfl <;> exact fun s hs => by cases hs
theorem args_aliveG : ∀ x ∈ aliveG, x.args.length ≤ 2000 := fun x hx => by
  simp only [aliveG, List.mem_cons, List.not_mem_nil, or_false] at hx
  rcases hx with rfl | rfl <;> simp [arrow, varG]
theorem args_aliveH : ∀ x ∈ aliveH, x.args.length ≤ 2000 := fun x hx => by
  simp only [aliveH, List.mem_cons, List.not_mem_nil, or_false] at hx
  rcases hx with rfl | rfl | rfl <;> simp [arrow, varG]
theorem reachG_aliveH : (reachG aliveH 0).length = 3 := by
  unfold reachG
  rw [if_pos check_aliveH]
  exact reach_aliveH

set_option maxHeartbeats 1000000 in
set_option maxRecDepth 100000 in
theorem alive_any (w : World) (T : TypeId) (ev : Value) (hg : w.cell? ⟨0, 0, none⟩ = some (.iface T ev)) (hgl : 0 < w.heap.size) :
    Calls Tryd.prog 9 #[] w fun e w' => e = .returned (.bool true) ∧ Below w.heap.size w w' := by
  have H := Lib.hid (And.intro hg hgl)
  clear hg hgl
  go_enter Tryd.func9, Tryd.ntmps9
  go_wp2_with fail
  obtain ⟨V, hV⟩ : ∃ V, (((((((w.alloc (.cells #[.int .i64 1, .string ⟨#[]⟩, .slice none 0 0, .slice none 0 0, .bool false] 36)).alloc (.cells #[.int .i64 1, .int .i64 0] 3)).alloc (.cells #[.int .i64 2, .string ⟨#[45, 62]⟩, .slice (some ⟨w.heap.size + 1, 0, none⟩) 2 2, .slice none 0 0, .bool false, .int .i64 1, .string ⟨#[]⟩, .slice none 0 0, .slice none 0 0, .bool false] 36)).alloc (.cells #[.slice (some ⟨w.heap.size + 1 + 1, 0, none⟩) 2 2, .int .i64 0] 24)).alloc (.cells #[.int .i64 1, .int .i64 2] 3)).alloc (.cells #[.int .i64 1, .int .i64 0] 3)).alloc (.cells #[.int .i64 2, .string ⟨#[45, 62]⟩, .slice (some ⟨w.heap.size + 1 + 1 + 1 + 1, 0, none⟩) 2 2, .slice none 0 0, .bool false, .int .i64 1, .string ⟨#[]⟩, .slice none 0 0, .slice none 0 0, .bool false, .int .i64 2, .string ⟨#[45, 62]⟩, .slice (some ⟨w.heap.size + 1 + 1 + 1 + 1 + 1, 0, none⟩) 2 2, .slice none 0 0, .bool false] 36)).alloc (.cells #[.slice (some ⟨w.heap.size + 1 + 1 + 1 + 1 + 1 + 1, 0, none⟩) 3 3, .int .i64 0] 24) = V := ⟨_, rfl⟩
  rw [hV]
  have f1 : V.heap[w.heap.size + 1]? = some (.cells #[.int .i64 1, .int .i64 0] 3) := by rw [← hV]; rw [heap_old (by simp <;> omega)]; rw [heap_old (by simp <;> omega)]; rw [heap_old (by simp <;> omega)]; rw [heap_old (by simp <;> omega)]; rw [heap_old (by simp <;> omega)]; rw [heap_old (by simp <;> omega)]; exact heap_last (by simp)
  have f2 : V.heap[w.heap.size + 1 + 1]? = some (.cells #[.int .i64 2, .string ⟨#[45, 62]⟩, .slice (some ⟨w.heap.size + 1, 0, none⟩) 2 2, .slice none 0 0, .bool false, .int .i64 1, .string ⟨#[]⟩, .slice none 0 0, .slice none 0 0, .bool false] 36) := by rw [← hV]; rw [heap_old (by simp <;> omega)]; rw [heap_old (by simp <;> omega)]; rw [heap_old (by simp <;> omega)]; rw [heap_old (by simp <;> omega)]; rw [heap_old (by simp <;> omega)]; exact heap_last (by simp)
  have f3 : V.heap[w.heap.size + 1 + 1 + 1]? = some (.cells #[.slice (some ⟨w.heap.size + 1 + 1, 0, none⟩) 2 2, .int .i64 0] 24) := by rw [← hV]; rw [heap_old (by simp <;> omega)]; rw [heap_old (by simp <;> omega)]; rw [heap_old (by simp <;> omega)]; rw [heap_old (by simp <;> omega)]; exact heap_last (by simp)
  have f4 : V.heap[w.heap.size + 1 + 1 + 1 + 1]? = some (.cells #[.int .i64 1, .int .i64 2] 3) := by rw [← hV]; rw [heap_old (by simp <;> omega)]; rw [heap_old (by simp <;> omega)]; rw [heap_old (by simp <;> omega)]; exact heap_last (by simp)
  have f5 : V.heap[w.heap.size + 1 + 1 + 1 + 1 + 1]? = some (.cells #[.int .i64 1, .int .i64 0] 3) := by rw [← hV]; rw [heap_old (by simp <;> omega)]; rw [heap_old (by simp <;> omega)]; exact heap_last (by simp)
  have f6 : V.heap[w.heap.size + 1 + 1 + 1 + 1 + 1 + 1]? = some (.cells #[.int .i64 2, .string ⟨#[45, 62]⟩, .slice (some ⟨w.heap.size + 1 + 1 + 1 + 1, 0, none⟩) 2 2, .slice none 0 0, .bool false, .int .i64 1, .string ⟨#[]⟩, .slice none 0 0, .slice none 0 0, .bool false, .int .i64 2, .string ⟨#[45, 62]⟩, .slice (some ⟨w.heap.size + 1 + 1 + 1 + 1 + 1, 0, none⟩) 2 2, .slice none 0 0, .bool false] 36) := by rw [← hV]; rw [heap_old (by simp <;> omega)]; exact heap_last (by simp)
  have f7 : V.heap[w.heap.size + 1 + 1 + 1 + 1 + 1 + 1 + 1]? = some (.cells #[.slice (some ⟨w.heap.size + 1 + 1 + 1 + 1 + 1 + 1, 0, none⟩) 3 3, .int .i64 0] 24) := by rw [← hV];  exact heap_last (by simp)
  have hB : Below w.heap.size w V := by rw [← hV]; exact ((((((((Below.refl _ _).alloc (by simp <;> omega) _).alloc (by simp <;> omega) _).alloc (by simp <;> omega) _).alloc (by simp <;> omega) _).alloc (by simp <;> omega) _).alloc (by simp <;> omega) _).alloc (by simp <;> omega) _).alloc (by simp <;> omega) _
  have hsz : V.heap.size = w.heap.size + 8 := by rw [← hV]; simp
  clear hV
  have X : Hid (∀ U, Below V.heap.size V U → GrAt U (fun k => k < V.heap.size) (.slice (some ⟨w.heap.size + 1 + 1, 0, none⟩) 2 2) aliveG ∧ GrAt U (fun k => k < V.heap.size) (.slice (some ⟨w.heap.size + 1 + 1 + 1 + 1 + 1 + 1, 0, none⟩) 3 3) aliveH ∧ U.cell? ⟨0, 0, none⟩ = some (.iface T ev) ∧ 0 < U.heap.size ∧ (∀ k, k < V.heap.size → k < U.heap.size) ∧ U.heap[w.heap.size + 1 + 1 + 1]? = some (.cells #[.slice (some ⟨w.heap.size + 1 + 1, 0, none⟩) 2 2, .int .i64 0] 24) ∧ U.heap[w.heap.size + 1 + 1 + 1 + 1 + 1 + 1 + 1]? = some (.cells #[.slice (some ⟨w.heap.size + 1 + 1 + 1 + 1 + 1 + 1, 0, none⟩) 3 3, .int .i64 0] 24) ∧ Below w.heap.size w U) := Lib.hid fun U hU => by
    have hs := hU.size
    have hBU : Below w.heap.size w U := hB.trans (hU.mono (by omega))
    exact ⟨gr_aliveG ((hU.block _ (by omega)).trans f2) ((hU.block _ (by omega)).trans f1) (by omega) (by omega), gr_aliveH ((hU.block _ (by omega)).trans f6) ((hU.block _ (by omega)).trans f4) ((hU.block _ (by omega)).trans f5) (by omega) (by omega) (by omega), (hBU.cell (p := ⟨_, 0, none⟩) H.out.2).trans H.out.1, by have := H.out.2; omega, fun k hk => by omega, (hU.block _ (by omega)).trans f3, (hU.block _ (by omega)).trans f7, hBU⟩
  clear f1 f2 f3 f4 f5 f6 f7 hB
  have x1 := X.out V (Below.refl _ _)
  have C1 := Lib.hid (reach_any (fun k => k < V.heap.size) _ 0 aliveH V T ev x1.2.2.1 x1.2.2.2.1 x1.2.1 x1.2.2.2.2.1 sized_aliveH (by simp [aliveH]) args_aliveH)
  rw [reachG_aliveH] at C1
  clear x1
  refine C1.out.mono ?_
  rintro e1 W1 ⟨v1, rfl, ho1, hB1⟩
  obtain ⟨y1, d1, rfl⟩ := own_shape ho1
  clear ho1
  have x1 := X.out W1 hB1
  have a3 := Lib.cell_of_heap x1.2.2.2.2.2.1 0
  have a3' := Lib.cell_of_heap x1.2.2.2.2.2.1 1
  have a7 := Lib.cell_of_heap x1.2.2.2.2.2.2.1 0
  have a7' := Lib.cell_of_heap x1.2.2.2.2.2.2.1 1
  simp only [List.getElem?_toArray, List.getElem?_cons_zero, List.getElem?_cons_succ] at a3 a3' a7 a7'
  have C2 := Lib.hid (gsame_any (fun k => k < V.heap.size) _ _ 0 0 aliveG aliveH W1 T ev x1.2.2.1 x1.2.2.2.1 x1.1 x1.2.1 x1.2.2.2.2.1 sized_aliveG sized_aliveH (by simp [aliveG]) (by simp [aliveH]) args_aliveG)
  rw [same_alive] at C2
  have HB1 := Lib.hid hB1
  have hs1 := hB1.size
  clear x1 hB1 C1
  go_wp2_with fail
  refine C2.out.mono ?_
  rintro e2 W2 ⟨rfl, hB2⟩
  have hs2 := hB2.size
  have HB2 := Lib.hid (HB1.out.trans (hB2.mono hs1))
  clear hB2 C2 a3 a3' a7 a7'
  go_wp2_with fail
  have x2 := X.out W2 HB2.out
  have C3 := Lib.hid (check_any (fun k => k < V.heap.size) _ 0 [] W2 T ev x2.2.2.1 x2.2.2.2.1 gr_none x2.2.2.2.2.1 (fun x hx => by cases hx))
  rw [check_none] at C3
  clear x2
  refine C3.out.mono ?_
  rintro e3 W3 ⟨rfl, hB3⟩
  have HB3 := Lib.hid (HB2.out.trans (hB3.mono (by omega)))
  have hs3 := hB3.size
  clear hB3 C3
  have x3 := X.out W3 HB3.out
  have a3 := Lib.cell_of_heap x3.2.2.2.2.2.1 0
  have a3' := Lib.cell_of_heap x3.2.2.2.2.2.1 1
  simp only [List.getElem?_toArray, List.getElem?_cons_zero, List.getElem?_cons_succ] at a3 a3'
  have C4 := Lib.hid (check_any (fun k => k < V.heap.size) _ 0 aliveG W3 T ev x3.2.2.1 x3.2.2.2.1 x3.1 x3.2.2.2.2.1 sized_aliveG)
  rw [check_aliveG] at C4
  clear x3
  go_wp2_with fail
  refine C4.out.mono ?_
  rintro e4 W4 ⟨rfl, hB4⟩
  have HB4 := Lib.hid (HB3.out.trans (hB4.mono (by omega)))
  clear hB4 C4
  go_wp2_with fail
  go_ret
  exact ⟨rfl, (X.out _ HB4.out).2.2.2.2.2.2.2⟩
end Go.Proofs.YtelmigkbofnicaaDoor
