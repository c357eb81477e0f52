/- trefoillaw02.alive. -/
import Derived.Test.YtoopndgdaiblpaaDoorSame3
import Derived.Test.YtoopndgdaiblpaaDoorDeep
import Derived.Test.YtoopndgdaiblpaaDoorVal
namespace Go.Proofs.YtoopndgdaiblpaaDoor
open Go.ChangeShapes Go.WideShapes Go.ChangeAt Go.RowKit

def varN (c : UInt8) : Nd := .ex 1 ⟨#[c]⟩ 0 [] [] [] []
def aliveT : Nd := .ex 7 ⟨#[]⟩ 0 [] [] [.ex 7 ⟨#[]⟩ 0 [] [] [varN 102, varN 120] [], varN 121] []

theorem name_f : nameB ⟨#[102]⟩ = true := by
  have e : (⟨#[102]⟩ : ByteArray).toList = [102] := by rw [Lib.toList_data]
  unfold nameB isWordB keyB
  rw [e]
  decide
theorem name_x : nameB ⟨#[120]⟩ = true := by
  have e : (⟨#[120]⟩ : ByteArray).toList = [120] := by rw [Lib.toList_data]
  unfold nameB isWordB keyB
  rw [e]
  decide
theorem name_y : nameB ⟨#[121]⟩ = true := by
  have e : (⟨#[121]⟩ : ByteArray).toList = [121] := by rw [Lib.toList_data]
  unfold nameB isWordB keyB
  rw [e]
  decide
theorem alive_ok : OkT aliveT := .app _ _ (.app _ _ (.var _ name_f (by decide)) (.var _ name_x (by decide))) (.var _ name_y (by decide))
theorem alive_size : ndSize aliveT = 5 := by simp [aliveT, varN, ndSize_ex, ndSum]
theorem alive_deep : ndDeep aliveT = 3 := by simp [aliveT, varN, ndDeep, trav]
theorem alive_value : valueB aliveT = false := by simp [aliveT, valueB]
theorem alive_parts : ∀ p ∈ trav 1 aliveT, okPart p.1 ∧ isEx p.1 = true ∧ p.2 ≤ 200 := by
  intro p hp
  simp only [aliveT, varN, trav, List.map_cons, List.map_nil, List.reverse_cons, List.reverse_nil, List.nil_append, List.flatten_cons, List.flatten_nil, List.append_nil, List.cons_append, List.mem_cons, List.not_mem_nil, or_false] at hp
  rcases hp with rfl | rfl | rfl | rfl | rfl
  · exact ⟨.inr ⟨_, _, rfl⟩, rfl, by decide⟩
  · exact ⟨.inl ⟨_, rfl, name_y, by decide⟩, rfl, by decide⟩
  · exact ⟨.inr ⟨_, _, rfl⟩, rfl, by decide⟩
  · exact ⟨.inl ⟨_, rfl, name_x, by decide⟩, rfl, by decide⟩
  · exact ⟨.inl ⟨_, rfl, name_f, by decide⟩, rfl, by decide⟩

def varV (c : UInt8) : List Value := [.int .i64 1, .string ⟨#[c]⟩, .int .i64 0, .slice none 0 0, .slice none 0 0, .slice none 0 0, .slice none 0 0]
def appV (r : Nat) : List Value := [.int .i64 7, .string ⟨#[]⟩, .int .i64 0, .slice (some ⟨r, 0, none⟩) 2 2, .slice none 0 0, .slice none 0 0, .slice none 0 0]

/-- A variable's cells. -/
theorem var_at {W : World} {S : Nat → Prop} {b o : Nat} {c : UInt8} {cs : List Value} (hb : S b) (hh : W.heap[b]? = some (.cells cs.toArray 33)) (hc : ∀ j u, (varV c)[j]? = some u → cs[o + j]? = some u) : NdAt W S b o (varN c) := by
  have k : ∀ j u, (varV c)[j]? = some u → W.cell? ⟨b, o + j, none⟩ = some u := fun j u hj => by rw [Lib.cell_of_heap hh (o + j)]; simpa using hc j u hj
  exact .ex (ga := 0) (oa := 0) (gn := 0) (on := 0) (gt := 0) (ot := 0) (gm := 0) (om := 0) hb (k 0 _ rfl) (k 1 _ rfl) (k 2 _ rfl) (k 3 _ rfl) (k 4 _ rfl) (k 5 _ rfl) (k 6 _ rfl) (.inl ⟨rfl, rfl⟩) (.inl ⟨rfl, rfl⟩) (.inl ⟨rfl, rfl⟩) (.inl ⟨rfl, rfl⟩) (fun _ h => absurd h (Nat.not_lt_zero _)) (fun _ h => absurd h (Nat.not_lt_zero _)) (fun _ h => absurd h (Nat.not_lt_zero _)) (fun _ h => absurd h (Nat.not_lt_zero _)) (fun _ h => (by cases h)) (fun _ h => (by cases h))
/-- An application's cells. -/
theorem app_at {W : World} {S : Nat → Prop} {b o r : Nat} {x y : Nd} {cs : List Value} (hb : S b) (hh : W.heap[b]? = some (.cells cs.toArray 33)) (hc : ∀ j u, (appV r)[j]? = some u → cs[o + j]? = some u) (hr : S r) (hx : NdAt W S r 0 x) (hy : NdAt W S r 7 y) (ex : isEx x = true) (ey : isEx y = true) :
    NdAt W S b o (.ex 7 ⟨#[]⟩ 0 [] [] [x, y] []) := by
  have k : ∀ j u, (appV r)[j]? = some u → W.cell? ⟨b, o + j, none⟩ = some u := fun j u hj => by rw [Lib.cell_of_heap hh (o + j)]; simpa using hc j u hj
  refine .ex (ga := r) (oa := 0) (gn := 0) (on := 0) (gt := 0) (ot := 0) (gm := 0) (om := 0) hb (k 0 _ rfl) (k 1 _ rfl) (k 2 _ rfl) (k 3 _ rfl) (k 4 _ rfl) (k 5 _ rfl) (k 6 _ rfl) (.inr ⟨2, rfl, by simp, by decide, hr⟩) (.inl ⟨rfl, rfl⟩) (.inl ⟨rfl, rfl⟩) (.inl ⟨rfl, rfl⟩) (fun i hi => ?_) (fun _ h => absurd h (Nat.not_lt_zero _)) (fun _ h => absurd h (Nat.not_lt_zero _)) (fun _ h => absurd h (Nat.not_lt_zero _)) (fun z hz => ?_) (fun _ h => (by cases h))
  · match i, hi with
    | 0, _ => exact hx
    | 1, _ => exact hy
  · simp only [List.mem_cons, List.not_mem_nil, or_false] at hz
    rcases hz with rfl | rfl <;> assumption

/-- The document's tree, by its rows. -/
theorem alive_at {W : World} {S : Nat → Prop} {b r1 r2 : Nat} (h1 : W.heap[r1]? = some (.cells (varV 102 ++ varV 120).toArray 33)) (h2 : W.heap[r2]? = some (.cells (appV r1 ++ varV 121).toArray 33)) (h3 : W.heap[b]? = some (.cells (appV r2).toArray 33)) (hb : S b) (s1 : S r1) (s2 : S r2) : NdAt W S b 0 aliveT := by
  have key : ∀ (a b : List Value) (n : Nat), a.length = n → ∀ j u, b[j]? = some u → (a ++ b)[n + j]? = some u := fun a b n hl j u hj => by rw [List.getElem?_append_right (by omega), hl, Nat.add_sub_cancel_left]; exact hj
  have key0 : ∀ (a b : List Value) j u, a[j]? = some u → (a ++ b)[0 + j]? = some u := fun a b j u hj => by
    rw [Nat.zero_add, List.getElem?_append_left (List.getElem?_eq_some_iff.1 hj).1]; exact hj
  refine app_at hb h3 (fun j u hj => by simpa using hj) s2 (app_at s2 h2 (key0 _ _) s1 (var_at s1 h1 (key0 _ _)) (var_at s1 h1 (key _ _ 7 rfl)) rfl rfl) (var_at s2 h2 (key _ _ 7 rfl)) rfl rfl

set_option maxHeartbeats 2000000 in
set_option maxRecDepth 100000 in
theorem alive_any (T : TypeId) (v : Value) (w : World) (hg : w.cell? ⟨0, 0, none⟩ = some (.iface T v)) (hgl : 0 < w.heap.size) :
    Calls Tryd.prog 8 #[] w fun e w' => e = .returned (.bool true) ∧ Below w.heap.size w w' := by
  have HG := Lib.hid hg
  clear hg
  go_enter Tryd.func8, Tryd.ntmps8
  go_upto_region 3 with fail
  obtain ⟨W0, hW0⟩ : ∃ W0, ((((((w.alloc (.cells #[.int .i64 1, .string ⟨#[102]⟩, .int .i64 0, .slice none 0 0, .slice none 0 0, .slice none 0 0, .slice none 0 0] 33)).alloc (.cells #[.int .i64 1, .string ⟨#[120]⟩, .int .i64 0, .slice none 0 0, .slice none 0 0, .slice none 0 0, .slice none 0 0] 33)).alloc (.cells #[.int .i64 1, .string ⟨#[121]⟩, .int .i64 0, .slice none 0 0, .slice none 0 0, .slice none 0 0, .slice none 0 0] 33)).alloc (.cells #[.int .i64 1, .string ⟨#[102]⟩, .int .i64 0, .slice none 0 0, .slice none 0 0, .slice none 0 0, .slice none 0 0, .int .i64 1, .string ⟨#[120]⟩, .int .i64 0, .slice none 0 0, .slice none 0 0, .slice none 0 0, .slice none 0 0] 33)).alloc (.cells #[.int .i64 7, .string ⟨#[]⟩, .int .i64 0, .slice (some ⟨w.heap.size + 1 + 1 + 1, 0, none⟩) 2 2, .slice none 0 0, .slice none 0 0, .slice none 0 0, .int .i64 1, .string ⟨#[121]⟩, .int .i64 0, .slice none 0 0, .slice none 0 0, .slice none 0 0, .slice none 0 0] 33)).alloc (.cells #[.int .i64 7, .string ⟨#[]⟩, .int .i64 0, .slice (some ⟨w.heap.size + 1 + 1 + 1 + 1, 0, none⟩) 2 2, .slice none 0 0, .slice none 0 0, .slice none 0 0] 33)) = W0 := ⟨_, rfl⟩
  rw [hW0]
  have hs0 : W0.heap.size = w.heap.size + 6 := by rw [← hW0]; simp
  have hB0 : Below w.heap.size w W0 := by
    rw [← hW0]
    exact ((((((Below.refl _ w).alloc (Nat.le_refl _) _).alloc (by simp) _).alloc (by simp; omega) _).alloc (by simp; omega) _).alloc (by simp; omega) _).alloc (by simp; omega) _
  have hx : W0.heap[w.heap.size + 1]? = some (.cells #[.int .i64 1, .string ⟨#[120]⟩, .int .i64 0, .slice none 0 0, .slice none 0 0, .slice none 0 0, .slice none 0 0] 33) := by rw [← hW0, heap_old (by simp <;> omega), heap_old (by simp <;> omega), heap_old (by simp <;> omega), heap_old (by simp), heap_last (by simp)]
  have h1 : W0.heap[w.heap.size + 1 + 1 + 1]? = some (.cells #[.int .i64 1, .string ⟨#[102]⟩, .int .i64 0, .slice none 0 0, .slice none 0 0, .slice none 0 0, .slice none 0 0, .int .i64 1, .string ⟨#[120]⟩, .int .i64 0, .slice none 0 0, .slice none 0 0, .slice none 0 0, .slice none 0 0] 33) := by rw [← hW0, heap_old (by simp <;> omega), heap_old (by simp), heap_last (by simp)]
  have h2 : W0.heap[w.heap.size + 1 + 1 + 1 + 1]? = some (.cells #[.int .i64 7, .string ⟨#[]⟩, .int .i64 0, .slice (some ⟨w.heap.size + 1 + 1 + 1, 0, none⟩) 2 2, .slice none 0 0, .slice none 0 0, .slice none 0 0, .int .i64 1, .string ⟨#[121]⟩, .int .i64 0, .slice none 0 0, .slice none 0 0, .slice none 0 0, .slice none 0 0] 33) := by rw [← hW0, heap_old (by simp), heap_last (by simp)]
  have h3 : W0.heap[w.heap.size + 1 + 1 + 1 + 1 + 1]? = some (.cells #[.int .i64 7, .string ⟨#[]⟩, .int .i64 0, .slice (some ⟨w.heap.size + 1 + 1 + 1 + 1, 0, none⟩) 2 2, .slice none 0 0, .slice none 0 0, .slice none 0 0] 33) := by rw [← hW0, heap_last (by simp)]
  clear hW0
  have F1 := Lib.hid h1
  have F2 := Lib.hid h2
  clear h1 h2
  have CS : Hid (∀ W, Below (w.heap.size + 6) W0 W → Calls Tryd.prog 20 #[.agg #[.int .i64 7, .string ⟨#[]⟩, .int .i64 0, .slice (some ⟨w.heap.size + 1 + 1 + 1 + 1, 0, none⟩) 2 2, .slice none 0 0, .slice none 0 0, .slice none 0 0]] W fun e w' => e = .returned (.int .i64 5) ∧ Below (w.heap.size + 6) W0 w') := Lib.hid fun W hW => by
    have hs := hW.size
    have k1 := (hW.block (w.heap.size + 1 + 1 + 1) (by omega)).trans F1.out
    have k2 := (hW.block (w.heap.size + 1 + 1 + 1 + 1) (by omega)).trans F2.out
    refine (size_any 7 ⟨#[]⟩ 0 _ _ _ _ W aliveT (by rw [alive_size]; decide) (alive_at (b := W.heap.size) ((heap_old (by omega)).trans k1) ((heap_old (by omega)).trans k2) (heap_last rfl) (by omega) (by omega) (by omega)) rfl).mono ?_
    rintro e w' ⟨rfl, hB⟩
    exact ⟨by rw [alive_size]; rfl, hW.trans (hB.mono (by omega))⟩
  have CD : Hid (∀ W, Below (w.heap.size + 6) W0 W → Calls Tryd.prog 19 #[.agg #[.int .i64 7, .string ⟨#[]⟩, .int .i64 0, .slice (some ⟨w.heap.size + 1 + 1 + 1 + 1, 0, none⟩) 2 2, .slice none 0 0, .slice none 0 0, .slice none 0 0]] W fun e w' => e = .returned (.int .i64 3) ∧ Below (w.heap.size + 6) W0 w') := Lib.hid fun W hW => by
    have hs := hW.size
    have k1 := (hW.block (w.heap.size + 1 + 1 + 1) (by omega)).trans F1.out
    have k2 := (hW.block (w.heap.size + 1 + 1 + 1 + 1) (by omega)).trans F2.out
    refine (deep_any 7 ⟨#[]⟩ 0 _ _ _ _ W aliveT (by rw [alive_size]; decide) (alive_at (b := W.heap.size) ((heap_old (by omega)).trans k1) ((heap_old (by omega)).trans k2) (heap_last rfl) (by omega) (by omega) (by omega)) rfl).mono ?_
    rintro e w' ⟨rfl, hB⟩
    exact ⟨by rw [alive_deep]; rfl, hW.trans (hB.mono (by omega))⟩
  have CC : Hid (∀ W, Below (w.heap.size + 6) W0 W → Calls Tryd.prog 18 #[.agg #[.int .i64 7, .string ⟨#[]⟩, .int .i64 0, .slice (some ⟨w.heap.size + 1 + 1 + 1 + 1, 0, none⟩) 2 2, .slice none 0 0, .slice none 0 0, .slice none 0 0]] W fun e w' => e = .returned (.int .i64 0) ∧ Below (w.heap.size + 6) W0 w') := Lib.hid fun W hW => by
    have hs := hW.size
    have k1 := (hW.block (w.heap.size + 1 + 1 + 1) (by omega)).trans F1.out
    have k2 := (hW.block (w.heap.size + 1 + 1 + 1 + 1) (by omega)).trans F2.out
    refine (check_ok 7 ⟨#[]⟩ 0 _ _ _ _ W aliveT T v ?_ (by omega) (by rw [alive_size]; decide) (alive_at (b := W.heap.size) ((heap_old (by omega)).trans k1) ((heap_old (by omega)).trans k2) (heap_last rfl) (by omega) (by omega) (by omega)) rfl alive_parts).mono ?_
    · exact (hW.cell (p := ⟨0, 0, none⟩) (by simp only; omega)).trans ((hB0.cell (p := ⟨0, 0, none⟩) hgl).trans HG.out)
    rintro e w' ⟨rfl, hB⟩
    exact ⟨rfl, hW.trans (hB.mono (by omega))⟩
  have CX : Hid (∀ W, Below (w.heap.size + 6) W0 W → Calls Tryd.prog 21 #[.agg #[.int .i64 1, .string ⟨#[120]⟩, .int .i64 0, .slice none 0 0, .slice none 0 0, .slice none 0 0, .slice none 0 0]] W fun e w' => e = .returned (.bool true) ∧ Below (w.heap.size + 6) W0 w') := Lib.hid fun W hW => by
    have hs := hW.size
    refine (val_any 1 ⟨#[120]⟩ 0 _ _ _ _ W (varN 120) (by simp [varN, ndSize_ex, ndSum]) (var_at (by omega) (heap_last rfl) (fun j u hj => by rw [Nat.zero_add]; exact hj)) rfl).mono ?_
    rintro e w' ⟨rfl, hB⟩
    exact ⟨by simp [varN, valueB], hW.trans (hB.mono (by omega))⟩
  have CV : Hid (∀ W, Below (w.heap.size + 6) W0 W → Calls Tryd.prog 21 #[.agg #[.int .i64 7, .string ⟨#[]⟩, .int .i64 0, .slice (some ⟨w.heap.size + 1 + 1 + 1 + 1, 0, none⟩) 2 2, .slice none 0 0, .slice none 0 0, .slice none 0 0]] W fun e w' => e = .returned (.bool false) ∧ Below (w.heap.size + 6) W0 w') := Lib.hid fun W hW => by
    have hs := hW.size
    have k1 := (hW.block (w.heap.size + 1 + 1 + 1) (by omega)).trans F1.out
    have k2 := (hW.block (w.heap.size + 1 + 1 + 1 + 1) (by omega)).trans F2.out
    refine (val_any 7 ⟨#[]⟩ 0 _ _ _ _ W aliveT (by rw [alive_size]; decide) (alive_at (b := W.heap.size) ((heap_old (by omega)).trans k1) ((heap_old (by omega)).trans k2) (heap_last rfl) (by omega) (by omega) (by omega)) rfl).mono ?_
    rintro e w' ⟨rfl, hB⟩
    exact ⟨by rw [alive_value], hW.trans (hB.mono (by omega))⟩
  have CM : Hid (∀ W, Below (w.heap.size + 6) W0 W → Calls Tryd.prog 12 #[.agg #[.int .i64 7, .string ⟨#[]⟩, .int .i64 0, .slice (some ⟨w.heap.size + 1 + 1 + 1 + 1, 0, none⟩) 2 2, .slice none 0 0, .slice none 0 0, .slice none 0 0], .agg #[.int .i64 7, .string ⟨#[]⟩, .int .i64 0, .slice (some ⟨w.heap.size + 1 + 1 + 1 + 1, 0, none⟩) 2 2, .slice none 0 0, .slice none 0 0, .slice none 0 0]] W fun e w' => e = .returned (.bool true) ∧ Below (w.heap.size + 6) W0 w') := Lib.hid fun W hW => by
    have hs := hW.size
    have k1 := (hW.block (w.heap.size + 1 + 1 + 1) (by omega)).trans F1.out
    have k2 := (hW.block (w.heap.size + 1 + 1 + 1 + 1) (by omega)).trans F2.out
    have k3 : ((W.alloc (.cells #[.int .i64 7, .string ⟨#[]⟩, .int .i64 0, .slice (some ⟨w.heap.size + 1 + 1 + 1 + 1, 0, none⟩) 2 2, .slice none 0 0, .slice none 0 0, .slice none 0 0] 33)).alloc (.cells #[.int .i64 7, .string ⟨#[]⟩, .int .i64 0, .slice (some ⟨w.heap.size + 1 + 1 + 1 + 1, 0, none⟩) 2 2, .slice none 0 0, .slice none 0 0, .slice none 0 0] 33)).heap[w.heap.size + 1 + 1 + 1]? = _ := (heap_old (by simp; omega)).trans ((heap_old (by omega)).trans k1)
    have k4 : ((W.alloc (.cells #[.int .i64 7, .string ⟨#[]⟩, .int .i64 0, .slice (some ⟨w.heap.size + 1 + 1 + 1 + 1, 0, none⟩) 2 2, .slice none 0 0, .slice none 0 0, .slice none 0 0] 33)).alloc (.cells #[.int .i64 7, .string ⟨#[]⟩, .int .i64 0, .slice (some ⟨w.heap.size + 1 + 1 + 1 + 1, 0, none⟩) 2 2, .slice none 0 0, .slice none 0 0, .slice none 0 0] 33)).heap[w.heap.size + 1 + 1 + 1 + 1]? = _ := (heap_old (by simp; omega)).trans ((heap_old (by omega)).trans k2)
    refine (same_ok 7 ⟨#[]⟩ 0 _ _ _ _ W aliveT (by rw [alive_size]; decide) alive_ok (alive_at k3 k4 ((heap_old (by simp)).trans (heap_last rfl)) (by omega) (by omega) (by omega)) (alive_at k3 k4 (heap_last (by simp)) (by omega) (by omega) (by omega))).mono ?_
    rintro e w' ⟨rfl, hB⟩
    exact ⟨rfl, hW.trans (hB.mono (by omega))⟩
  have hB := Below.refl (w.heap.size + 6) W0
  have bx := (hB.block (w.heap.size + 1 + 1 + 1 + 1 + 1) (by omega)).trans h3
  have c0 := Lib.cell_of_heap bx 0
  have c1 := Lib.cell_of_heap bx 1
  have c2 := Lib.cell_of_heap bx 2
  have c3 := Lib.cell_of_heap bx 3
  have c4 := Lib.cell_of_heap bx 4
  have c5 := Lib.cell_of_heap bx 5
  have c6 := Lib.cell_of_heap bx 6
  simp only [List.getElem?_toArray, List.getElem?_cons_zero, List.getElem?_cons_succ] at c0 c1 c2 c3 c4 c5 c6
  clear bx
  have by_ := (hB.block (w.heap.size + 1) (by omega)).trans hx
  have d0 := Lib.cell_of_heap by_ 0
  have d1 := Lib.cell_of_heap by_ 1
  have d2 := Lib.cell_of_heap by_ 2
  have d3 := Lib.cell_of_heap by_ 3
  have d4 := Lib.cell_of_heap by_ 4
  have d5 := Lib.cell_of_heap by_ 5
  have d6 := Lib.cell_of_heap by_ 6
  simp only [List.getElem?_toArray, List.getElem?_cons_zero, List.getElem?_cons_succ] at d0 d1 d2 d3 d4 d5 d6
  clear by_
  go_wp2_with (first | (go_at_call 20; with_reducible refine (CS.out _ (by assumption)).mono ?_; rintro e1 W ⟨rfl, hB⟩; have bx := (hB.block (w.heap.size + 1 + 1 + 1 + 1 + 1) (by omega)).trans h3; have c0 := Lib.cell_of_heap bx 0; have c1 := Lib.cell_of_heap bx 1; have c2 := Lib.cell_of_heap bx 2; have c3 := Lib.cell_of_heap bx 3; have c4 := Lib.cell_of_heap bx 4; have c5 := Lib.cell_of_heap bx 5; have c6 := Lib.cell_of_heap bx 6; simp only [List.getElem?_toArray, List.getElem?_cons_zero, List.getElem?_cons_succ] at c0 c1 c2 c3 c4 c5 c6; clear bx) | (go_at_call 19; with_reducible refine (CD.out _ (by assumption)).mono ?_; rintro e1 W ⟨rfl, hB⟩; have bx := (hB.block (w.heap.size + 1 + 1 + 1 + 1 + 1) (by omega)).trans h3; have c0 := Lib.cell_of_heap bx 0; have c1 := Lib.cell_of_heap bx 1; have c2 := Lib.cell_of_heap bx 2; have c3 := Lib.cell_of_heap bx 3; have c4 := Lib.cell_of_heap bx 4; have c5 := Lib.cell_of_heap bx 5; have c6 := Lib.cell_of_heap bx 6; simp only [List.getElem?_toArray, List.getElem?_cons_zero, List.getElem?_cons_succ] at c0 c1 c2 c3 c4 c5 c6; clear bx) | (go_at_call 18; with_reducible refine (CC.out _ (by assumption)).mono ?_; rintro e1 W ⟨rfl, hB⟩; have bx := (hB.block (w.heap.size + 1 + 1 + 1 + 1 + 1) (by omega)).trans h3; have c0 := Lib.cell_of_heap bx 0; have c1 := Lib.cell_of_heap bx 1; have c2 := Lib.cell_of_heap bx 2; have c3 := Lib.cell_of_heap bx 3; have c4 := Lib.cell_of_heap bx 4; have c5 := Lib.cell_of_heap bx 5; have c6 := Lib.cell_of_heap bx 6; simp only [List.getElem?_toArray, List.getElem?_cons_zero, List.getElem?_cons_succ] at c0 c1 c2 c3 c4 c5 c6; clear bx; have by_ := (hB.block (w.heap.size + 1) (by omega)).trans hx; have d0 := Lib.cell_of_heap by_ 0; have d1 := Lib.cell_of_heap by_ 1; have d2 := Lib.cell_of_heap by_ 2; have d3 := Lib.cell_of_heap by_ 3; have d4 := Lib.cell_of_heap by_ 4; have d5 := Lib.cell_of_heap by_ 5; have d6 := Lib.cell_of_heap by_ 6; simp only [List.getElem?_toArray, List.getElem?_cons_zero, List.getElem?_cons_succ] at d0 d1 d2 d3 d4 d5 d6; clear by_) | (go_at_call 21; with_reducible refine (CX.out _ (by assumption)).mono ?_; rintro e1 W ⟨rfl, hB⟩; have bx := (hB.block (w.heap.size + 1 + 1 + 1 + 1 + 1) (by omega)).trans h3; have c0 := Lib.cell_of_heap bx 0; have c1 := Lib.cell_of_heap bx 1; have c2 := Lib.cell_of_heap bx 2; have c3 := Lib.cell_of_heap bx 3; have c4 := Lib.cell_of_heap bx 4; have c5 := Lib.cell_of_heap bx 5; have c6 := Lib.cell_of_heap bx 6; simp only [List.getElem?_toArray, List.getElem?_cons_zero, List.getElem?_cons_succ] at c0 c1 c2 c3 c4 c5 c6; clear bx) | (go_at_call 21; with_reducible refine (CV.out _ (by assumption)).mono ?_; rintro e1 W ⟨rfl, hB⟩; have bx := (hB.block (w.heap.size + 1 + 1 + 1 + 1 + 1) (by omega)).trans h3; have c0 := Lib.cell_of_heap bx 0; have c1 := Lib.cell_of_heap bx 1; have c2 := Lib.cell_of_heap bx 2; have c3 := Lib.cell_of_heap bx 3; have c4 := Lib.cell_of_heap bx 4; have c5 := Lib.cell_of_heap bx 5; have c6 := Lib.cell_of_heap bx 6; simp only [List.getElem?_toArray, List.getElem?_cons_zero, List.getElem?_cons_succ] at c0 c1 c2 c3 c4 c5 c6; clear bx) | (go_at_call 12; with_reducible refine (CM.out _ (by assumption)).mono ?_; rintro e1 W ⟨rfl, hB⟩; skip))
  all_goals
    go_ret
    exact ⟨rfl, hB0.trans (hB.mono (by omega))⟩
end Go.Proofs.YtoopndgdaiblpaaDoor
