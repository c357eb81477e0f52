/- tree.Check at a tree of variables and applications. -/
import Derived.Test.YtoopndgdaiblpaaDoorSize
import Derived.Test.YtoopndgdaiblpaaDoorRangeB
import Derived.Test.YtoopndgdaiblpaaDoorFit
namespace Go.Proofs.YtoopndgdaiblpaaDoor
open Go.ChangeShapes Go.WideShapes Go.ChangeAt Go.RowKit Go.Shelf
attribute [local go_sem] Oper.semAt_some

/-- A variable, or an application. -/
def okPart (t : Nd) : Prop := (∃ s, t = .ex 1 s 0 [] [] [] [] ∧ nameB s = true ∧ s.size ≤ maxLen) ∨ ∃ x y, t = .ex 7 ⟨#[]⟩ 0 [] [] [x, y] []

/-- Such a part fits. -/
theorem fits_ok (S : Nat → Prop) (b o : Nat) (d : Int) (t : Nd) (T : TypeId) (v : Value) (w : World) (hg : w.cell? ⟨0, 0, none⟩ = some (.iface T v)) (hS : ∀ k, S k → k < w.heap.size) (ht : NdAt w S b o t) (hok : okPart t) :
    Calls Tryd.prog 32 #[.agg #[.pointer (some ⟨b, o, none⟩), .pointer none, .int .i64 d]] w fun e w' => (∃ x c, e = .returned (.tuple #[.slice x 0 c, .bool true])) ∧ Below w.heap.size w w' := by
  rcases hok with ⟨s, rfl, hn, hs⟩ | ⟨x, y, rfl⟩
  · obtain ⟨hb, h0, h1, h2, h3, h4, h5, h6, ha, hnn, htt, hm, _⟩ := ht
    obtain ⟨x3, e3, rfl, _⟩ := ha.shape
    obtain ⟨x4, e4, rfl, _⟩ := hnn.shape
    obtain ⟨x5, e5, rfl, _⟩ := htt.shape
    obtain ⟨x6, e6, rfl, _⟩ := hm.shape
    refine (fits_var b o d s T v x3 x4 x5 x6 e3 e4 e5 e6 w hg hs hn (hS _ hb) h0 h1 h2 h3 h4 h5 h6).mono ?_
    rintro e w' ⟨rfl, hB⟩
    exact ⟨⟨_, _, rfl⟩, hB⟩
  · obtain ⟨hb, h0, h1, h2, h3, h4, h5, h6, ha, hnn, htt, hm, _⟩ := ht
    obtain ⟨x3, e3, rfl, _⟩ := ha.shape
    obtain ⟨x4, e4, rfl, _⟩ := hnn.shape
    obtain ⟨x5, e5, rfl, _⟩ := htt.shape
    obtain ⟨x6, e6, rfl, _⟩ := hm.shape
    refine (fits_app b o d x3 x4 x5 x6 e3 e4 e5 e6 w (hS _ hb) h0 h1 h2 h3 h4 h5 h6).mono ?_
    rintro e w' ⟨rfl, hB⟩
    exact ⟨⟨_, _, rfl⟩, hB⟩

set_option maxRecDepth 100000 in
theorem check_ok (k : Int) (s : ByteArray) (n : Int) (va vn vt vm : Value) (w : World) (t : Nd) (T : TypeId) (v : Value) (hg : w.cell? ⟨0, 0, none⟩ = some (.iface T v)) (hgl : 0 < w.heap.size)
    (hsz : ndSize t ≤ 900000) (ht : NdAt (w.alloc (.cells #[.int .i64 k, .string s, .int .i64 n, va, vn, vt, vm] 33)) (fun b => b < w.heap.size + 1) w.heap.size 0 t) (he : isEx t = true) (hok : ∀ p ∈ trav 1 t, okPart p.1 ∧ isEx p.1 = true ∧ p.2 ≤ 200) :
    Calls Tryd.prog 18 #[.agg #[.int .i64 k, .string s, .int .i64 n, va, vn, vt, vm]] w fun e w' => e = .returned (.int .i64 0) ∧ Below w.heap.size w w' := by
  have HT := Lib.hid (And.intro ht (And.intro he hok))
  have HG := Lib.hid hg
  clear ht he hok hg
  refine (callsIn_wide (n := 5)).1 ?_
  have hf31 : Fence.wide.fn 31 := trivial
  have hf32 : Fence.wide.fn 32 := trivial
  have hf40 : Fence.wide.fn 40 := trivial
  have hdp : Fence.wide.depth.isSome = false := rfl
  refine callsIn_of_wp_marks Tryd.func18 rfl trivial ?_ rfl
  simp only [Tryd.ntmps18, List.size_toArray, List.length_cons, List.length_nil, Nat.reduceAdd, Nat.reduceSub, Array.replicate_succ, Array.replicate_zero, List.push_toArray, List.append_toArray, List.nil_append, List.cons_append]
  gi_wp2_with (gi_at_call 31; refine (callsIn_wide.2 (parts_make _ _)).mono ?_; rintro e w' ⟨rfl, rfl⟩)
  obtain ⟨W0, hW0⟩ : ∃ W0, ((((w.alloc (.cells #[.int .i64 k, .string s, .int .i64 n, va, vn, vt, vm] 33)).alloc (.cells #[.int .i64 0] 41)).alloc (.cells #[.bool false] 4)).alloc (.cells #[.pointer (some ⟨w.heap.size, 0, none⟩)] 55)) = W0 := ⟨_, rfl⟩
  rw [hW0]
  have hs0 : W0.heap.size = w.heap.size + 4 := by rw [← hW0]; simp
  have hB0 : Below w.heap.size w W0 := by
    rw [← hW0]
    exact ((((Below.refl _ _).alloc (Nat.le_refl _) _).alloc (by simp) _).alloc (by simp; omega) _).alloc (by simp; omega) _
  have hE : ∀ b, b < w.heap.size + 1 → W0.heap[b]? = (w.alloc (.cells #[.int .i64 k, .string s, .int .i64 n, va, vn, vt, vm] 33)).heap[b]? := fun b hb => by
    rw [← hW0, heap_old (by simp; omega), heap_old (by simp; omega), heap_old (by simp; omega)]
  have hR0 : W0.heap[w.heap.size + 1]? = some (.cells #[.int .i64 0] 41) := by rw [← hW0, heap_old (by simp), heap_old (by simp), heap_last (by simp)]
  have hC : W0.heap[w.heap.size + 1 + 1]? = some (.cells #[.bool false] 4) := by rw [← hW0, heap_old (by simp), heap_last (by simp)]
  have hP : W0.heap[w.heap.size + 1 + 1 + 1]? = some (.cells #[.pointer (some ⟨w.heap.size, 0, none⟩)] 55) := by rw [← hW0, heap_last (by simp)]
  clear hW0
  have F0 := Lib.hid (And.intro hB0 (And.intro hE (And.intro hR0 (And.intro hC hP))))
  clear hB0 hE hR0 hC hP
  refine range_law_b (gf := 40) (lb := #[.pointer (some ⟨w.heap.size + 1 + 1 + 1, 0, none⟩)]) rfl (enters_of Tryd.func40 (by kernel_rfl) rfl) (encs := encIt) (fun _ => rfl) (S := fun xs => xs.map (fun x => (x.t, x.d)) = trav 1 t) (Sp := fun pre => pre.map (fun x => (x.t, x.d)) <+: trav 1 t) (R := fun pre x => (pre ++ [x]).map (fun x => (x.t, x.d)) <+: trav 1 t ∧ NdAt W0 (fun b => b < w.heap.size + 1) x.b x.o x.t)
    (M := fun b => b = w.heap.size + 1 + 1) (fun b hb => by omega) ?iter
    (fun pre B => B.heap[w.heap.size + 1 + 1]? = some (.cells #[.bool false] 4) ∧ B.heap[w.heap.size + 1]? = some (.cells #[.int .i64 0] 41) ∧ Below w.heap.size w B ∧ ∀ b, b < w.heap.size + 1 → B.heap[b]? = W0.heap[b]?) (fun _ _ => False) ?hI (fun _ _ _ h _ => h) ⟨F0.out.2.2.2.1, F0.out.2.2.1, F0.out.1, fun _ _ => rfl⟩
    (fun x a' B => ∃ q, w.heap.size + 6 ≤ q ∧ B.heap[q]? = some (.cells (pcell x).toArray 76) ∧ a' = { tmps := #[.agg #[.int .i64 k, .string s, .int .i64 n, va, vn, vt, vm], .pointer (some ⟨w.heap.size, 0, none⟩), .pointer (some ⟨w.heap.size + 1, 0, none⟩), .pointer (some ⟨w.heap.size + 1 + 1, 0, none⟩), .pointer (some ⟨q, 0, none⟩), .int .i64 x.d, undef, undef, undef, .func (.func 40) #[] #[.pointer (some ⟨w.heap.size + 1 + 1 + 1, 0, none⟩)], .agg (pcell x).toArray, .int .i64 x.d, undef, undef, undef, undef, undef, undef, undef, undef, undef, undef, undef, undef, undef, undef, undef, undef, undef, undef, undef, undef, undef, undef, undef, undef, undef, undef, undef, undef], defers := [] }) ?hAx ?assign ?body ?done ?stop
  case iter =>
    intro A hA hB
    refine parts_iter _ _ (w.heap.size + 1 + 1 + 1) w.heap.size 0 t (fun b => b < w.heap.size + 1) _ A ?_ HT.out.2.1 (HT.out.1.carry (fun b hb => ?_) fun _ h => h) (fun b hb => ⟨by omega, by omega⟩) (fun b hb => by omega) hsz _ (fun pre x h1 h2 => ⟨h1, h2.carry (fun b hb => ?_) fun _ h => h⟩)
    · rw [Lib.cell_of_heap ((hB.block _ (by omega)).trans F0.out.2.2.2.2) 0]; rfl
    · rw [hB.block b (by omega), F0.out.2.1 b hb]
    · exact (hB.block b (by omega)).symm
  case hI =>
    rintro pre B B' ⟨h1, h2, h3, h4⟩ hb
    exact ⟨(hb.block _ (by omega)).trans h1, (hb.block _ (by omega)).trans h2, h3.trans (hb.mono (by omega)), fun b hb' => (hb.block b (by omega)).trans (h4 b hb')⟩
  case hAx =>
    rintro x a' B B' ⟨q, h1, h2, h3⟩ hF
    exact ⟨q, h1, (hF.block q (Array.getElem?_eq_some_iff.1 h2).1 (fun h => by omega)).trans h2, h3⟩
  case assign =>
    intro x B K hBs hK
    unfold encIt
    by_cases hex : isEx x.t = true
    · have hp : pcell x = [.pointer (some ⟨x.b, x.o, none⟩), .pointer none, .int .i64 x.d] := by unfold pcell; rw [if_pos hex]
      have HP := Lib.hid hp
      rw [hp]
      clear hp
      gi_wp2
      exact hK _ _ ((Free.refl _ B).alloc _) ⟨B.heap.size, by omega, by rw [HP.out]; exact heap_last rfl, by rw [HP.out]⟩
    · have hp : pcell x = [.pointer none, .pointer (some ⟨x.b, x.o, none⟩), .int .i64 x.d] := by unfold pcell; rw [if_neg hex]
      have HP := Lib.hid hp
      rw [hp]
      clear hp
      gi_wp2
      exact hK _ _ ((Free.refl _ B).alloc _) ⟨B.heap.size, by omega, by rw [HP.out]; exact heap_last rfl, by rw [HP.out]⟩
  case body =>
    rintro pre x a' B ⟨h1, h2, h3, h4⟩ ⟨q, hq, hqc, rfl⟩ ⟨hR, hnd⟩ hBs
    obtain ⟨hx1, hx2, hx3⟩ := HT.out.2.2 (x.t, x.d) (hR.subset (by simp))
    simp only at hx1 hx2 hx3
    have hp : pcell x = [.pointer (some ⟨x.b, x.o, none⟩), .pointer none, .int .i64 x.d] := by unfold pcell; rw [if_pos hx2]
    rw [hp] at hqc
    have hql : q < B.heap.size := (Array.getElem?_eq_some_iff.1 hqc).1
    have e0 := Lib.cell_of_heap hqc 0
    have e1 := Lib.cell_of_heap hqc 1
    have e2 := Lib.cell_of_heap hqc 2
    simp only [List.getElem?_toArray, List.getElem?_cons_zero, List.getElem?_cons_succ] at e0 e1 e2
    have CF : Hid (Calls Tryd.prog 32 #[.agg #[.pointer (some ⟨x.b, x.o, none⟩), .pointer none, .int .i64 x.d]] B fun e w' => (∃ x c, e = .returned (.tuple #[.slice x 0 c, .bool true])) ∧ Below B.heap.size B w') :=
      Lib.hid (fits_ok (fun b => b < w.heap.size + 1) x.b x.o x.d x.t T v B ((h3.cell (p := ⟨0, 0, none⟩) hgl).trans HG.out) (fun k hk => by omega) (hnd.carry (fun b hb => h4 b hb) fun _ h => h) hx1)
    have H1 := Lib.hid (And.intro h1 (And.intro h2 (And.intro h3 h4)))
    have hdp2 : (Fence.wide.inRound (W0.heap.size + 1)).depth.isSome = false := rfl
    have hf32' : (Fence.wide.inRound (W0.heap.size + 1)).fn 32 := trivial
    have hdx : (x.d : Int) ≤ 200 := by omega
    clear h1 h2 h3 h4 hR hnd hx1 hx2 hp hqc hx3
    gi_wp2_with (gi_at_call 32; refine (CallsIn.inRound _ (callsIn_wide.2 CF.out)).mono ?_; rintro e3 W2 ⟨⟨x5, c5, rfl⟩, hB2⟩; have hs2 := hB2.size; have hc2 := (hB2.block (w.heap.size + 1 + 1) (by omega)).trans H1.out.1; have c2 := Lib.cell_of_heap hc2 0; have f2 := Lib.frozen_of_heap hc2 0; simp only [List.getElem?_toArray, List.getElem?_cons_zero] at c2)
    gi_loopw [26] (fun i wr => i = .int .i64 0 ∧ wr = W2.setCell ⟨w.heap.size + 1 + 1, 0, none⟩ (.bool false)) (fun _ _ => 0)
    case atStart => exact ⟨rfl, by rw [show decide ((200 : Int) < (x.d : Int)) = false from decide_eq_false (by omega)]⟩
    case round =>
      obtain ⟨rfl, rfl⟩ := hrel
      gi_wp2
      have hF2 : Free (fun b => b = w.heap.size + 1 + 1) B W2 := ⟨hB2.os, hB2.tape, hB2.output, hB2.size, fun k hk _ => hB2.block k hk⟩
      refine ⟨hF2.setCell (p := ⟨w.heap.size + 1 + 1, 0, none⟩) rfl _, ?_, ?_, (H1.out.2.2.1.trans (hB2.mono (by omega))).setCell (p := ⟨w.heap.size + 1 + 1, 0, none⟩) (by simp only; omega) _, fun b hb => ?_⟩
      · have h := heap_setCell_same _ _ 0 _ _ (.bool false) hc2
        simpa using h
      · rw [RowKit.Below.heap_setCell _ _ _ _ (show w.heap.size + 1 ≠ w.heap.size + 1 + 1 by omega), hB2.block _ (by omega)]; exact H1.out.2.1
      · rw [RowKit.Below.heap_setCell _ _ _ _ (show b ≠ w.heap.size + 1 + 1 by omega), hB2.block _ (by omega)]; exact H1.out.2.2.2 b hb
  case done =>
    rintro xs B hS ⟨h1, h2, h3, h4⟩ hD
    have c0 := Lib.cell_of_heap h1 0
    have c1 := Lib.cell_of_heap h2 0
    have f1 := Lib.frozen_of_heap h2 0
    simp only [List.getElem?_toArray, List.getElem?_cons_zero] at c0 c1
    have H1 := Lib.hid (And.intro h2 (And.intro h3 hD))
    clear h1 h2 h3 h4 hS hD
    have h2s := H1.out.2.1.size
    gi_wp2
    have hd2 : (B.setCell ⟨w.heap.size + 1, 0, none⟩ (.int .i64 0)).heap[W0.heap.size]? = some (.deferred (some [])) := (RowKit.Below.heap_setCell _ _ _ _ (show W0.heap.size ≠ w.heap.size + 1 by omega)).trans H1.out.2.2
    have hr2 := heap_setCell_same _ _ 0 _ _ (.int .i64 0) H1.out.1
    have hr3 : ((B.setCell ⟨w.heap.size + 1, 0, none⟩ (.int .i64 0)).putObj W0.heap.size (.deferred none)).heap[w.heap.size + 1]? = _ := (World.putObj_heap_other (by omega)).trans hr2
    have cr := Lib.cell_of_heap hr3 0
    simp at cr
    refine ⟨by simp, .inl ⟨_, _, rfl, run_takeDeferred hd2, ?_⟩⟩
    refine ⟨.int .i64 0, by simp [results, Tryd.results18, go_sem, cr], rfl, (H1.out.2.1.setCell (p := ⟨w.heap.size + 1, 0, none⟩) (Nat.le_succ _) _).trans (below_put (by omega) _)⟩
  case stop =>
    intro pre B _ h
    exact h.elim
end Go.Proofs.YtoopndgdaiblpaaDoor
