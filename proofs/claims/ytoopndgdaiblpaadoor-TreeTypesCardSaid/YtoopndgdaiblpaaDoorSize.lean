/- tree.Size and tree.Deep, told whole. -/
import Derived.Test.YtoopndgdaiblpaaDoorIter
namespace Go.Proofs.YtoopndgdaiblpaaDoor
open Go.ChangeShapes Go.WideShapes Go.ChangeAt Go.RowKit Go.Shelf
attribute [local go_sem] Oper.semAt_some

theorem parts_make (p : Option Addr) (w : World) : Calls Tryd.prog 31 #[.pointer p] w fun e w' => e = .returned (.func (.func 40) #[] #[.pointer (some ⟨w.heap.size, 0, none⟩)]) ∧ w' = w.alloc (.cells #[.pointer p] 55) := by
  go_enter Tryd.func31, Tryd.ntmps31
  go_wp2_with fail
  go_ret
  exact ⟨rfl, rfl⟩

set_option maxRecDepth 100000 in
theorem size_any (k : Int) (s : ByteArray) (n : Int) (va vn vt vm : Value) (w : World) (t : Nd)
    (hsz : ndSize t ≤ 900000) (ht : NdAt (w.alloc (.cells #[.int .i64 k, .string s, .int .i64 n, va, vn, vt, vm] 33)) (fun b => b < w.heap.size + 1) w.heap.size 0 t) (he : isEx t = true) :
    Calls Tryd.prog 20 #[.agg #[.int .i64 k, .string s, .int .i64 n, va, vn, vt, vm]] w fun e w' => e = .returned (.int .i64 (ndSize t)) ∧ Below w.heap.size w w' := by
  have HT := Lib.hid (And.intro ht he)
  clear ht he
  refine (callsIn_wide (n := 5)).1 ?_
  have hf31 : Fence.wide.fn 31 := trivial
  have hf40 : Fence.wide.fn 40 := trivial
  have hdp : Fence.wide.depth.isSome = false := rfl
  refine callsIn_of_wp_marks Tryd.func20 rfl trivial ?_ rfl
  simp only [Tryd.ntmps20, List.size_toArray, List.length_cons, List.length_nil, Nat.reduceAdd, Nat.reduceSub, Array.replicate_succ, Array.replicate_zero, List.push_toArray, List.append_toArray, List.nil_append, List.cons_append]
  gi_wp2_with (gi_at_call 31; refine (callsIn_wide.2 (parts_make _ _)).mono ?_; rintro e w' ⟨rfl, rfl⟩)
  obtain ⟨W0, hW0⟩ : ∃ W0, (((w.alloc (.cells #[.int .i64 k, .string s, .int .i64 n, va, vn, vt, vm] 33)).alloc (.cells #[.int .i64 0] 3)).alloc (.cells #[.pointer (some ⟨w.heap.size, 0, none⟩)] 55)) = W0 := ⟨_, rfl⟩
  rw [hW0]
  have hs0 : W0.heap.size = w.heap.size + 3 := by rw [← hW0]; simp
  have hB0 : Below w.heap.size w W0 := by
    rw [← hW0]
    exact (((Below.refl _ _).alloc (Nat.le_refl _) _).alloc (by simp) _).alloc (by simp; omega) _
  have hE : ∀ b, b < w.heap.size + 1 → W0.heap[b]? = (w.alloc (.cells #[.int .i64 k, .string s, .int .i64 n, va, vn, vt, vm] 33)).heap[b]? := fun b hb => by
    rw [← hW0, heap_old (by simp; omega), heap_old (by simp; omega)]
  have hC : W0.heap[w.heap.size + 1]? = some (.cells #[.int .i64 0] 3) := by rw [← hW0, heap_old (by simp), heap_last (by simp)]
  have hP : W0.heap[w.heap.size + 1 + 1]? = some (.cells #[.pointer (some ⟨w.heap.size, 0, none⟩)] 55) := by rw [← hW0, heap_last (by simp)]
  clear hW0
  have F0 := Lib.hid (And.intro hB0 (And.intro hE (And.intro hC hP)))
  clear hB0 hE hC hP
  refine range_law (gf := 40) (lb := #[.pointer (some ⟨w.heap.size + 1 + 1, 0, none⟩)]) rfl (enters_of Tryd.func40 (by kernel_rfl) rfl) (encs := encIt) (fun _ => rfl) (S := fun xs => xs.map (fun x => (x.t, x.d)) = trav 1 t) (Sp := fun pre => pre.map (fun x => (x.t, x.d)) <+: trav 1 t) (R := fun pre x => (pre ++ [x]).map (fun x => (x.t, x.d)) <+: trav 1 t)
    (M := fun b => b = w.heap.size + 1) (fun b hb => by omega) ?iter
    (fun pre B => B.heap[w.heap.size + 1]? = some (.cells #[.int .i64 (pre.length : Nat)] 3) ∧ Below w.heap.size w B) (fun _ _ => False) ?hI (fun _ _ _ h _ => h) ⟨F0.out.2.2.1, F0.out.1⟩
    (fun x => { tmps := #[.agg #[.int .i64 k, .string s, .int .i64 n, va, vn, vt, vm], .pointer (some ⟨w.heap.size, 0, none⟩), .int .i64 0, .pointer (some ⟨w.heap.size + 1, 0, none⟩), .func (.func 40) #[] #[.pointer (some ⟨w.heap.size + 1 + 1, 0, none⟩)], .agg (pcell x).toArray, .int .i64 x.d, undef, undef, undef], defers := [] }) ?assign ?body ?done ?stop
  case iter =>
    intro A hA hB
    refine parts_iter _ _ (w.heap.size + 1 + 1) w.heap.size 0 t (fun b => b < w.heap.size + 1) _ A ?_ HT.out.2 (HT.out.1.carry (fun b hb => ?_) fun _ h => h) (fun b hb => ⟨by omega, by omega⟩) (fun b hb => by omega) hsz _ (fun _ _ h _ => h)
    · rw [Lib.cell_of_heap ((hB.block _ (by omega)).trans F0.out.2.2.2) 0]; rfl
    · rw [hB.block b (by omega), F0.out.2.1 b hb]
  case hI =>
    rintro pre B B' ⟨h1, h2⟩ hb
    exact ⟨(hb.block _ (by omega)).trans h1, h2.trans (hb.mono (by omega))⟩
  case assign =>
    intro x B K hK
    unfold encIt
    gi_wp2
    simpa using hK
  case body =>
    rintro pre x B ⟨h1, h2⟩ hR hBs
    have hl : pre.length ≤ 900000 := by
      have := hR.length_le
      rw [trav_length, List.length_map, List.length_append] at this
      omega
    have h2s := h2.size
    have c0 := Lib.cell_of_heap h1 0
    have f0 := Lib.frozen_of_heap h1 0
    simp only [List.getElem?_toArray, List.getElem?_cons_zero] at c0
    have H1 := Lib.hid (And.intro h1 h2)
    clear h1 h2 hR
    gi_wp2
    refine ⟨(Free.refl (fun b => b = w.heap.size + 1) B).setCell (p := ⟨w.heap.size + 1, 0, none⟩) rfl _, ?_, H1.out.2.setCell (p := ⟨w.heap.size + 1, 0, none⟩) (Nat.le_succ _) _⟩
    have := heap_setCell_same _ _ 0 _ _ (.int .i64 ((pre.length : Int) + 1)) H1.out.1
    simpa using this
  case done =>
    rintro xs B hS ⟨h1, h2⟩ hD
    have c0 := Lib.cell_of_heap h1 0
    simp only [List.getElem?_toArray, List.getElem?_cons_zero] at c0
    have H1 := Lib.hid (And.intro h1 (And.intro h2 (And.intro hS hD)))
    clear h1 h2 hS hD
    gi_wp2
    refine ⟨by simp, .inl ⟨_, _, rfl, run_takeDeferred H1.out.2.2.2, ?_⟩⟩
    refine ⟨_, results_tmp rfl _ _ _, ?_, H1.out.2.1.trans (below_put (by omega) _)⟩
    have hl := congrArg List.length H1.out.2.2.1
    rw [trav_length, List.length_map] at hl
    rw [← hl]; rfl
  case stop =>
    intro pre B _ h
    exact h.elim
end Go.Proofs.YtoopndgdaiblpaaDoor
