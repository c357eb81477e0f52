/- gen.free told: the free ones of nodes. -/
import Derived.Test.YtkbmkmpoapafaaaDoorMr
import Derived.Test.YtkbmkmpoapafaaaDoorZn
import Derived.Test.YtkbmkmpoapafaaaDoorFr
namespace Go.Proofs.YtkbmkmpoapafaaaDoor
open Go.ChangeShapes Go.WideShapes Go.ChangeAt Go.RowKit

/-- The free ones of some nodes. -/
def freeL (G : List GN) (f : Nat → Bool) : List Nat := (List.range G.length).filter fun i => f i && freeAt G i
theorem freeL_congr {G : List GN} {f g : Nat → Bool} (h : ∀ i, i < G.length → f i = g i) : freeL G f = freeL G g := by
  unfold freeL
  refine List.filter_congr fun i hi => ?_
  rw [h i (List.mem_range.1 hi)]
theorem mem_freeL {G : List GN} {f : Nat → Bool} {i : Nat} : i ∈ freeL G f ↔ i < G.length ∧ f i = true ∧ freeAt G i = true := by
  unfold freeL
  rw [List.mem_filter, List.mem_range, Bool.and_eq_true]
theorem freeL_step {f : Nat → Bool} (j : Nat) : (List.range (j + 1)).filter f = (List.range j).filter f ++ (if f j then [j] else []) := by
  rw [List.range_succ, List.filter_append]
  congr 1
  cases h : f j <;> simp [h]
set_option linter.unusedSimpArgs false in
set_option maxHeartbeats 4000000 in
set_option maxRecDepth 100000 in
theorem genfree_any (S : Nat → Prop) (vg : Value) (r : Int) (G : List GN) (b : Nat) (f : Nat → Bool) (w : World) (hG : GrAt w S vg G) (hS : ∀ b, S b → b < w.heap.size) (hM : MetR w b G.length f) (lG : G.length ≤ 2000) :
    Calls Tryd.prog 32 #[.agg #[vg, .int .i64 r], .slice (some ⟨b, 0, none⟩) G.length G.length] w fun e w' => ∃ x c, e = .returned (.slice x (freeL G f).length c) ∧ w'.ownsRow w.heap.size 3 1 (.slice x (freeL G f).length c) (freeL G f).length (nums (freeL G f)) ∧ Below w.heap.size w w' := by
  obtain ⟨xg, cg, gg, og, rfl, hxg, hng⟩ := hG.open_
  obtain ⟨n, en⟩ : ∃ n, G.length = n := ⟨_, rfl⟩
  have hfL : freeL G f = (List.range n).filter fun i => f i && freeAt G i := by unfold freeL; rw [en]
  rw [hfL]
  rw [en] at hM hxg lG ⊢
  obtain ⟨W1, hW1⟩ : ∃ W1, w.alloc (.cells #[.slice xg n cg, .int .i64 r] 24) = W1 := ⟨_, rfl⟩
  have B1 : Below w.heap.size w W1 := by rw [← hW1]; exact (Below.refl _ _).alloc (Nat.le_refl _) _
  have s1 : W1.heap.size = w.heap.size + 1 := by rw [← hW1]; simp
  have b1 : W1.heap[w.heap.size]? = some (.cells #[.slice xg n cg, .int .i64 r] 24) := by rw [← hW1]; exact heap_last rfl
  have c0 := Lib.cell_of_heap b1 0
  simp only [List.getElem?_toArray, List.getElem?_cons_zero, List.getElem?_cons_succ] at c0
  have H := Lib.hid (And.intro hxg (And.intro hng (And.intro hS (And.intro hM (And.intro en (And.intro B1 (And.intro s1 b1)))))))
  have HW1 := Lib.hid hW1
  have hlt1 : w.heap.size < W1.heap.size := by omega
  obtain ⟨i0, hi, hz0, hz1, hz2⟩ := info_parts intInfo
  clear hG hxg hng hS hM hfL b1 B1 s1 hW1
  go_enter Tryd.func32, Tryd.ntmps32
  go_wp2_with fail
  rw [HW1.out]
  clear c0
  go_loopg [5, 10] n (fun gk v i wr => ∃ j : Nat, ∃ F : List Nat, gk = n - j ∧ i = .int .i64 (j : Int) ∧ j ≤ n ∧ F = (List.range j).filter (fun i => f i && freeAt G i) ∧ wr.ownsRow W1.heap.size 3 1 v F.length (nums F) ∧ Below W1.heap.size W1 wr)
  case atStart => exact ⟨0, [], by simp, by first | rfl | simp, Nat.zero_le _, by simp, World.ownsRow_nil _ _ _ _, Below.refl _ _⟩
  case round =>
    obtain ⟨j, F, rfl, rfl, hj, hF, hof, hB⟩ := hrel
    have sr := hB.size
    obtain ⟨xf, cf, rfl⟩ := own_shape hof
    by_cases hlt : j < n
    · have hi' : (j : Int) < (n : Int) := by omega
      obtain ⟨hxg, hng, hS, hM, -, B1, s1, b1⟩ := H.out
      have hFl : F.length ≤ j := by
        rw [hF]
        have := List.length_filter_le (fun i => f i && freeAt G i) (List.range j)
        simpa using this
      obtain ⟨rfl, hgc, hgx, hSg⟩ := hxg (by omega)
      unfold maxLen at hgx
      obtain ⟨va, vl, hgn⟩ := hng j (by omega)
      have hBw : Below w.heap.size w wr := B1.trans (hB.mono (by omega))
      have gn := hgn.carry (keeps_of hBw hS) fun _ h => h
      have e1 := (hM.of (hBw.block b hM.lt)).cell hlt
      have a0 := Lib.cell_of_heap ((hB.block w.heap.size (by omega)).trans b1) 0
      simp only [List.getElem?_toArray, List.getElem?_cons_zero, List.getElem?_cons_succ] at a0
      have hfa : freeAt G j = (G[j]'(by omega)).freeB := by unfold freeAt; rw [List.getElem?_eq_getElem (by omega)]; rfl
      obtain ⟨X, hX⟩ : ∃ X, (G[j]'(by omega)) = X := ⟨_, rfl⟩
      rw [hX] at gn hfa
      unfold GN.freeB at hfa
      have c0 := gn.c0
      have c4 := gn.c4
      obtain ⟨k0, hk0⟩ : ∃ n, X.k = n := ⟨_, rfl⟩
      obtain ⟨k4, hk4⟩ : ∃ n, X.op = n := ⟨_, rfl⟩
      rw [hk0] at c0 hfa
      rw [hk4] at c4 hfa
      obtain ⟨xo, hxo⟩ : ∃ o, og + j * 5 = o := ⟨_, rfl⟩
      rw [hxo] at c0 c4
      obtain ⟨fb, hfb⟩ : ∃ fb, f j = fb := ⟨_, rfl⟩
      rw [hfb] at e1
      have hstep := freeL_step (f := fun i => f i && freeAt G i) j
      rw [hfb, hfa] at hstep
      have hgw : gg < wr.heap.size := by have := hS gg hSg; omega
      have hbw : b < wr.heap.size := by have := hM.lt; omega
      have hww : w.heap.size < wr.heap.size := by omega
      have HF := Lib.hid (And.intro hF (And.intro hof (And.intro hB hstep)))
      have HOA := Lib.hid (hof.alloc (.cells #[.int .i64 (j : Int)] 3))
      have HNA := Lib.hid (new_cells wr [.int .i64 (j : Int)] 3)
      have H1A : Hid (∀ u ∈ ([.int .i64 (j : Int)] : List Value), u.oneCell' = true) := Lib.hid fun u hu => by rw [List.mem_singleton.1 hu]; rfl
      clear hF hof hB hstep hfa hfb gn hgn hX hk0 hk4 hxg hng hS hM B1 s1 b1 hBw
      cases fb with
      | false =>
        go_wp2_with fail
        go_roundg (n - (j + 1))
        case measure => omega
        case rel =>
          obtain ⟨hF, hof, hB, hstep⟩ := HF.out
          exact ⟨j + 1, F, rfl, by first | rfl | simp, hlt, by rw [hstep, ← hF]; simp, hof, hB⟩
      | true =>
        by_cases hk : k0 = 1
        · subst hk
          go_wp2_with (at_builtin; (refine wpList_append_own_at _ rfl (.tmp 34) (.tmp 36) _ rfl W1.heap.size 3 i0 _ 1 8 Tryd.underlying32 hi hz0 hz1 hz2 rfl (by decide) (.slice xf F.length cf) F.length (nums F) rfl HOA.out ⟨wr.heap.size, 0, none⟩ 1 1 [.int .i64 (j : Int)] rfl rfl HNA.out H1A.out (by unfold maxLen; omega) (by omega) (by simp; omega) ?_); (intro v5 w5 hown5 hg5 _ _); (obtain ⟨y5, d5, rfl⟩ := own_shape hown5); (have H5 := Lib.hid (And.intro hown5 hg5)); clear hown5 hg5)
          go_roundg (n - (j + 1))
          case measure => omega
          case rel =>
            obtain ⟨hF, hof, hB, hstep⟩ := HF.out
            refine ⟨j + 1, F ++ [j], rfl, by first | rfl | simp, hlt, by rw [hstep, ← hF]; simp, ?_, ((hB.alloc (by omega) _).grown H5.out.2 (by simp; omega) (fun k hk => (hof.lt k hk).1))⟩
            rw [nums_append, List.length_append]
            exact H5.out.1
        · have hk1 : (k0 == 1) = false := by simpa using hk
          have HK1 := Lib.hid hk1
          cases k4 with
          | false =>
            go_wp2_with fail
            go_roundg (n - (j + 1))
            case measure => omega
            case rel =>
              obtain ⟨hF, hof, hB, hstep⟩ := HF.out
              exact ⟨j + 1, F, rfl, by first | rfl | simp, hlt, by rw [hstep, ← hF, HK1.out]; simp, hof, hB⟩
          | true =>
            go_wp2_with (at_builtin; (refine wpList_append_own_at _ rfl (.tmp 34) (.tmp 36) _ rfl W1.heap.size 3 i0 _ 1 8 Tryd.underlying32 hi hz0 hz1 hz2 rfl (by decide) (.slice xf F.length cf) F.length (nums F) rfl HOA.out ⟨wr.heap.size, 0, none⟩ 1 1 [.int .i64 (j : Int)] rfl rfl HNA.out H1A.out (by unfold maxLen; omega) (by omega) (by simp; omega) ?_); (intro v5 w5 hown5 hg5 _ _); (obtain ⟨y5, d5, rfl⟩ := own_shape hown5); (have H5 := Lib.hid (And.intro hown5 hg5)); clear hown5 hg5)
            go_roundg (n - (j + 1))
            case measure => omega
            case rel =>
              obtain ⟨hF, hof, hB, hstep⟩ := HF.out
              refine ⟨j + 1, F ++ [j], rfl, by first | rfl | simp, hlt, by rw [hstep, ← hF]; simp, ?_, ((hB.alloc (by omega) _).grown H5.out.2 (by simp; omega) (fun k hk => (hof.lt k hk).1))⟩
              rw [nums_append, List.length_append]
              exact H5.out.1
    · have hi' : ¬ (j : Int) < (n : Int) := by omega
      obtain rfl : j = n := by omega
      have HF := Lib.hid (And.intro hF (And.intro hof hB))
      clear hF hof hB
      go_wp2_with fail
      go_ret
      obtain ⟨hF, hof, hB⟩ := HF.out
      rw [← hF]
      exact ⟨xf, cf, rfl, own_base hof (by have := H.out.2.2.2.2.2.2.1; omega), H.out.2.2.2.2.2.1.trans (hB.mono (by have := H.out.2.2.2.2.2.2.1; omega))⟩
end Go.Proofs.YtkbmkmpoapafaaaDoor
