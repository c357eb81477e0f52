/- slices.Backward at numbers: what it makes, and its iterator. -/
import Derived.Test.YtkbmkmpoapafaaaDoorRangeC
import Derived.WalkSmall
import Derived.RangeFuncNested
import Derived.RangeFuncBound
import Derived.RangeFuncCalls
import Derived.RangeFuncLeaves
import Derived.Shelf.Abstract
import Derived.Shelf.RegionOpen
import Derived.WalkKit
import Derived.OwnWalkIn
import Derived.TacticsInMore
import Derived.LoopNIn
import Derived.LoopIn
namespace Go.Proofs.YtkbmkmpoapafaaaDoor
open Go.ChangeShapes Go.WideShapes Go.ChangeAt Go.RowKit Go.Shelf
attribute [local go_sem] Oper.semAt_some

/-- What is told: each number with its place, the last one first. -/
def backs (a : Nat → Nat) (k : Nat) : List (Nat × Nat) := (List.range k).reverse.map fun i => (i, a i)
def encB (x : Nat × Nat) : Array Value := #[.int .i64 (x.1 : Int), .int .i64 (x.2 : Int)]
theorem backs_length (a : Nat → Nat) (k : Nat) : (backs a k).length = k := by simp [backs]
theorem backs_step (a : Nat → Nat) {k m : Nat} (h : m < k) : (backs a k).take (k - m) = (backs a k).take (k - (m + 1)) ++ [(m, a m)] := by
  have hl : k - (m + 1) < (backs a k).length := by rw [backs_length]; omega
  rw [show k - m = k - (m + 1) + 1 by omega, List.take_succ_eq_append_getElem hl]
  have e : (backs a k)[k - (m + 1)] = (m, a m) := by
    simp only [backs, List.getElem_map, List.getElem_reverse, List.getElem_range, List.length_range]
    rw [show k - 1 - (k - (m + 1)) = m by omega]
  rw [e]

set_option maxRecDepth 100000 in
theorem back_make (x : Option Addr) (k c : Nat) (w : World) : Calls Tryd.prog 53 #[.slice x k c] w fun e w' => e = .returned (.func (.func 59) #[] #[.pointer (some ⟨w.heap.size, 0, none⟩)]) ∧ w' = w.alloc (.cells #[.slice x k c] 32) := by
  go_enter Tryd.func53, Tryd.ntmps53
  go_wp2_with fail
  go_ret
  exact ⟨rfl, rfl⟩

set_option maxHeartbeats 1000000 in
set_option maxRecDepth 100000 in
theorem back_iter (n l Bn g o c k : Nat) (x : Option Addr) (a : Nat → Nat) (M : Nat → Prop) (A : World) (hbn : A.cell? ⟨Bn, 0, none⟩ = some (.slice x k c)) (hx : 0 < k → x = some ⟨g, o, none⟩ ∧ k ≤ c ∧ c ≤ maxLen ∧ g < A.heap.size ∧ ¬ M g) (hBn : Bn < A.heap.size ∧ ¬ M Bn) (hc : ∀ i, i < k → A.cell? ⟨g, o + i, none⟩ = some (.int .i64 (a i : Int))) (hk : k ≤ 1000000)
    (R : List (Nat × Nat) → Nat × Nat → Prop) (hR : ∀ pre x, pre ++ [x] <+: backs a k → R pre x) :
    Iterates2 n Tryd.prog 59 #[.pointer (some ⟨Bn, 0, none⟩)] encB (fun xs => xs = backs a k) (fun pre => pre <+: backs a k) R M l A := by
  intro J Jx hY h0
  have HC := Lib.hid (And.intro hbn (And.intro hx (And.intro hBn hc)))
  have HY := Lib.hid hY
  have H0 := Lib.hid h0
  have HRX := Lib.hid hR
  have hBn1 := hBn.1
  clear hbn hx hBn hc hY h0 hR
  have hdp : Fence.wide.depth.isSome = false := rfl
  have b0 := HC.out.1
  refine callsIn_of_wp Tryd.func59 rfl trivial ?_
  simp only [Tryd.ntmps59, List.size_toArray, List.length_cons, List.length_nil, Nat.reduceAdd, Nat.reduceSub, Array.replicate_succ, Array.replicate_zero, List.push_toArray, List.append_toArray, List.nil_append, List.cons_append]
  gi_wp2
  clear b0
  gi_loopw [3] (fun v wr => ∃ m : Nat, v = .int .i64 ((m : Int) - 1) ∧ m ≤ k ∧ J ((backs a k).take (k - m)) wr ∧ Free M A wr) (fun v _ => match v with | .int _ z => (z + 1).toNat | _ => 0)
  case atStart => exact ⟨k, by first | rfl | simp, Nat.le_refl _, by simpa using H0.out, Free.refl _ _⟩
  case round =>
    obtain ⟨m, rfl, hm, hJ, hF⟩ := hrel
    have sr := hF.size
    have HJ := Lib.hid (And.intro hJ hF)
    clear hJ hF
    cases m with
    | zero =>
      have e0 : ((0 : Nat) : Int) - 1 = -1 := rfl
      rw [e0]
      clear e0
      gi_wp2
      go_end0
      have hall : (backs a k).take (k - 0) = backs a k := by rw [Nat.sub_zero]; exact List.take_of_length_le (by rw [backs_length]; exact Nat.le_refl _)
      have hJ := HJ.out.1
      rw [hall] at hJ
      exact ⟨⟨_, rfl⟩, .inl ⟨_, rfl, hJ⟩⟩
    | succ m =>
      have hmk : m < k := by omega
      have e1 : ((m + 1 : Nat) : Int) - 1 = (m : Int) := by omega
      rw [e1]
      clear e1
      obtain ⟨rfl, h1, h2, h3, h4⟩ := HC.out.2.1 (by omega)
      unfold maxLen at h2
      have hcell : ∀ (b q : Nat) (u : Value), b < A.heap.size → ¬ M b → A.cell? ⟨b, q, none⟩ = some u → wr.cell? ⟨b, q, none⟩ = some u := fun b q u hb hn hu => by
        have hh := HJ.out.2.block b hb hn
        unfold World.cell? at hu ⊢
        simp only at hu ⊢
        rw [hh]; exact hu
      have b0 := hcell Bn 0 _ HC.out.2.2.1.1 HC.out.2.2.1.2 HC.out.1
      have d0 := hcell g (o + m) _ h3 h4 (HC.out.2.2.2 m hmk)
      have hBw : Bn < wr.heap.size := by omega
      have hgw : g < wr.heap.size := by omega
      have hi' : (m : Int) < (k : Int) := by omega
      have hpre : (backs a k).take (k - (m + 1)) ++ [(m, a m)] <+: backs a k := by rw [← backs_step a hmk]; exact List.take_prefix _ _
      have HPR := Lib.hid hpre
      obtain ⟨fn, tmps, assign, body, hy, hRr⟩ := HY.out _ (m, a m) wr HJ.out.1 (HRX.out _ _ hpre)
      unfold encB at hy
      have HR := Lib.hid hRr
      clear hRr hcell hpre
      gi_wp2
      refine HR.out.mono ?_
      rintro e W2 (⟨rfl, hJ2, hF2⟩ | ⟨rfl, hJx2⟩)
      · have H2 := Lib.hid (And.intro hJ2 (HJ.out.2.trans hF2))
        clear hJ2 hF2
        gi_wp2
        go_roundw
        case rel => exact ⟨m, by first | rfl | simp, by omega, by rw [backs_step a hmk]; exact H2.out.1, H2.out.2⟩
        case measure => simp only; omega
      · gi_wp2
        refine bodyPost_ret (results_none rfl _ _ _) rfl ?_
        exact ⟨⟨_, rfl⟩, .inr ⟨_, HPR.out, hJx2⟩⟩
end Go.Proofs.YtkbmkmpoapafaaaDoor
