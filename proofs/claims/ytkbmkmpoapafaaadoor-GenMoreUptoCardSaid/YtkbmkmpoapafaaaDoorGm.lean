/- The matching of graph.Same: its parents and sizes in memory; find. -/
import Derived.Test.YtkbmkmpoapafaaaDoorGk
import Derived.Test.YtkbmkmpoapafaaaDoorSm
import Derived.Test.YtkbmkmpoapafaaaDoorRangeG
import Derived.BigRegion
namespace Go.Proofs.YtkbmkmpoapafaaaDoor
open Go.ChangeShapes Go.WideShapes Go.ChangeAt Go.RowKit

/-- Numbers in a block. -/
def Arr (W : World) (b N : Nat) (f : Nat → Nat) : Prop := ∃ cs T, W.heap[b]? = some (.cells cs T) ∧ ∀ i, i < N → cs[i]? = some (.int .i64 (f i))
theorem Arr.cell {W : World} {b N : Nat} {f : Nat → Nat} (h : Arr W b N f) {i : Nat} (hi : i < N) : W.cell? ⟨b, i, none⟩ = some (.int .i64 (f i)) := by
  obtain ⟨cs, T, h1, h2⟩ := h
  rw [Lib.cell_of_heap h1]; exact h2 i hi
theorem Arr.frozen {W : World} {b N : Nat} {f : Nat → Nat} (h : Arr W b N f) (i : Nat) : W.frozen? ⟨b, i, none⟩ = false := by
  obtain ⟨cs, T, h1, h2⟩ := h
  exact Lib.frozen_of_heap h1 i
theorem Arr.lt {W : World} {b N : Nat} {f : Nat → Nat} (h : Arr W b N f) : b < W.heap.size := by
  obtain ⟨cs, T, h1, h2⟩ := h
  exact (Array.getElem?_eq_some_iff.1 h1).1
theorem Arr.of {W W' : World} {b N : Nat} {f : Nat → Nat} (h : Arr W b N f) (hb : W'.heap[b]? = W.heap[b]?) : Arr W' b N f := by
  obtain ⟨cs, T, h1, h2⟩ := h
  exact ⟨cs, T, hb.trans h1, h2⟩
theorem Arr.set {W : World} {b N : Nat} {f : Nat → Nat} (h : Arr W b N f) (i v : Nat) : Arr (W.setCell ⟨b, i, none⟩ (.int .i64 v)) b N (Gu.put f i v) := by
  obtain ⟨cs, T, h1, h2⟩ := h
  have h3 := heap_setCell_same W b i cs T (.int .i64 v) h1
  refine ⟨_, T, h3, fun j hj => ?_⟩
  have hcs : j < cs.size := (Array.getElem?_eq_some_iff.1 (h2 j hj)).1
  unfold Gu.put
  by_cases e : j = i
  · subst e
    simp [hcs]
  · rw [if_neg e, Array.getElem?_setIfInBounds_ne (Ne.symm e)]
    exact h2 j hj
theorem Arr.drew {W : World} {b N : Nat} {f : Nat → Nat} (h : Arr W b N f) : Arr W.drew b N f := h.of rfl
theorem free_setCell {M : Nat → Prop} {A B : World} (h : Free M A B) {p : Addr} (hp : M p.block) (v : Value) : Free M A (B.setCell p v) := by
  refine ⟨h.os, h.tape, h.output, by simpa using h.size, fun k hk hn => ?_⟩
  rw [RowKit.Below.heap_setCell _ _ _ _ (show k ≠ p.block from fun e => hn (by rw [e]; exact hp))]
  exact h.block k hk hn
theorem free_drew {M : Nat → Prop} {A B : World} (h : Free M A B) : Free M A B.drew := ⟨h.os, h.tape, h.output, h.size, h.block⟩
theorem free_of {M : Nat → Prop} {A B : World} (h : Below A.heap.size A B) : Free M A B := ⟨h.os, h.tape, h.output, h.size, fun k hk _ => h.block k hk⟩
theorem free_below {M : Nat → Prop} {A B : World} {C : Nat} (h : Free M A B) (hC : C ≤ A.heap.size) (hM : ∀ k, M k → C ≤ k) : Below C A B := ⟨h.os, h.tape, h.output, h.size, fun k hk => h.block k (by omega) (fun hm => by have := hM k hm; omega)⟩

def findGives (N ub : Nat) (rt d : Nat → Nat) (n0 : Nat) (w : World) (e : Ending) (w' : World) : Prop := ∃ up', e = .returned (.int .i64 (rt n0)) ∧ Gu.Uf N up' rt d ∧ Arr w' ub N up' ∧ Free (fun b => b = ub) w w'

set_option maxHeartbeats 4000000 in
set_option maxRecDepth 100000 in
theorem find_any (N M ub cu n0 : Nat) (up rt d : Nat → Nat) (w : World) (hU : Gu.Uf N up rt d) (hA : Arr w ub N up) (hm : w.cell? ⟨M, 5, none⟩ = some (.slice (some ⟨ub, 0, none⟩) N cu)) (hM : M < w.heap.size) (hMu : M ≠ ub) (hn0 : n0 < N) :
    Calls Tryd.prog 44 #[.pointer (some ⟨M, 0, none⟩), .int .i64 n0] w (findGives N ub rt d n0 w) := by
  have H := Lib.hid (And.intro hU (And.intro hA (And.intro hm (And.intro hMu hn0))))
  have hub := hA.lt
  clear hU hA hm hMu
  go_enter Tryd.func44, Tryd.ntmps44
  go_wp2_with fail
  go_loopg [1] (d n0) (fun gk i wr => ∃ n up', gk = d n ∧ n < N ∧ i = .int .i64 n ∧ rt n = rt n0 ∧ Gu.Uf N up' rt d ∧ Arr wr ub N up' ∧ Free (fun b => b = ub) w wr)
  case atStart => exact ⟨n0, up, rfl, hn0, rfl, rfl, H.out.1, H.out.2.1, Free.refl _ _⟩
  case round =>
    obtain ⟨n, up', rfl, hn, rfl, hrt, hU, hA, hF⟩ := hrel
    have sf := hF.size
    have q5 : wr.cell? ⟨M, 5, none⟩ = some (.slice (some ⟨ub, 0, none⟩) N cu) := by
      have hb := hF.block M hM H.out.2.2.2.1
      have := H.out.2.2.1
      unfold World.cell? at this ⊢
      simp only at this ⊢
      rw [hb]; exact this
    have hMw : M < wr.heap.size := by omega
    have hubw : ub < wr.heap.size := by omega
    have a1 := hA.cell hn
    have f1 := hA.frozen n
    have hu1 := hU.lt n hn
    have a2 := hA.cell hu1
    have hn' : (n : Int) < (N : Int) := by omega
    have R := Lib.hid (And.intro hrt (And.intro hU (And.intro hA hF)))
    clear hrt hU hA hF
    obtain ⟨u1, hu⟩ : ∃ u, up' n = u := ⟨_, rfl⟩
    rw [hu] at a1 a2 hu1
    obtain ⟨u2, huu⟩ : ∃ u, up' u1 = u := ⟨_, rfl⟩
    rw [huu] at a2
    have HU := Lib.hid (And.intro hu huu)
    clear hu huu
    have hu1' : (u1 : Int) < (N : Int) := by omega
    by_cases he : u1 = n
    · subst he
      clear f1 a2
      have z : ((u1 : Int) != (u1 : Int)) = false := by simp
      go_wp2_with fail
      go_ret
      have hr : rt u1 = u1 := R.out.2.1.stop u1 hn HU.out.1
      exact ⟨up', by rw [← R.out.1, hr]; rfl, R.out.2.1, R.out.2.2.1, R.out.2.2.2⟩
    · have z : ((u1 : Int) != (n : Int)) = true := by simpa using fun h : (u1 : Int) = n => he (by omega)
      go_wp2_with fail
      go_region
      obtain ⟨W2, hW2⟩ : ∃ W2, (wr.setCell ⟨ub, n, none⟩ (.int .i64 u2)).drew = W2 := ⟨_, rfl⟩
      rw [hW2]
      have hA2 : Arr W2 ub N (Gu.put up' n (up' (up' n))) := by rw [← hW2, HU.out.1, HU.out.2]; exact (R.out.2.2.1.set n u2).drew
      have hF2 : Free (fun b => b = ub) w W2 := by rw [← hW2]; exact free_drew (free_setCell R.out.2.2.2 (p := ⟨ub, n, none⟩) rfl _)
      have sf2 := hF2.size
      have hU2 := R.out.2.1.halve hn
      have q52 : W2.cell? ⟨M, 5, none⟩ = some (.slice (some ⟨ub, 0, none⟩) N cu) := by
        have hb := hF2.block M hM H.out.2.2.2.1
        have := H.out.2.2.1
        unfold World.cell? at this ⊢
        simp only at this ⊢
        rw [hb]; exact this
      have a12 : W2.cell? ⟨ub, n, none⟩ = some (.int .i64 u2) := by
        have := hA2.cell hn
        rw [this]; unfold Gu.put; rw [if_pos rfl, HU.out.1, HU.out.2]
      have R2 := Lib.hid (And.intro hA2 (And.intro hF2 hU2))
      clear hA2 hF2 hU2 hW2 a1 a2 q5 f1
      go_wp2_with fail
      have hlt2 : d u2 < d n := by
        have h1 := R.out.2.1.less n hn (by rw [HU.out.1]; exact he)
        rw [HU.out.1] at h1
        by_cases e : u2 = u1
        · rw [e]; exact h1
        · have h2 := R.out.2.1.less u1 hu1 (by rw [HU.out.2]; exact e)
          rw [HU.out.2] at h2; omega
      have hu2 : u2 < N := by rw [← HU.out.2]; exact R.out.2.1.lt u1 hu1
      have hrt2 : rt u2 = rt n0 := by
        rw [← HU.out.2, R.out.2.1.same u1 hu1, ← HU.out.1, R.out.2.1.same n hn]; exact R.out.1
      go_roundg (d u2)
      case measure => exact hlt2
      case rel => exact ⟨u2, _, rfl, hu2, rfl, hrt2, R2.out.2.2, R2.out.1, R2.out.2.1⟩

/-- The parents as they are now, since a world. -/
def Ust (N ub : Nat) (rt : Nat → Nat) (W V : World) : Prop := ∃ up d, Gu.Uf N up rt d ∧ Arr V ub N up ∧ Free (fun b => b = ub) W V
theorem Ust.drew {N ub : Nat} {rt : Nat → Nat} {W V : World} (h : Ust N ub rt W V) : Ust N ub rt W V.drew := by
  obtain ⟨up, d, h1, h2, h3⟩ := h
  exact ⟨up, d, h1, h2.drew, free_drew h3⟩
theorem Ust.drewN {N ub : Nat} {rt : Nat → Nat} {W V : World} (h : Ust N ub rt W V) (n : Nat) : Ust N ub rt W (V.drewN n) := by
  obtain ⟨up, d, h1, h2, h3⟩ := h
  exact ⟨up, d, h1, h2.of rfl, ⟨h3.os, h3.tape, h3.output, h3.size, h3.block⟩⟩
theorem Ust.alloc {N ub : Nat} {rt : Nat → Nat} {W V : World} (h : Ust N ub rt W V) (o : Obj) : Ust N ub rt W (V.alloc o) := by
  obtain ⟨up, d, h1, h2, h3⟩ := h
  exact ⟨up, d, h1, h2.of (heap_old h2.lt), h3.alloc o⟩
theorem Ust.free {N ub : Nat} {rt : Nat → Nat} {W V : World} (h : Ust N ub rt W V) : Free (fun b => b = ub) W V := by
  obtain ⟨up, d, h1, h2, h3⟩ := h; exact h3
theorem Ust.cell {N ub : Nat} {rt : Nat → Nat} {W V : World} (h : Ust N ub rt W V) {b o : Nat} {v : Value} (hb : b < W.heap.size) (hn : b ≠ ub) (hc : W.cell? ⟨b, o, none⟩ = some v) : V.cell? ⟨b, o, none⟩ = some v := by
  have hb := h.free.block b hb hn
  unfold World.cell? at hc ⊢
  simp only at hc ⊢
  rw [hb]; exact hc
theorem find_u (N M ub cu n0 : Nat) (rt : Nat → Nat) (W V : World) (h : Ust N ub rt W V) (hm : W.cell? ⟨M, 5, none⟩ = some (.slice (some ⟨ub, 0, none⟩) N cu)) (hM : M < W.heap.size) (hMu : M ≠ ub) (hn0 : n0 < N) :
    Calls Tryd.prog 44 #[.pointer (some ⟨M, 0, none⟩), .int .i64 n0] V fun e w' => e = .returned (.int .i64 (rt n0)) ∧ Ust N ub rt W w' := by
  have hm' := h.cell hM hMu hm
  have hF := h.free
  obtain ⟨up, d, h1, h2, h3⟩ := h
  refine (find_any N M ub cu n0 up rt d V h1 h2 hm' (by have := hF.size; omega) hMu hn0).mono ?_
  rintro e w' ⟨up', rfl, k1, k2, k3⟩
  exact ⟨rfl, up', d, k1, k2, h3.trans k3⟩
end Go.Proofs.YtkbmkmpoapafaaaDoor
