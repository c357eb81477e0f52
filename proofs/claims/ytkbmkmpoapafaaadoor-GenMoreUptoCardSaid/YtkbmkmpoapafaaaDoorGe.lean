/- gen.generic, gen.Fixed, gen.Generic told. -/
import Derived.Test.YtkbmkmpoapafaaaDoorGn
namespace Go.Proofs.YtkbmkmpoapafaaaDoor
open Go.ChangeShapes Go.WideShapes Go.ChangeAt Go.RowKit

/-- Is a node reached from these? -/
noncomputable def rchB (nx : Nat → List Nat) (F : List Nat) (i : Nat) : Bool := @decide (Gu.Rch nx F i) (Classical.propDecidable _)
theorem rchB_iff {nx : Nat → List Nat} {F : List Nat} {i : Nat} : rchB nx F i = true ↔ Gu.Rch nx F i := by
  unfold rchB
  exact @decide_eq_true_iff _ (Classical.propDecidable _)
theorem rchB_of {nx : Nat → List Nat} {F : List Nat} {f : Nat → Bool} {i : Nat} (h : f i = true ↔ Gu.Rch nx F i) : f i = rchB nx F i := by
  rw [Bool.eq_iff_iff, h, rchB_iff]
/-- The fixed ones, the generic ones, of a graph that may be. -/
noncomputable def fixF (G : List GN) (l : List Int) : List Nat := freeL G (rchB (argsOf G) (l.map Int.toNat))
noncomputable def genF (G : List GN) (r : Int) (l : List Int) : List Nat := freeL G fun i => rchB (argsOf G) [r.toNat] i && !rchB (argsOf G) (l.map Int.toNat) i
noncomputable def fixG (G : List GN) (r : Int) (l : List Int) : List Nat := if genC G r l = 0 then fixF G l else []
noncomputable def genG (G : List GN) (r : Int) (l : List Int) : List Nat := if genC G r l = 0 then genF G r l else []
/-- A row of numbers of one's own is handed back. -/
def RowGives (L : List Nat) (w : World) (e : Ending) (w' : World) : Prop := ∃ x c, e = .returned (.slice x L.length c) ∧ w'.ownsRow w.heap.size 3 1 (.slice x L.length c) L.length (nums L) ∧ Below w.heap.size w w'
set_option linter.unusedSimpArgs false in
set_option maxHeartbeats 4000000 in
set_option maxRecDepth 100000 in
theorem generic_any (S : Nat → Prop) (vg vf : Value) (r : Int) (G : List GN) (l : List Int) (w : World) (hG : GrAt w S vg G) (hf : Nums w S vf l) (hS : ∀ b, S b → b < w.heap.size) (hok : checkG G r = 0) (lG : G.length ≤ 2000) (aG : ∀ x ∈ G, x.args.length ≤ 2000) (hl : ∀ a ∈ l, 0 ≤ a ∧ a < (G.length : Int)) (hll : l.length ≤ 3000) :
    Calls Tryd.prog 25 #[.agg #[vg, .int .i64 r], vf] w (RowGives (genF G r l) w) := by
  obtain ⟨xg, cg, gg, og, rfl, -, -⟩ := hG.open_
  obtain ⟨xf, cf, gf, of_, rfl, -, -⟩ := hf.open_
  have hin := inside_iff.1 (checkG_ok.1 hok).2.1
  obtain ⟨n, en⟩ : ∃ n, G.length = n := ⟨_, rfl⟩
  obtain ⟨m, em⟩ : ∃ n, l.length = n := ⟨_, rfl⟩
  obtain ⟨W1, hW1⟩ : ∃ W1, w.alloc (.cells #[.slice xg n cg, .int .i64 r] 24) = W1 := ⟨_, rfl⟩
  have B1 : Below w.heap.size w W1 := by rw [← hW1]; exact (Below.refl _ _).alloc (Nat.le_refl _) _
  have s1 : W1.heap.size = w.heap.size + 1 := by rw [← hW1]; simp
  have b1 : W1.heap[w.heap.size]? = some (.cells #[.slice xg n cg, .int .i64 r] 24) := by rw [← hW1]; exact heap_last rfl
  have X : Hid (∀ V, Below W1.heap.size W1 V → GrAt V S (.slice xg n cg) G ∧ Nums V S (.slice xf m cf) l ∧ (∀ b, S b → b < V.heap.size) ∧ V.heap[w.heap.size]? = some (.cells #[.slice xg n cg, .int .i64 r] 24) ∧ w.heap.size < V.heap.size ∧ Below w.heap.size w V) := Lib.hid fun V hV => by
    have hB := B1.trans (hV.mono (by omega))
    have hs := hV.size
    rw [← en, ← em]
    exact ⟨hG.carry (keeps_of hB hS) fun _ h => h, hf.carry (keeps_of hB hS) fun _ h => h, fun b hb => Nat.lt_of_lt_of_le (hS b hb) hB.size, by rw [en]; exact (hV.block _ (by omega)).trans b1, by omega, hB⟩
  have x := X.out W1 (Below.refl _ _)
  have C1 := Lib.hid (reached_any S (.slice xg n cg) (.slice xf m cf) r G l W1 x.1 x.2.1 x.2.2.1 hok lG aG hl hll)
  have a0 := Lib.cell_of_heap b1 0
  have a1 := Lib.cell_of_heap b1 1
  simp only [List.getElem?_toArray, List.getElem?_cons_zero, List.getElem?_cons_succ] at a0 a1
  have hlt1 : w.heap.size < W1.heap.size := by omega
  rw [en, em]
  have H := Lib.hid (And.intro hok (And.intro lG (And.intro aG (And.intro en em))))
  have HW1 := Lib.hid hW1
  have HS1 := Lib.hid s1
  clear hG hf hS hok aG hl hll B1 s1 b1 hW1 x
  go_enter Tryd.func25, Tryd.ntmps25
  go_wp2_with fail
  rw [HW1.out]
  refine C1.out.mono ?_
  rintro e2 W2 ⟨bf, ff, rfl, hbf, hMf, hff, hB2⟩
  rw [H.out.2.2.2.1] at hMf hff ⊢
  have s2 := hB2.size
  have x := X.out W2 hB2
  clear a0 a1
  have a0 := Lib.cell_of_heap x.2.2.2.1 0
  have a1 := Lib.cell_of_heap x.2.2.2.1 1
  simp only [List.getElem?_toArray, List.getElem?_cons_zero, List.getElem?_cons_succ] at a0 a1
  obtain ⟨W3, hW3⟩ : ∃ W3, W2.alloc (.cells #[.int .i64 r] 3) = W3 := ⟨_, rfl⟩
  have B3 : Below W2.heap.size W2 W3 := by rw [← hW3]; exact (Below.refl _ _).alloc (Nat.le_refl _) _
  have s3 : W3.heap.size = W2.heap.size + 1 := by rw [← hW3]; simp
  have r3 : W3.heap[W2.heap.size]? = some (.cells #[.int .i64 r] 3) := by rw [← hW3]; exact heap_last rfl
  have HB3 : Hid (Below W1.heap.size W1 W3) := Lib.hid (hB2.trans (B3.mono hB2.size))
  have x3 := X.out W3 HB3.out
  have N3 : Nums W3 (fun b => b < W3.heap.size) (.slice (some ⟨W2.heap.size, 0, none⟩) 1 1) [r] := ⟨W2.heap.size, 0, .inr ⟨1, rfl, Nat.le_refl _, by decide, by omega⟩, fun i hi => by
    obtain rfl : i = 0 := by simpa using hi
    exact (Lib.cell_of_heap r3 _).trans rfl⟩
  have C2 := Lib.hid (reached_any (fun b => b < W3.heap.size) (.slice xg n cg) (.slice (some ⟨W2.heap.size, 0, none⟩) 1 1) r G [r] W3 (x3.1.carry (fun _ _ => rfl) x3.2.2.1) N3 (fun _ h => h) H.out.1 H.out.2.1 H.out.2.2.1 (fun a ha => by rw [List.mem_singleton.1 ha]; exact hin) (by simp))
  have HM2 := Lib.hid (And.intro hMf (And.intro hff hB2))
  have HW3 := Lib.hid (And.intro hW3 s3)
  have hww2 := x.2.2.2.2.1
  clear C1 HW1 hMf hff hB2 x hW3 B3 r3 x3 N3 s3
  go_wp2_with fail
  rw [HW3.out.1]
  refine C2.out.mono ?_
  rintro e4 W4 ⟨bo, fo, rfl, hbo, hMo, hfo, hB4⟩
  rw [H.out.2.2.2.1] at hMo hfo ⊢
  have s4 := hB4.size
  have hs3 := HW3.out.2
  have hBfo : bf < W2.heap.size := HM2.out.1.lt
  have HM4 := Lib.hid (And.intro hMo (And.intro hfo (HB3.out.trans (hB4.mono HB3.out.size))))
  have HMF4 := Lib.hid ((HM2.out.1.of ((by rw [← HW3.out.1]; exact heap_old HM2.out.1.lt : W3.heap[bf]? = W2.heap[bf]?))).of (hB4.block bf (by omega)))
  have hne : bf ≠ bo := by omega
  have hbo1 : W1.heap.size ≤ bo := by omega
  clear C2 a0 a1 hMo hfo hB4 hww2
  go_wp2_with fail
  go_loopg [18] n (fun gk i wr => ∃ (j : Nat) (g : Nat → Bool), gk = n - j ∧ i = .int .i64 (j : Int) ∧ j ≤ n ∧ MetR wr bo n g ∧ MetR wr bf n ff ∧ (∀ i, i < n → g i = if i < j then fo i && !ff i else fo i) ∧ Below W1.heap.size W1 wr)
  case atStart => exact ⟨0, fo, by simp, by first | rfl | simp, Nat.zero_le _, HM4.out.1, HMF4.out, fun i _ => by simp, HM4.out.2.2⟩
  case round =>
    obtain ⟨j, g, rfl, rfl, hj, hMg, hMf, hg, hB⟩ := hrel
    obtain ⟨wz, rfl⟩ : ∃ wz, wz = wr := ⟨_, rfl⟩
    by_cases hlt : j < n
    · have hi' : (j : Int) < (n : Int) := by omega
      have e1 := hMg.cell hlt
      have f1 := hMg.frozen j
      have e2 := hMf.cell hlt
      rw [hg j hlt, if_neg (Nat.lt_irrefl _)] at e1
      have l1 := hMg.lt
      have l2 := hMf.lt
      have HR := Lib.hid (And.intro hMg (And.intro hMf (And.intro hg hB)))
      obtain ⟨p, hp⟩ : ∃ p, fo j = p := ⟨_, rfl⟩
      obtain ⟨q, hq⟩ : ∃ q, ff j = q := ⟨_, rfl⟩
      rw [hp] at e1
      rw [hq] at e2
      have HPQ := Lib.hid (And.intro hp hq)
      clear hMg hMf hg hB hp hq
      have key : Hid (∀ v, v = (p && !q) → ∃ (j' : Nat) (g' : Nat → Bool), n - (j + 1) = n - j' ∧ (Value.int .i64 ((j : Int) + 1)) = .int .i64 (j' : Int) ∧ j' ≤ n ∧ MetR (wz.setCell ⟨bo, j, none⟩ (.bool v)) bo n g' ∧ MetR (wz.setCell ⟨bo, j, none⟩ (.bool v)) bf n ff ∧ (∀ i, i < n → g' i = if i < j' then fo i && !ff i else fo i) ∧ Below W1.heap.size W1 (wz.setCell ⟨bo, j, none⟩ (.bool v))) := Lib.hid fun v hv => by
        obtain ⟨hMg, hMf, hg, hB⟩ := HR.out
        obtain ⟨hp, hq⟩ := HPQ.out
        refine ⟨j + 1, _, rfl, by first | rfl | simp, hlt, hMg.put hlt v, hMf.of (heap_setCell_other _ ⟨bo, j, none⟩ bf _ hne), fun i hi => ?_, hB.setCell (p := ⟨bo, j, none⟩) hbo1 _⟩
        by_cases e : i = j
        · subst e
          show (if i = i then v else g i) = _
          rw [if_pos rfl, if_pos (Nat.lt_succ_self _), hv, hp, hq]
        · show (if i = j then v else g i) = _
          rw [if_neg e, hg i hi]
          by_cases h : i < j
          · rw [if_pos h, if_pos (by omega)]
          · rw [if_neg h, if_neg (by omega)]
      cases p <;> cases q
      all_goals
        go_wp2_with fail
        go_roundg (n - (j + 1))
        case measure => omega
        case rel => exact key.out _ rfl
    · have hi' : ¬ (j : Int) < (n : Int) := by omega
      obtain rfl : j = n := by omega
      have x := X.out wz hB
      have a0 := Lib.cell_of_heap x.2.2.2.1 0
      have a1 := Lib.cell_of_heap x.2.2.2.1 1
      simp only [List.getElem?_toArray, List.getElem?_cons_zero, List.getElem?_cons_succ] at a0 a1
      have hgen : freeL G g = genF G r l := by
        unfold genF
        refine freeL_congr fun i hi => ?_
        rw [H.out.2.2.2.1] at hi
        rw [hg i hi, if_pos hi, rchB_of (HM4.out.2.1 i hi), rchB_of (HM2.out.2.1 i hi)]
        rfl
      have CF := genfree_any S (.slice xg j cg) r G bo g wz x.1 x.2.2.1 (by rw [H.out.2.2.2.1]; exact hMg) H.out.2.1
      rw [H.out.2.2.2.1, hgen] at CF
      have HCF := Lib.hid CF
      have HX := Lib.hid x.2.2.2.2.2
      have hww := x.2.2.2.2.1
      clear hMg hMf hg hB CF hgen x
      go_wp2_with fail
      refine HCF.out.mono ?_
      rintro e5 W5 ⟨x5, c5, rfl, h5, hB5⟩
      have H5 := Lib.hid (And.intro h5 hB5)
      clear h5 hB5 HCF a0 a1
      go_wp2_with fail
      go_ret
      have := HX.out.size
      exact ⟨x5, c5, rfl, own_base H5.out.1 this, HX.out.trans (H5.out.2.mono this)⟩
end Go.Proofs.YtkbmkmpoapafaaaDoor
