/- gen.reached told. -/
import Derived.Test.YtkbmkmpoapafaaaDoorMa
import Derived.Test.YtkbmkmpoapafaaaDoorGy
import Derived.Test.YtkbmkmpoapafaaaDoorGk
namespace Go.Proofs.YtkbmkmpoapafaaaDoor
open Go.ChangeShapes Go.WideShapes Go.ChangeAt Go.RowKit

theorem nums_args {G : List GN} {r : Int} (hok : checkG G r = 0) {q : Nat} (hq : q < G.length) : numsI G[q].args = nums (argsOf G q) := by
  rw [argsOf_eq hq]
  exact numsI_nat fun a ha => (args_fit hok hq a ha).1
set_option linter.unusedSimpArgs false in
set_option maxHeartbeats 4000000 in
set_option maxRecDepth 100000 in
theorem reached_puts (S : Nat → Prop) (vg : Value) (r : Int) (G : List GN) (n B gb : Nat) (w : World) (hG : GrAt w S vg G) (hS : ∀ b, S b → b < w.heap.size) (hn : G.length = n) (hok : checkG G r = 0) (aG : ∀ x ∈ G, x.args.length ≤ 2000) (hb : w.heap[gb]? = some (.cells #[vg, .int .i64 r] 24)) :
    Puts 47 B n (argsOf G) gb w := by
  intro W v t q hW hown hBW hq ht
  obtain ⟨xg, cg, gg, og, rfl, hxg, hng⟩ := hG.open_
  obtain ⟨rfl, hgc, hgx, hSg⟩ := hxg (by omega)
  obtain ⟨va, vl, hgn⟩ := hng q (by omega)
  have hgw := hS gg hSg
  obtain ⟨ga, oa, hsl, hcell⟩ := nums_sl hgn.ha
  rw [nums_args hok (by omega)] at hcell
  have hal : G[q].args.length ≤ 2000 := aG _ (List.getElem_mem _)
  have hlen : (argsOf G q).length = G[q].args.length := by rw [argsOf_eq (by omega), List.length_map]
  rw [hlen]
  obtain ⟨na, hna⟩ : ∃ n, G[q].args.length = n := ⟨_, rfl⟩
  obtain ⟨xa, ca, ga', oa', rfl, -, -⟩ := hgn.ha.open_
  have c2 := (World.cell?_of_block (a := ⟨gg, og + q * 5 + 2, none⟩) (hW.block gg hgw)).trans hgn.c2
  have c0 := Lib.cell_of_heap ((hW.block gb (Array.getElem?_eq_some_iff.1 hb).1).trans hb) 0
  simp only [List.getElem?_toArray, List.getElem?_cons_zero, List.getElem?_cons_succ] at c0
  rw [hna] at hlen hal hsl c2 ⊢
  rw [hn] at hgc c0
  obtain ⟨xv, cv, rfl⟩ := own_shape hown
  obtain ⟨i0, hi, hz0, hz1, hz2⟩ := info_parts intInfo
  obtain ⟨m, hm⟩ : ∃ m, t.length = m := ⟨_, rfl⟩
  rw [hm] at hown ht ⊢
  have H1A : Hid (∀ u ∈ nums (argsOf G q), u.oneCell' = true) := Lib.hid fun u hu => by
    obtain ⟨a, _, rfl⟩ := List.mem_map.1 (show u ∈ (argsOf G q).map (fun i : Nat => Value.int .i64 (i : Int)) from hu)
    rfl
  have HLEN : Hid ((nums (argsOf G q)).length = na * 1) := Lib.hid (by rw [nums_length, hlen]; omega)
  have HS := Lib.hid (And.intro hsl (And.intro (cells_carry hcell hW) hown))
  have hqn' : (q : Int) < (n : Int) := by omega
  have hgW : gg < W.heap.size := by have := hW.size; omega
  have hgbW : gb < W.heap.size := by have := hW.size; have := (Array.getElem?_eq_some_iff.1 hb).1; omega
  unfold maxLen at hgx
  obtain ⟨xo, hxo⟩ : ∃ o, og + q * 5 = o := ⟨_, rfl⟩
  rw [hxo] at c2
  clear hxg hng hgn hsl hcell hown hb hS hG hW hok aG hm hna hlen
  go_enter Tryd.func47, Tryd.ntmps47
  go_wp2_with (at_builtin; (refine wpList_append_sl rfl (.tmp 6) (.tmp 12) _ rfl B 3 i0 _ 1 8 Tryd.underlying32 hi hz0 hz1 hz2 rfl (by decide) (.slice xv m cv) m (nums t) rfl HS.out.2.2 S (.slice xa na ca) na ga oa rfl HS.out.1 (nums (argsOf G q)) HLEN.out HS.out.2.1 H1A.out (by unfold maxLen; omega) (by omega) hBW ?_); (intro v4 w4 hown4 hg4 hat4); (obtain ⟨x4, c4, v4e⟩ := own_shape hown4); subst v4e; (have H4 := Lib.hid (And.intro hown4 hg4)); clear hown4 hg4 hat4)
  go_ret
  exact ⟨x4, c4, rfl, by rw [nums_append]; exact H4.out.1, H4.out.2⟩

/-- What some nodes reach is told. -/
def RchGives (nx : Nat → List Nat) (F : List Nat) (n : Nat) (w : World) (e : Ending) (w' : World) : Prop := ∃ b f, e = .returned (.slice (some ⟨b, 0, none⟩) n n) ∧ w.heap.size ≤ b ∧ MetR w' b n f ∧ (∀ i, i < n → (f i = true ↔ Gu.Rch nx F i)) ∧ Below w.heap.size w w'
set_option linter.unusedSimpArgs false in
set_option maxHeartbeats 4000000 in
set_option maxRecDepth 100000 in
theorem reached_any (S : Nat → Prop) (vg vf : Value) (r : Int) (G : List GN) (l : List Int) (w : World) (hG : GrAt w S vg G) (hf : Nums w S vf l) (hS : ∀ b, S b → b < w.heap.size) (hok : checkG G r = 0) (lG : G.length ≤ 2000) (aG : ∀ x ∈ G, x.args.length ≤ 2000) (hl : ∀ a ∈ l, 0 ≤ a ∧ a < (G.length : Int)) (hll : l.length ≤ 3000) :
    Calls Tryd.prog 33 #[.agg #[vg, .int .i64 r], vf] w (RchGives (argsOf G) (l.map Int.toNat) G.length w) := by
  obtain ⟨xg, cg, gg, og, rfl, -, -⟩ := hG.open_
  obtain ⟨xf, cf, gf, of_, rfl, -, -⟩ := hf.open_
  obtain ⟨W1, hW1⟩ : ∃ W1, w.alloc (.cells #[.slice xg G.length cg, .int .i64 r] 24) = W1 := ⟨_, rfl⟩
  have B1 : Below w.heap.size w W1 := by rw [← hW1]; exact (Below.refl _ _).alloc (Nat.le_refl _) _
  have s1 : W1.heap.size = w.heap.size + 1 := by rw [← hW1]; simp
  have b1 : W1.heap[w.heap.size]? = some (.cells #[.slice xg G.length cg, .int .i64 r] 24) := by rw [← hW1]; exact heap_last rfl
  have hS1 : ∀ b, S b → b < W1.heap.size := fun b hb => by have := hS b hb; omega
  have hG1 := hG.carry (keeps_of B1 hS) fun _ h => h
  have C1 := Lib.hid (marked_reached S (argsOf G) G.length w.heap.size (.slice xf l.length cf) l W1 (hf.carry (keeps_of B1 hS) fun _ h => h) hl lG hll (fun i hi => args_lt hok hi) (fun i hi => by rw [argsOf_eq hi, List.length_map]; exact aG _ (List.getElem_mem hi)) hS1 (reached_puts S _ r G G.length _ w.heap.size W1 hG1 hS1 rfl hok aG b1))
  have c0 := Lib.cell_of_heap b1 0
  simp only [List.getElem?_toArray, List.getElem?_cons_zero, List.getElem?_cons_succ] at c0
  obtain ⟨n, hn⟩ : ∃ n, G.length = n := ⟨_, rfl⟩
  obtain ⟨m, hm⟩ : ∃ n, l.length = n := ⟨_, rfl⟩
  obtain ⟨F, hF⟩ : ∃ F, l.map Int.toNat = F := ⟨_, rfl⟩
  rw [hn] at C1 c0 hW1 ⊢
  rw [hm] at C1 ⊢
  rw [hF] at C1 ⊢
  have HB := Lib.hid (And.intro B1 s1)
  have HW1 := Lib.hid hW1
  have hlt : w.heap.size < W1.heap.size := by omega
  clear hG hf hS hok lG aG hl hll b1 hS1 hG1 hn hm hF B1 s1 hW1
  go_enter Tryd.func33, Tryd.ntmps33
  go_wp2_with fail
  rw [HW1.out]
  refine C1.out.mono ?_
  rintro e2 W2 ⟨f, rfl, hM, hf, hB2⟩
  have H2 := Lib.hid (And.intro hM (And.intro hf hB2))
  clear hM hf hB2 C1 HW1
  go_wp2_with fail
  go_ret
  exact ⟨W1.heap.size, f, rfl, by have := HB.out.2; omega, H2.out.1, H2.out.2.1, HB.out.1.trans (H2.out.2.2.mono HB.out.1.size)⟩
end Go.Proofs.YtkbmkmpoapafaaaDoor
