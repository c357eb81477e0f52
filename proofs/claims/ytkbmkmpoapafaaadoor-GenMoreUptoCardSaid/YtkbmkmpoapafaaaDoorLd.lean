/- gen.leading told. -/
import Derived.Test.YtkbmkmpoapafaaaDoorMa
import Derived.Test.YtkbmkmpoapafaaaDoorRa
import Derived.Test.YtkbmkmpoapafaaaDoorTm
import Derived.Deep.RegionLaw
namespace Go.Proofs.YtkbmkmpoapafaaaDoor
open Go.ChangeShapes Go.WideShapes Go.ChangeAt Go.RowKit

theorem sliceInfo : (Tryd.prog.info? 32).map (fun i => (i.zero, i.size, i.bytes)) = some (some (.slice none 0 0), 1, 24) := by kernel_rfl
/-- Rows of numbers of one's own, apart. -/
def RowsN (W : World) (B rb n : Nat) (F : Nat → List Nat) : Prop := ∃ (cs : Array Value) (T : TypeId), W.heap[rb]? = some (.cells cs T) ∧ ∀ j, j < n → ∃ v, cs[j]? = some v ∧ W.ownsRow B 3 1 v (F j).length (nums (F j)) ∧ ∀ j' v', j' < n → j' ≠ j → cs[j']? = some v' → ∀ q, v.ownBlock = some q → v'.ownBlock ≠ some q
theorem RowsN.of {W W' : World} {B rb n : Nat} {F : Nat → List Nat} (h : RowsN W B rb n F) (h0 : W'.heap[rb]? = W.heap[rb]?) (hk : ∀ b, B ≤ b → b < W.heap.size → W'.heap[b]? = W.heap[b]?) : RowsN W' B rb n F := by
  obtain ⟨cs, T, h1, h2⟩ := h
  refine ⟨cs, T, h0.trans h1, fun j hj => ?_⟩
  obtain ⟨v, g1, g2, g3⟩ := h2 j hj
  exact ⟨v, g1, own_same g2 fun q hq => hk q (g2.lt q hq).1 (g2.lt q hq).2, g3⟩
/-- A number is put behind one of the rows. -/
theorem RowsN.push {wz w5 : World} {o : Obj} {B rb n a x m : Nat} {F : Nat → List Nat} {v v' : Value} (h : RowsN wz B rb n F) (ha : a < n) (hv : wz.cell? ⟨rb, a, none⟩ = some v) (hrb : rb < B) (hBz : B ≤ wz.heap.size) (hg : ((wz.alloc o).drew).grownBy w5 v.ownBlock) (hm : (F a).length = m) (hown : w5.ownsRow B 3 1 v' (m + 1) (nums (F a) ++ nums [x])) (hat : v'.ownBlock = v.ownBlock ∨ ∃ q, v'.ownBlock = some q ∧ wz.heap.size ≤ q) :
    RowsN (w5.setCell ⟨rb, a, none⟩ v') B rb n (fun j => if j = a then F a ++ [x] else F j) := by
  obtain ⟨cs, T, h1, h2⟩ := h
  obtain ⟨v0, g1, g2, g3⟩ := h2 a ha
  rw [Lib.cell_of_heap h1, g1] at hv
  obtain rfl := Option.some.inj hv
  have s5 := hg.size
  rw [World.size_drew, World.size_alloc] at s5
  have hrz : rb < wz.heap.size := by omega
  have k5 : ∀ q, q < wz.heap.size → v0.ownBlock ≠ some q → w5.heap[q]? = wz.heap[q]? := fun q hq hn => by
    rw [hg.block q (by rw [World.size_drew, World.size_alloc]; omega) (fun h => hn h.symm)]
    exact heap_old hq
  have hr5 : w5.heap[rb]? = some (.cells cs T) := (k5 rb hrz (fun h => by have := (g2.lt rb h).1; omega)).trans h1
  have k9 : ∀ q, q ≠ rb → (w5.setCell ⟨rb, a, none⟩ v').heap[q]? = w5.heap[q]? := fun q hq => heap_setCell_other _ ⟨rb, a, none⟩ q _ hq
  have hca : a < cs.size := (Array.getElem?_eq_some_iff.1 g1).1
  refine ⟨_, T, heap_setCell_same _ rb a _ _ v' hr5, fun j hj => ?_⟩
  by_cases e : j = a
  · subst e
    refine ⟨v', by rw [Array.getElem?_setIfInBounds, if_pos rfl, if_pos hca], ?_, fun j' v2 hj' hne hc q hq hq2 => ?_⟩
    · simp only [if_true]
      rw [nums_append, List.length_append, hm]
      exact own_same hown fun q hq => k9 q (by have := (hown.lt q hq).1; omega)
    · rw [Array.getElem?_setIfInBounds, if_neg (fun h => hne h.symm)] at hc
      obtain ⟨v3, c1, c2, c3⟩ := h2 j' hj'
      rw [c1] at hc
      obtain rfl := Option.some.inj hc
      rcases hat with h | ⟨q', h, hq'⟩
      · exact g3 j' v3 hj' hne c1 q (h ▸ hq) hq2
      · rw [h] at hq
        have := Option.some.inj hq
        have := (c2.lt q hq2).2
        omega
  · obtain ⟨v3, c1, c2, c3⟩ := h2 j hj
    have hd : ∀ q, v3.ownBlock = some q → v0.ownBlock ≠ some q := fun q hq => c3 a v0 ha (fun h => e h.symm) g1 q hq
    refine ⟨v3, by rw [Array.getElem?_setIfInBounds, if_neg (fun h => e h.symm)]; exact c1, ?_, fun j' v2 hj' hne hc q hq hq2 => ?_⟩
    · simp only [if_neg e]
      exact own_same c2 fun q hq => (k9 q (by have := (c2.lt q hq).1; omega)).trans (k5 q (c2.lt q hq).2 (hd q hq))
    · rw [Array.getElem?_setIfInBounds] at hc
      by_cases e2 : a = j'
      · subst e2
        rw [if_pos rfl, if_pos hca] at hc
        obtain rfl := Option.some.inj hc
        rcases hat with h | ⟨q', h, hq'⟩
        · exact hd q hq (h ▸ hq2)
        · rw [h] at hq2
          have := Option.some.inj hq2
          have := (c2.lt q hq).2
          omega
      · rw [if_neg e2] at hc
        exact c3 j' v2 hj' hne hc q hq hq2
theorem own_sl {W : World} {B : Nat} {e : TypeId} {v : Value} {L : List Nat} (h : W.ownsRow B e 1 v L.length (nums L)) : ∃ g, Sl (fun b => B ≤ b ∧ b < W.heap.size) v L.length g 0 ∧ ∀ j u, (nums L)[j]? = some u → W.cell? ⟨g, 0 + j, none⟩ = some u := by
  have h' := h
  rcases h.2 with ⟨rfl, h0⟩ | ⟨g, cap, cur, rfl, hb, hg, h1, h2, _⟩
  · refine ⟨0, .inl ⟨.inl rfl, h0⟩, fun j u hj => ?_⟩
    rw [List.eq_nil_of_length_eq_zero h0] at hj
    cases hj
  · have hl := h'.lt g (by simp [Value.ownBlock])
    refine ⟨g, .inr ⟨cap, rfl, h1, h2, hl⟩, fun j u hj => ?_⟩
    rw [Nat.zero_add]
    have hj2 : j < L.length := by have := (List.getElem?_eq_some_iff.1 hj).1; rwa [nums_length] at this
    exact (h'.cellAt j (by omega)).trans hj
set_option linter.unusedSimpArgs false in
set_option maxHeartbeats 4000000 in
set_option maxRecDepth 100000 in
theorem leading_puts (n B B0 rb fb : Nat) (F : Nat → List Nat) (w : World) (hR : RowsN w B0 rb n F) (hrb : rb < w.heap.size) (hfb : w.heap[fb]? = some (.cells #[.slice (some ⟨rb, 0, none⟩) n n] 72)) (hF : ∀ i, i < n → (F i).length ≤ 2000) :
    Puts 40 B n F fb w := by
  intro W v t q hW hown hBW hq ht
  obtain ⟨cs, T, h1, h2⟩ := hR
  obtain ⟨v2, g1, g2, -⟩ := h2 q hq
  obtain ⟨ga, hsl, hcell⟩ := own_sl g2
  have hal := hF q hq
  obtain ⟨na, hna⟩ : ∃ n, (F q).length = n := ⟨_, rfl⟩
  obtain ⟨xa, ca, rfl⟩ := own_shape g2
  have c2 := (Lib.cell_of_heap ((hW.block rb hrb).trans h1) q).trans g1
  have c0 := Lib.cell_of_heap ((hW.block fb (Array.getElem?_eq_some_iff.1 hfb).1).trans hfb) 0
  simp only [List.getElem?_toArray, List.getElem?_cons_zero, List.getElem?_cons_succ] at c0
  obtain ⟨xv, cv, rfl⟩ := own_shape hown
  obtain ⟨i0, hi, hz0, hz1, hz2⟩ := info_parts intInfo
  obtain ⟨m, hm⟩ : ∃ m, t.length = m := ⟨_, rfl⟩
  rw [hna] at hal hsl c2 ⊢
  rw [hm] at hown ht ⊢
  have H1A : Hid (∀ u ∈ nums (F q), u.oneCell' = true) := Lib.hid fun u hu => by
    obtain ⟨a, _, rfl⟩ := List.mem_map.1 (show u ∈ (F q).map (fun i : Nat => Value.int .i64 (i : Int)) from hu)
    rfl
  have HLEN : Hid ((nums (F q)).length = na * 1) := Lib.hid (by rw [nums_length, hna]; omega)
  have HS := Lib.hid (And.intro hsl (And.intro (cells_carry hcell hW) hown))
  have hqn' : (q : Int) < (n : Int) := by omega
  have hrW : rb < W.heap.size := by have := hW.size; omega
  have hfW : fb < W.heap.size := by have := hW.size; have := (Array.getElem?_eq_some_iff.1 hfb).1; omega
  clear h1 h2 g1 g2 hsl hcell hown hfb hW hm hna hF
  go_enter Tryd.func40, Tryd.ntmps40
  go_wp2_with (at_builtin; (refine wpList_append_sl rfl (.tmp 6) (.tmp 10) _ rfl B 3 i0 _ 1 8 Tryd.underlying32 hi hz0 hz1 hz2 rfl (by decide) (.slice xv m cv) m (nums t) rfl HS.out.2.2 _ (.slice xa na ca) na ga 0 rfl HS.out.1 (nums (F q)) HLEN.out HS.out.2.1 H1A.out (by unfold maxLen; omega) (by omega) hBW ?_); (intro v4 w4 hown4 hg4 hat4); (obtain ⟨x4, c4, v4e⟩ := own_shape hown4); subst v4e; (have H4 := Lib.hid (And.intro hown4 hg4)); clear hown4 hg4 hat4)
  go_ret
  exact ⟨x4, c4, rfl, by rw [nums_append]; exact H4.out.1, H4.out.2⟩

/-- How many Args so many nodes have. -/
def edges (G : List GN) (j : Nat) : Nat := ((G.take j).map fun x => x.args.length).sum
theorem edges_step {G : List GN} {j : Nat} (h : j < G.length) : edges G (j + 1) = edges G j + G[j].args.length := by
  unfold edges
  rw [List.take_add_one, List.getElem?_eq_getElem h, List.map_append, List.sum_append]
  simp only [Option.toList, List.map_cons, List.map_nil, List.sum_cons, List.sum_nil, Nat.add_zero]
theorem edges_mono {G : List GN} : ∀ {i j : Nat}, i ≤ j → edges G i ≤ edges G j := by
  intro i j h
  induction h with
  | refl => exact Nat.le_refl _
  | step _ ih =>
    rename_i m _
    refine Nat.le_trans ih ?_
    show edges G m ≤ edges G (m + 1)
    by_cases hm : m < G.length
    · rw [edges_step hm]; omega
    · have e : edges G (m + 1) = edges G m := by unfold edges; rw [List.take_of_length_le (by omega), List.take_of_length_le (by omega)]
      omega
/-- What leads to some is what reaches one of them. -/
theorem lead_iff {nx rx : Nat → List Nat} {n : Nat} {L : List Nat} (hL : ∀ a ∈ L, a < n) (hx : ∀ a x, a < n → (x ∈ rx a ↔ x < n ∧ a ∈ nx x)) {i : Nat} (hn : ∀ i, i < n → ∀ j ∈ nx i, j < n) : Gu.Rch rx L i ↔ ∃ a ∈ L, i < n ∧ Gu.Rch nx [i] a := by
  constructor
  · intro h
    have key : ∀ j, Gu.Rch rx L j → j < n ∧ ∃ a ∈ L, Gu.Rch nx [j] a := by
      intro j hj
      induction hj with
      | start h => exact ⟨hL _ h, _, h, .start (by simp)⟩
      | next _ hj ih =>
        obtain ⟨hi, a, ha, hr⟩ := ih
        obtain ⟨h1, h2⟩ := (hx _ _ hi).1 hj
        refine ⟨h1, a, ha, hr.mono fun b hb => ?_⟩
        rw [List.mem_singleton.1 hb]
        exact .next (.start (by simp)) h2
    obtain ⟨h1, a, ha, hr⟩ := key i h
    exact ⟨a, ha, h1, hr⟩
  · rintro ⟨a, ha, hi, hr⟩
    have key : ∀ b, Gu.Rch nx [i] b → b < n ∧ (Gu.Rch rx L b → Gu.Rch rx L i) := by
      intro b hb
      induction hb with
      | start h => rw [List.mem_singleton.1 h]; exact ⟨hi, id⟩
      | next _ hj ih =>
        have hjn := hn _ ih.1 _ hj
        exact ⟨hjn, fun h => ih.2 (.next h ((hx _ _ hjn).2 ⟨ih.1, hj⟩))⟩
    exact (key a hr).2 (.start ha)

theorem mem_take_step {L : List Nat} {k a c : Nat} (h : L[k]? = some c) : a ∈ L.take (k + 1) ↔ a ∈ L.take k ∨ a = c := by
  rw [List.take_add_one, h, List.mem_append]
  simp
set_option linter.unusedSimpArgs false in
set_option maxHeartbeats 8000000 in
set_option maxRecDepth 100000 in
theorem leading_any (S : Nat → Prop) (vg vf : Value) (r : Int) (G : List GN) (l : List Int) (w : World) (hG : GrAt w S vg G) (hf : Nums w S vf l) (hS : ∀ b, S b → b < w.heap.size) (hok : checkG G r = 0) (lG : G.length ≤ 2000) (hE : edges G G.length ≤ 2000) (hl : ∀ a ∈ l, 0 ≤ a ∧ a < (G.length : Int)) (hll : l.length ≤ 3000) :
    Calls Tryd.prog 24 #[.agg #[vg, .int .i64 r], vf] w fun e w' => ∃ b f, e = .returned (.slice (some ⟨b, 0, none⟩) G.length G.length) ∧ w.heap.size ≤ b ∧ MetR w' b G.length f ∧ (∀ i, i < G.length → (f i = true ↔ ∃ a ∈ l.map Int.toNat, Gu.Rch (argsOf G) [i] a)) ∧ Below w.heap.size w w' := by
  obtain ⟨xg, cg, gg, og, rfl, hxg, hng⟩ := hG.open_
  obtain ⟨xf, cf, gf, of_, rfl, -, -⟩ := hf.open_
  obtain ⟨n, en⟩ : ∃ n, G.length = n := ⟨_, rfl⟩
  obtain ⟨m, em⟩ : ∃ n, l.length = n := ⟨_, rfl⟩
  rw [en] at hxg lG hE hl ⊢
  rw [em] at hf hll ⊢
  have hmk := run_make_row' (P := Tryd.prog) 72 32 (.slice none 0 0) 24 Tryd.underlying72 sliceInfo rfl .i64 .i64 n (by omega) (by omega)
  obtain ⟨W1, hW1⟩ : ∃ W1, ((w.alloc (.cells #[.slice xg n cg, .int .i64 r] 24)).alloc (.cells (madeCells #[.slice none 0 0] n) 32)).alloc (.cells #[.slice (some ⟨w.heap.size + 1, 0, none⟩) n n] 72) = W1 := ⟨_, rfl⟩
  have B1 : Below w.heap.size w W1 := by rw [← hW1]; exact (((Below.refl _ _).alloc (Nat.le_refl _) _).alloc (by simp) _).alloc (by simp; omega) _
  have s1 : W1.heap.size = w.heap.size + 3 := by rw [← hW1]; simp
  have b0 : W1.heap[w.heap.size]? = some (.cells #[.slice xg n cg, .int .i64 r] 24) := by rw [← hW1, heap_old (by simp; omega), heap_old (by simp)]; exact heap_last rfl
  have b1 : W1.heap[w.heap.size + 1]? = some (.cells (madeCells #[.slice none 0 0] n) 32) := by rw [← hW1, heap_old (by simp)]; exact heap_last (by simp)
  have b2 : W1.heap[w.heap.size + 2]? = some (.cells #[.slice (some ⟨w.heap.size + 1, 0, none⟩) n n] 72) := by rw [← hW1]; exact heap_last (by simp)
  have R1 : RowsN W1 (w.heap.size + 3) (w.heap.size + 1) n (fun _ => []) := ⟨_, _, b1, fun j hj => ⟨.slice none 0 0, by simp [madeCells, hj, Nat.mod_one], World.ownsRow_nil _ _ _ _, fun _ _ _ _ _ q hq => by simp [Value.ownBlock] at hq⟩⟩
  have X : Hid (∀ V, Free (fun b => b = w.heap.size + 1) W1 V → V.heap[w.heap.size]? = some (.cells #[.slice xg n cg, .int .i64 r] 24) ∧ V.heap[w.heap.size + 2]? = some (.cells #[.slice (some ⟨w.heap.size + 1, 0, none⟩) n n] 72) ∧ w.heap.size + 3 ≤ V.heap.size ∧ Below w.heap.size w V) := Lib.hid fun V hV => by
    have hs := hV.size
    exact ⟨(hV.block _ (by omega) (by omega)).trans b0, (hV.block _ (by omega) (by omega)).trans b2, by omega, B1.trans (free_below hV (by omega) (fun k hk => by omega))⟩
  have H := Lib.hid (And.intro hG (And.intro hf (And.intro hS (And.intro hok (And.intro hE (And.intro hl (And.intro en (And.intro em (And.intro hxg hng)))))))))
  have HR1 := Lib.hid R1
  have HW1 := Lib.hid hW1
  have hS1 := Lib.hid s1
  clear hG hf hS hok hE hl hxg hng B1 b0 b1 b2 R1 s1 hW1
  go_enter Tryd.func24, Tryd.ntmps24
  go_wp2_with fail
  clear hmk
  rw [HW1.out]
  have HS3 : Hid (w.heap.size + 1 + 1 = w.heap.size + 2 ∧ w.heap.size + 1 = w.heap.size + 1) := Lib.hid ⟨rfl, rfl⟩
  obtain ⟨fb, hfb⟩ : ∃ b, w.heap.size + 1 + 1 = b := ⟨_, rfl⟩
  obtain ⟨rb, hrb⟩ : ∃ b, w.heap.size + 1 = b := ⟨_, rfl⟩
  rw [hfb, hrb]
  have X' : Hid (∀ V, Free (fun b => b = rb) W1 V → V.heap[w.heap.size]? = some (.cells #[.slice xg n cg, .int .i64 r] 24) ∧ V.heap[fb]? = some (.cells #[.slice (some ⟨rb, 0, none⟩) n n] 72) ∧ fb < V.heap.size ∧ Below w.heap.size w V ∧ GrAt V S (.slice xg n cg) G) := Lib.hid fun V hV => by
    subst hrb
    obtain ⟨h1, h2, h3, h4⟩ := X.out V hV
    have e : fb = w.heap.size + 2 := by omega
    rw [e]
    have hG := H.out.1
    rw [H.out.2.2.2.2.2.2.1] at hG
    exact ⟨h1, h2, by omega, h4, hG.carry (keeps_of h4 H.out.2.2.1) fun _ h => h⟩
  have R1 : RowsN W1 (fb + 1) rb n (fun _ => []) := by
    have h := HR1.out
    rw [show w.heap.size + 3 = fb + 1 by omega, hrb] at h
    exact h
  have HB := Lib.hid (And.intro hfb (And.intro hrb hS1.out))
  have hrf : rb + 1 = fb := by omega
  clear X HR1 hfb hrb HS3
  go_loopg [16] n (fun gk i wr => ∃ (j : Nat) (F : Nat → List Nat), gk = n - j ∧ i = .int .i64 (j : Int) ∧ j ≤ n ∧ RowsN wr (fb + 1) rb n F ∧ Hid (∀ a x, x ∈ F a ↔ x < j ∧ a ∈ argsOf G x) ∧ Hid (∀ a, (F a).length ≤ edges G j) ∧ Free (fun b => b = rb) W1 wr)
  case atStart => exact ⟨0, _, by simp, by first | rfl | simp, Nat.zero_le _, R1, Lib.hid fun _ _ => by simp, Lib.hid fun _ => by simp, Free.refl _ _⟩
  case round =>
    clear R1
    obtain ⟨j, F, rfl, rfl, hj, hR, hF, hFl, hFr⟩ := hrel
    obtain ⟨wz, rfl⟩ : ∃ wz, wz = wr := ⟨_, rfl⟩
    obtain ⟨x0, x1, x2, x3, x4⟩ := X'.out wz hFr
    have a0 := Lib.cell_of_heap x0 0
    simp only [List.getElem?_toArray, List.getElem?_cons_zero, List.getElem?_cons_succ] at a0
    have hww : w.heap.size < wz.heap.size := by have := HB.out; omega
    by_cases hlt : j < n
    · have hi' : (j : Int) < (n : Int) := by omega
      have hjG : j < G.length := by have := H.out.2.2.2.2.2.2.1; omega
      obtain ⟨rfl, hgc, hgx, hSg⟩ := H.out.2.2.2.2.2.2.2.2.1 (by omega)
      unfold maxLen at hgx
      obtain ⟨va, vl, hgn⟩ := H.out.2.2.2.2.2.2.2.2.2 j hjG
      have gn := hgn.carry (keeps_of x3 H.out.2.2.1) fun _ h => h
      have hgw : gg < wz.heap.size := by have := H.out.2.2.1 gg hSg; have := x3.size; omega
      obtain ⟨xa, ca, ga, oa, rfl, hxa, hna⟩ := gn.ha.open_
      have c2 := gn.c2
      obtain ⟨na, hna2⟩ : ∃ na, G[j].args.length = na := ⟨_, rfl⟩
      rw [hna2] at c2 hxa
      obtain ⟨xo, hxo⟩ : ∃ o, og + j * 5 = o := ⟨_, rfl⟩
      rw [hxo] at c2
      have hna3 : na ≤ 2000 := by
        have h1 := H.out.2.2.2.2.1
        have h2 := edges_mono (G := G) (i := j + 1) (j := n) (by omega)
        rw [edges_step hjG, hna2] at h2
        omega
      have HN := Lib.hid (And.intro hna (And.intro hna2 (And.intro hxa x3)))
      have HO := Lib.hid (And.intro hR (And.intro hF (And.intro hFl hFr)))
      clear gn hgn hna hna2 hxa hR hF hFl hFr x0 x1 x3 x4
      go_wp2_with fail
      clear c2 a0
      go_loopg [26] na (fun gk i wy => ∃ (k : Nat) (F : Nat → List Nat), gk = na - k ∧ i = .int .i64 (k : Int) ∧ k ≤ na ∧ RowsN wy (fb + 1) rb n F ∧ Hid (∀ a x, x ∈ F a ↔ (x < j ∧ a ∈ argsOf G x) ∨ (x = j ∧ a ∈ (argsOf G j).take k)) ∧ Hid (∀ a, (F a).length ≤ edges G j + k) ∧ Free (fun b => b = rb) W1 wy)
      case atStart => exact ⟨0, F, by simp, by first | rfl | simp, Nat.zero_le _, HO.out.1, Lib.hid fun a x => by rw [HO.out.2.1.out a x]; simp, Lib.hid fun a => by have := HO.out.2.2.1.out a; omega, HO.out.2.2.2⟩
      case round =>
        obtain ⟨k, F, rfl, rfl, hk, hR, hF, hFl, hFr⟩ := hrel
        obtain ⟨wy, rfl⟩ : ∃ wy, wy = wr := ⟨_, rfl⟩
        obtain ⟨x0, x1, x2, x3, x4⟩ := X'.out wy hFr
        by_cases hlk : k < na
        · have hi2 : (k : Int) < (na : Int) := by omega
          obtain ⟨hna, hna2, hxa, x3z⟩ := HN.out
          have hkl : k < G[j].args.length := by omega
          obtain ⟨rfl, u1, u2, u3⟩ := hxa (by omega)
          unfold maxLen at u2
          have hgaw := H.out.2.2.1 ga u3
          have e1 := (World.cell?_of_block (a := ⟨ga, oa + k, none⟩) ((x3.block ga hgaw).trans (x3z.block ga hgaw).symm)).trans (hna k hkl)
          have hrange := args_fit H.out.2.2.2.1 hjG _ (List.getElem_mem hkl)
          have hgk : (argsOf G j)[k]? = some (G[j].args[k]).toNat := by rw [argsOf_eq hjG, List.getElem?_map, List.getElem?_eq_getElem hkl]; rfl
          obtain ⟨ai, hai⟩ : ∃ a, G[j].args[k] = a := ⟨_, rfl⟩
          rw [hai] at e1 hrange hgk
          obtain ⟨an, rfl⟩ : ∃ n : Nat, ai = (n : Int) := ⟨ai.toNat, by omega⟩
          have han : an < n := by have := H.out.2.2.2.2.2.2.1; omega
          have han' : (an : Int) < (n : Int) := by omega
          rw [Int.toNat_natCast] at hgk
          have hR' := hR
          obtain ⟨cs, TT, h1, h2⟩ := hR
          obtain ⟨v, g1, g2, -⟩ := h2 an han
          have e5 := (Lib.cell_of_heap h1 an).trans g1
          have hFle := hFl.out an
          have hej : edges G j ≤ 2000 := by
            have h1 := H.out.2.2.2.2.1
            have h2 := edges_mono (G := G) (i := j) (j := n) (by omega)
            omega
          obtain ⟨mm, hmm⟩ : ∃ m, (F an).length = m := ⟨_, rfl⟩
          rw [hmm] at g2 hFle
          obtain ⟨xv, cv, rfl⟩ := own_shape g2
          have m0 := Lib.cell_of_heap x1 0
          simp only [List.getElem?_toArray, List.getElem?_cons_zero, List.getElem?_cons_succ] at m0
          have hrw : rb < wy.heap.size := (Array.getElem?_eq_some_iff.1 h1).1
          have hgaw2 : ga < wy.heap.size := by have := x3.size; omega
          obtain ⟨i1, hi1, hj0, hj1, hj2⟩ := info_parts intInfo
          have HI1 := Lib.hid (And.intro hi1 (And.intro hj0 (And.intro hj1 hj2)))
          have HOA := Lib.hid (World.ownsRow.drew (g2.alloc (.cells #[.int .i64 (j : Int)] 3)))
          have HNA : Hid (∀ i u, ([.int .i64 (j : Int)] : List Value)[i]? = some u → ((wy.alloc (.cells #[.int .i64 (j : Int)] 3)).drew).cell? ((⟨wy.heap.size, 0, none⟩ : Addr).add i) = some u) := Lib.hid (new_cells wy [.int .i64 (j : Int)] 3)
          have H1A : Hid (∀ u ∈ ([.int .i64 (j : Int)] : List Value), u.oneCell' = true) := Lib.hid fun u hu => by rw [List.mem_singleton.1 hu]; rfl
          have HMA := Lib.hid (show ((wy.alloc (.cells #[.int .i64 (j : Int)] 3)).drew).heap[rb]? = some (.cells cs TT) by rw [drew_heap, heap_old hrw]; exact h1)
          have HMB := Lib.hid (show ((wy.alloc (.cells #[.int .i64 (j : Int)] 3)).drew).heap[fb]? = some (.cells #[.slice (some ⟨rb, 0, none⟩) n n] 72) by rw [drew_heap, heap_old x2]; exact x1)
          have HG1 := Lib.hid g1
          have HR := Lib.hid (And.intro hR' (And.intro hF (And.intro hFl (And.intro hFr (And.intro hgk (And.intro hmm (And.intro g2 e5)))))))
          clear hR' h1 h2 g1 g2 hF hFl hFr hgk hmm hna hna2 hxa x3z x0 x1 x3 x4 hai hrange hi1 hj0 hj1 hj2
          go_wp2_with fail
          go_region_law (first | (refine step_append_lies _ rfl (.tmp 35) (.tmp 37) 32 rfl (fb + 1) 3 i1 _ 1 8 Tryd.underlying32 HI1.out.1 HI1.out.2.1 HI1.out.2.2.1 HI1.out.2.2.2 rfl (by decide) (.slice xv mm cv) mm (nums (F an)) (by simp [Act.eval]) HOA.out ⟨wy.heap.size, 0, none⟩ 1 1 [.int .i64 (j : Int)] (by simp [Act.eval]) rfl HNA.out H1A.out (by decide) (by unfold maxLen; omega) (by omega) (by simp; omega) _ rfl ?_; intro g2 cap2 w5 hown5 hg5 hat5 hlt5; have hM5 := (hg5.block rb (by rw [World.size_drew, World.size_alloc]; omega) (fun h => by have := HOA.out.lt rb h.symm; omega)).trans HMA.out; have hM6 := (hg5.block fb (by rw [World.size_drew, World.size_alloc]; omega) (fun h => by have := HOA.out.lt fb h.symm; omega)).trans HMB.out; have m5 := (Lib.cell_of_heap hM5 an).trans HG1.out; have f5 := Lib.frozen_of_heap hM5 an; have m6 := Lib.cell_of_heap hM6 0; simp only [List.getElem?_toArray, List.getElem?_cons_zero, List.getElem?_cons_succ] at m6; have hrb5 : rb < w5.heap.size := (Array.getElem?_eq_some_iff.1 hM5).1; have hfb5 : fb < w5.heap.size := (Array.getElem?_eq_some_iff.1 hM6).1; have H5 := Lib.hid (And.intro hown5 (And.intro hg5 hat5)); clear hown5 hg5 hat5 hM5 hM6))
          all_goals
            go_wp2_with fail
            go_roundg (na - (k + 1))
            case measure => omega
            case rel =>
              obtain ⟨hR', hF, hFl, hFr, hgk, hmm, hg2, e5⟩ := HR.out
              obtain ⟨hown5, hg5, hat5⟩ := H5.out
              have s5 := hg5.size
              rw [World.size_drew, World.size_alloc] at s5
              refine ⟨k + 1, _, rfl, by first | rfl | simp, hlk, hR'.push (x := j) han e5 (by omega) (by omega) hg5 hmm hown5 ?_, Lib.hid fun a x => ?_, Lib.hid fun a => ?_, ?_⟩
              · rcases hat5 with h | h
                · exact .inl h.symm
                · exact .inr ⟨g2, rfl, by rw [h, World.size_drew, World.size_alloc]; omega⟩
              · rw [mem_take_step hgk]
                show x ∈ (if a = an then F an ++ [j] else F a) ↔ _
                by_cases e : a = an
                · subst e
                  rw [if_pos rfl, List.mem_append, hF.out a x, List.mem_singleton]
                  constructor
                  · rintro ((h | h) | h)
                    · exact .inl h
                    · exact .inr ⟨h.1, .inl h.2⟩
                    · exact .inr ⟨h, .inr rfl⟩
                  · rintro (h | ⟨h, h' | _⟩)
                    · exact .inl (.inl h)
                    · exact .inl (.inr ⟨h, h'⟩)
                    · exact .inr h
                · rw [if_neg e, hF.out a x]
                  constructor
                  · rintro (h | h)
                    · exact .inl h
                    · exact .inr ⟨h.1, .inl h.2⟩
                  · rintro (h | ⟨h, h' | h'⟩)
                    · exact .inl h
                    · exact .inr ⟨h, h'⟩
                    · exact absurd h' e
              · show (if a = an then F an ++ [j] else F a).length ≤ _
                have := hFl.out a
                by_cases e : a = an
                · subst e; rw [if_pos rfl, List.length_append]; simp; omega
                · rw [if_neg e]; omega
              · have F5 : Free (fun b => b = rb) W1 w5 := ⟨hg5.os.trans hFr.os, hg5.tape.trans hFr.tape, hg5.output.trans hFr.output, by have := hFr.size; omega, fun q hq hn => by
                  have hs := hFr.size
                  have hb := HB.out
                  rw [hg5.block q (by rw [World.size_drew, World.size_alloc]; omega) (fun h => by have := (HOA.out.lt q h.symm).1; omega), drew_heap, heap_old (by omega)]
                  exact hFr.block q hq hn⟩
                exact free_setCell F5 (p := ⟨rb, an, none⟩) rfl _
        · have hi2 : ¬ (k : Int) < (na : Int) := by omega
          obtain rfl : k = na := by omega
          have HQ := Lib.hid (And.intro hR (And.intro hF (And.intro hFl hFr)))
          clear hR hF hFl hFr x0 x1 x3 x4
          go_wp2_with fail
          go_roundg (n - (j + 1))
          case measure => omega
          case rel =>
            obtain ⟨hR, hF, hFl, hFr⟩ := HQ.out
            have hlen : (argsOf G j).length = k := by rw [argsOf_eq hjG, List.length_map]; exact HN.out.2.1
            refine ⟨j + 1, F, rfl, by first | rfl | simp, hlt, hR, Lib.hid fun a x => ?_, Lib.hid fun a => ?_, hFr⟩
            · rw [hF.out a x, List.take_of_length_le (by omega)]
              constructor
              · rintro (h | ⟨rfl, h⟩)
                · exact ⟨by omega, h.2⟩
                · exact ⟨by omega, h⟩
              · rintro ⟨h, h'⟩
                rcases Nat.lt_or_ge x j with hx | hx
                · exact .inl ⟨hx, h'⟩
                · obtain rfl : x = j := by omega
                  exact .inr ⟨rfl, h'⟩
            · have h1 := hFl.out a
              have h2 := edges_step hjG
              have h3 := HN.out.2.1
              omega
    · have hi' : ¬ (j : Int) < (n : Int) := by omega
      obtain rfl : j = n := by omega
      have hB0 := HB.out
      have hcs := H.out.2.2.2.2.1
      have hFn : ∀ i, i < j → ∀ x ∈ F i, x < j := fun i _ x hx => ((hF.out i x).1 hx).1
      have hk2 : ∀ i, i < j → (F i).length ≤ 2000 := fun i _ => by
        have h1 := hFl.out i
        omega
      have hSz : ∀ b, S b → b < wz.heap.size := fun b hb => Nat.lt_of_lt_of_le (H.out.2.2.1 b hb) x3.size
      have CM := Lib.hid (marked_leading S F j fb (.slice xf m cf) l wz (H.out.2.1.carry (keeps_of x3 H.out.2.2.1) fun _ h => h) H.out.2.2.2.2.2.1 lG (by rw [H.out.2.2.2.2.2.2.2.1]; exact hll) hFn hk2 hSz (leading_puts j _ (fb + 1) rb fb F wz hR (by omega) x1 hk2))
      have HF := Lib.hid (And.intro hF (And.intro x3 hFn))
      clear hR hF hFl hFr x0 x1 x3 x4 hcs hFn hk2 hSz
      go_wp2_with fail
      refine CM.out.mono ?_
      rintro e5 w5 ⟨f5, rfl, hM5, hf5, hB5⟩
      have H5 := Lib.hid (And.intro hM5 (And.intro hf5 hB5))
      clear hM5 hf5 hB5 CM a0
      go_wp2_with fail
      go_ret
      obtain ⟨hF, x3, hFn⟩ := HF.out
      refine ⟨wz.heap.size, f5, rfl, by omega, H5.out.1, fun i hi => ?_, x3.trans (H5.out.2.2.mono x3.size)⟩
      rw [H5.out.2.1 i hi, lead_iff (nx := argsOf G) (n := j) (fun a ha => ?_) (fun a x ha => hF.out a x) (fun i hi k hk => ?_)]
      · exact ⟨fun ⟨a, h1, _, h3⟩ => ⟨a, h1, h3⟩, fun ⟨a, h1, h3⟩ => ⟨a, h1, hi, h3⟩⟩
      · obtain ⟨z, hz, rfl⟩ := List.mem_map.1 ha
        have := H.out.2.2.2.2.2.1 z hz
        omega
      · have hen := H.out.2.2.2.2.2.2.1
        have := args_lt H.out.2.2.2.1 (q := i) (by omega) k hk
        omega
end Go.Proofs.YtkbmkmpoapafaaaDoor
