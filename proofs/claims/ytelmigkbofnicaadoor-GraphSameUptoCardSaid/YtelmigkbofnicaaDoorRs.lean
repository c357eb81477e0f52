/- trefoilref06.Same: whether two graphs are the same type, by all pairs that must be matched. -/
import Derived.Test.YtelmigkbofnicaaDoorAl
import Derived.Test.YtelmigkbofnicaaDoorRk
import Derived.Test.YtelmigkbofnicaaDoorRf
import Derived.Test.YtelmigkbofnicaaDoorGs
import Derived.BigRegion
import Derived.Laws.StructEq
import Derived.Laws.Tables
import Derived.Laws.Cover2
namespace Go.Proofs.YtelmigkbofnicaaDoor
open Go.ChangeShapes Go.WideShapes Go.ChangeAt Go.RowKit

theorem arrInfo : (Tryd.prog.info? 61).map (fun i => (i.zero, i.size, i.bytes)) = some (some (.agg #[.int .i64 0, .int .i64 0]), 2, 16) := by kernel_rfl
theorem eqArr (a b c d : Int) (w : World) : (Op.equalIn 10000 61 (.agg #[.int .i64 a, .int .i64 b]) (.agg #[.int .i64 c, .int .i64 d])).run Tryd.prog w = .ok (a == c && b == d) w := by
  have u3 := Tryd.underlying3
  have a3 := Tryd.isAgg3
  have z3 := Tryd.sizeOf3
  rw [show (10000 : Nat) = 9999 + 1 from rfl, Op.equalIn]
  simp only [Sem.run_bind, run_underlying Tryd.underlying61, Result.andThen_ok]
  simp only [Std.Legacy.Range.forIn_eq_forIn_range', Std.Legacy.Range.size, Nat.sub_zero, Nat.add_sub_cancel, Nat.div_one, List.range'_succ, List.range'_zero, List.forIn_cons, List.forIn_nil]
  go_simp
  by_cases h1 : a = c <;> by_cases h2 : b = d <;> simp [h1, h2]
theorem pcs_get (l : List (Nat × Nat)) : ∀ (i : Nat) (h : i < l.length), (pcs l)[i * 2]? = some (.int .i64 (l[i].1 : Int)) ∧ (pcs l)[i * 2 + 1]? = some (.int .i64 (l[i].2 : Int)) := by
  induction l with
  | nil => intro i h; cases h
  | cons a r ih =>
    intro i h
    have e : pcs (a :: r) = Value.int .i64 (a.1 : Int) :: .int .i64 (a.2 : Int) :: pcs r := rfl
    rw [e]
    cases i with
    | zero => exact ⟨rfl, rfl⟩
    | succ i =>
      have := ih i (by simpa using h)
      rw [show (i + 1) * 2 = i * 2 + 1 + 1 by omega]
      simpa using this
/-- Where a pair of a row of one's own lies. -/
theorem own_pair {W : World} {B g n cap : Nat} {e : TypeId} {L : List (Nat × Nat)} (h : W.ownsRow B e 2 (.slice (some ⟨g, 0, none⟩) n cap) n (pcs L)) (hn : L.length = n) (i : Nat) (hi : i < n) : W.cell? ⟨g, i * 2, none⟩ = some (.int .i64 ((L[i]'(by omega)).1 : Int)) ∧ W.cell? ⟨g, i * 2 + 1, none⟩ = some (.int .i64 ((L[i]'(by omega)).2 : Int)) := by
  have := pcs_get L i (by omega)
  rw [h.cellAt _ (by omega), h.cellAt _ (by omega)]
  exact this
theorem own_some {W : World} {B n : Nat} {e : TypeId} {size : Nat} {v : Value} {xs : List Value} (h : W.ownsRow B e size v n xs) (hn : 0 < n) : ∃ g c, v = .slice (some ⟨g, 0, none⟩) n c ∧ n ≤ c ∧ c ≤ maxLen ∧ B ≤ g ∧ g < W.heap.size := by
  rcases h.2 with ⟨_, h0⟩ | ⟨g, cap, cur, rfl, hb, hg, h1, h2, _⟩
  · omega
  · refine ⟨g, cap, rfl, h1, h2, hb, ?_⟩
    rcases Nat.lt_or_ge g W.heap.size with h | h
    · exact h
    · rw [Array.getElem?_eq_none h] at hg; cases hg

/-- A pair's first node, if it is free, is matched with just one node. -/
def FreeAlike (G : List GN) (p q : Nat × Nat) : Prop := ∀ x, G[p.1]? = some x → x.freeB = true → (p.1 = q.1 ↔ p.2 = q.2)

set_option linter.unusedSimpArgs false in
set_option maxHeartbeats 8000000 in
set_option maxRecDepth 100000 in
theorem refsame_any (S : Nat → Prop) (vg vh : Value) (rg rh : Int) (G H : List GN) (w : World) (hG : GrAt w S vg G) (hH : GrAt w S vh H) (hS : ∀ b, S b → b < w.heap.size) (sG : Sized G) (sH : Sized H)
    (lG : G.length ≤ 2000) (lH : H.length ≤ 2000) (aG : ∀ x ∈ G, x.args.length ≤ 2000) :
    Calls Tryd.prog 22 #[.agg #[vg, .int .i64 rg], .agg #[vh, .int .i64 rh]] w fun e w' => e = .returned (.bool (sameGr G rg H rh)) ∧ Below w.heap.size w w' := by
  have HG0 := Lib.hid hG
  have HH0 := Lib.hid hH
  obtain ⟨xg, cg, gg, og, rfl, hxg, hng⟩ := hG.open_
  obtain ⟨xh, ch, gh, oh, rfl, hxh, hnh⟩ := hH.open_
  obtain ⟨ng, eng⟩ : ∃ n, G.length = n := ⟨_, rfl⟩
  obtain ⟨nh, enh⟩ : ∃ n, H.length = n := ⟨_, rfl⟩
  rw [eng] at HG0 lG
  rw [enh] at HH0 lH
  have HGI := Lib.hid (And.intro eng (And.intro hxg hng))
  have HHI := Lib.hid (And.intro enh (And.intro hxh hnh))
  have HZ := Lib.hid (And.intro hS (And.intro sG (And.intro sH aG)))
  rw [eng, enh]
  clear hG hH eng enh hxg hng hxh hnh hS sG sH aG
  obtain ⟨w1, hw1⟩ : ∃ w1, (w.alloc (.cells #[.slice xg ng cg, .int .i64 rg] 24)).alloc (.cells #[.slice xh nh ch, .int .i64 rh] 24) = w1 := ⟨_, rfl⟩
  have s1 : w1.heap.size = w.heap.size + 2 := by rw [← hw1]; simp
  have B1 : Below w.heap.size w w1 := by rw [← hw1]; exact ((Below.refl _ _).alloc (Nat.le_refl _) _).alloc (by simp) _
  have X1 : w1.heap[w.heap.size]? = some (.cells #[.slice xg ng cg, .int .i64 rg] 24) := by rw [← hw1, heap_old (by simp)]; exact heap_last rfl
  have Y1 : w1.heap[w.heap.size + 1]? = some (.cells #[.slice xh nh ch, .int .i64 rh] 24) := by rw [← hw1]; exact heap_last (by simp)
  have H1 := Lib.hid (And.intro B1 (And.intro X1 Y1))
  have HW1 := Lib.hid hw1
  clear hw1 B1 X1 Y1
  have XG : Hid (∀ V, Below w1.heap.size w1 V → GrAt V S (.slice xg ng cg) G ∧ GrAt V S (.slice xh nh ch) H ∧ (∀ b, S b → b < V.heap.size) ∧ V.heap[w.heap.size]? = some (.cells #[.slice xg ng cg, .int .i64 rg] 24) ∧ V.heap[w.heap.size + 1]? = some (.cells #[.slice xh nh ch, .int .i64 rh] 24)) := Lib.hid fun V hV => by
    have hB : Below w.heap.size w V := H1.out.1.trans (hV.mono (by omega))
    have hs := hB.size
    exact ⟨HG0.out.carry (fun b hb => hB.block b (HZ.out.1 b hb)) (fun _ h => h), HH0.out.carry (fun b hb => hB.block b (HZ.out.1 b hb)) (fun _ h => h), fun b hb => by have := HZ.out.1 b hb; omega, (hV.block _ (by omega)).trans H1.out.2.1, (hV.block _ (by omega)).trans H1.out.2.2⟩
  have g1 := XG.out w1 (Below.refl _ _)
  have C1 := Lib.hid (refcheck_any S _ rg G w1 g1.1 g1.2.2.1 HZ.out.2.1)
  clear g1
  go_enter Tryd.func22, Tryd.ntmps22
  go_wp2_with fail
  rw [HW1.out]
  refine C1.out.mono ?_
  rintro e w2 ⟨rfl, hB2⟩
  clear C1
  have hway := checkG_ways G rg
  obtain ⟨kg, hkg⟩ : ∃ k, checkG G rg = k := ⟨_, rfl⟩
  rw [hkg] at hway ⊢
  have HKG := Lib.hid hkg
  clear hkg
  have s2 := hB2.size
  have F2 := Lib.hid hB2
  clear hB2
  have no : Hid (kg ≠ 0 → sameGr G rg H rh = false) := Lib.hid fun h => by
    have : ¬ SameGr G rg H rh := fun a => h (HKG.out.symm.trans a.1)
    unfold sameGr; simpa using this
  rcases hway with rfl | rfl | rfl
  rotate_left
  · go_wp2_with fail
    go_ret
    exact ⟨by rw [no.out (by decide)]; rfl, H1.out.1.trans (F2.out.mono (by omega))⟩
  · go_wp2_with fail
    go_ret
    exact ⟨by rw [no.out (by decide)]; rfl, H1.out.1.trans (F2.out.mono (by omega))⟩
  clear no
  have g2 := XG.out w2 F2.out
  have b0 : w2.cell? ⟨w.heap.size + 1, 0, none⟩ = some (.slice xh nh ch) := by rw [Lib.cell_of_heap g2.2.2.2.2]; rfl
  have b1 : w2.cell? ⟨w.heap.size + 1, 1, none⟩ = some (.int .i64 rh) := by rw [Lib.cell_of_heap g2.2.2.2.2]; rfl
  have C2 := Lib.hid (refcheck_any S _ rh H w2 g2.2.1 g2.2.2.1 HZ.out.2.2.1)
  clear g2
  go_wp2_with fail
  refine C2.out.mono ?_
  rintro e w3 ⟨rfl, hB3⟩
  clear C2 b0 b1
  have hway := checkG_ways H rh
  obtain ⟨kh, hkh⟩ : ∃ k, checkG H rh = k := ⟨_, rfl⟩
  rw [hkh] at hway ⊢
  have HKH := Lib.hid hkh
  clear hkh
  have s3 := hB3.size
  have F3 := Lib.hid (F2.out.trans (hB3.mono (by omega)))
  clear hB3 F2
  have no : Hid (kh ≠ 0 → sameGr G rg H rh = false) := Lib.hid fun h => by
    have : ¬ SameGr G rg H rh := fun a => h (HKH.out.symm.trans a.2.1)
    unfold sameGr; simpa using this
  rcases hway with rfl | rfl | rfl
  rotate_left
  · go_wp2_with fail
    go_ret
    exact ⟨by rw [no.out (by decide)]; rfl, H1.out.1.trans (F3.out.mono (by omega))⟩
  · go_wp2_with fail
    go_ret
    exact ⟨by rw [no.out (by decide)]; rfl, H1.out.1.trans (F3.out.mono (by omega))⟩
  clear no
  have hrg := inside_iff.1 (checkG_ok.1 HKG.out).2.1
  have hrh := inside_iff.1 (checkG_ok.1 HKH.out).2.1
  rw [HGI.out.1] at hrg
  rw [HHI.out.1] at hrh
  obtain ⟨r, hr⟩ : ∃ r : Nat, rg = (r : Int) := ⟨rg.toNat, by omega⟩
  obtain ⟨s, hs⟩ : ∃ s : Nat, rh = (s : Int) := ⟨rh.toNat, by omega⟩
  subst hr hs
  have hrn : r < ng := by omega
  have hsn : s < nh := by omega
  clear hrg hrh
  have g3 := XG.out w3 F3.out
  have a1 : w3.cell? ⟨w.heap.size, 1, none⟩ = some (.int .i64 (r : Int)) := by rw [Lib.cell_of_heap g3.2.2.2.1]; rfl
  have b1 : w3.cell? ⟨w.heap.size + 1, 1, none⟩ = some (.int .i64 (s : Int)) := by rw [Lib.cell_of_heap g3.2.2.2.2]; rfl
  clear g3
  have hws : w.heap.size < w3.heap.size := by omega
  have hws1 : w.heap.size + 1 < w3.heap.size := by omega
  go_wp2_with fail
  clear a1 b1
  obtain ⟨tb, htb⟩ : ∃ tb, w3.heap.size = tb := ⟨_, rfl⟩
  obtain ⟨W5, hW5⟩ : ∃ W5, w3.alloc (.cells #[.int .i64 (r : Int), .int .i64 (s : Int)] 61) = W5 := ⟨_, rfl⟩
  rw [hW5, htb]
  have s5 : W5.heap.size = tb + 1 := by rw [← hW5, ← htb]; simp
  have B5 : Below w1.heap.size w1 W5 := by rw [← hW5]; exact F3.out.alloc (by omega) _
  have T5 : W5.ownsRow tb 61 2 (.slice (some ⟨tb, 0, none⟩) 1 1) 1 (pcs [(r, s)]) := by
    have := World.ownsRow_lit (base := tb) (e := 61) (size := 2) w3 #[.int .i64 (r : Int), .int .i64 (s : Int)] 1 (by omega) (by unfold maxLen; omega) (by simp)
    rw [hW5, htb] at this
    exact this
  have H5 := Lib.hid (And.intro B5 T5)
  clear hW5 B5 T5
  obtain ⟨i0, hi, hz0, hz1, hz2⟩ := info_parts arrInfo
  have HI := Lib.hid (And.intro hi (And.intro hz0 (And.intro hz1 hz2)))
  have s1a : w1.heap.size ≤ w.heap.size + 2 := by omega
  have s1b : w.heap.size + 2 ≤ w1.heap.size := by omega
  have s5a : W5.heap.size ≤ tb + 1 := by omega
  have s5b : tb + 1 ≤ W5.heap.size := by omega
  have tba : w3.heap.size ≤ tb := by omega
  have tbb : tb ≤ w3.heap.size := by omega
  clear hi hz0 hz1 hz2 s1 s5 htb
  obtain ⟨NN, hNN⟩ : ∃ N, ng * nh = N := ⟨_, rfl⟩
  have hNN4 : NN ≤ 4000000 := by rw [← hNN]; exact Nat.mul_le_mul lG lH
  have PL : Hid (∀ (L : List (Nat × Nat)) (k : Nat), Pairs G H r s L k → L.length ≤ NN) := Lib.hid fun L k h => by
    have := h.len
    rw [HGI.out.1, HHI.out.1, hNN] at this
    exact this
  clear hNN
  go_loopg [5, 6] NN (fun gk v i wq => ∃ (L : List (Nat × Nat)) (k : Nat), gk = NN - k ∧ i = .int .i64 (k : Int) ∧ k ≤ L.length ∧ wq.ownsRow tb 61 2 v L.length (pcs L) ∧ Pairs G H r s L k ∧ Below tb W5 wq)
  case atStart => exact ⟨[(r, s)], 0, by simp, by first | rfl | simp, by simp, H5.out.2, pairs_start (by rw [HGI.out.1]; exact hrn) (by rw [HHI.out.1]; exact hsn), Below.refl _ _⟩
  case round => as_aux_lemma =>
    obtain ⟨L, k, rfl, rfl, hk, hT, hP, hF⟩ := hrel
    obtain ⟨wq, rfl⟩ : ∃ wq, wq = wr := ⟨_, rfl⟩
    have sq := hF.size
    have hLN := PL.out L k hP
    obtain ⟨ln, hln⟩ : ∃ ln, L.length = ln := ⟨_, rfl⟩
    rw [hln] at hk hT hLN
    have HLN := Lib.hid hln
    clear hln
    have hB : Below w1.heap.size w1 wq := H5.out.1.trans (hF.mono (by omega))
    have hl0 := hP.hd
    have hln0 : 0 < ln := by
      have := HLN.out
      cases L with
      | nil => cases hl0
      | cons a t => simp at this; omega
    clear hl0
    obtain ⟨tg, ct, rfl, hct, hcx, htgb, htgq⟩ := own_some hT hln0
    unfold maxLen at hcx
    by_cases hlt : k < ln
    · have hi' : (k : Int) < (ln : Int) := by omega
      have hkL : k < L.length := by have := HLN.out; omega
      obtain ⟨c0, c1⟩ := own_pair hT HLN.out k hlt
      have hpm : L[k] ∈ L := List.getElem_mem hkL
      obtain ⟨pa, hpa⟩ : ∃ pa, (L[k]).1 = pa := ⟨_, rfl⟩
      obtain ⟨pb, hpb⟩ : ∃ pb, (L[k]).2 = pb := ⟨_, rfl⟩
      have hrn2 := hP.lt _ hpm
      rw [hpa] at c0 hrn2
      rw [hpb] at c1 hrn2
      rw [HGI.out.1, HHI.out.1] at hrn2
      obtain ⟨hpan, hpbn⟩ := hrn2
      have hpaG : pa < G.length := by rw [HGI.out.1]; exact hpan
      have hpbH : pb < H.length := by rw [HHI.out.1]; exact hpbn
      have hpan' : (pa : Int) < (ng : Int) := by omega
      have hpbn' : (pb : Int) < (nh : Int) := by omega
      obtain ⟨rfl, q1, q2, q3⟩ := HGI.out.2.1 (by omega)
      obtain ⟨rfl, p1, p2, p3⟩ := HHI.out.2.1 (by omega)
      rw [HGI.out.1] at q1
      rw [HHI.out.1] at p1
      unfold maxLen at q2 p2
      have HQ := Lib.hid (And.intro hP (And.intro hF (And.intro hT (And.intro hB (And.intro hpm (And.intro hpa hpb))))))
      have hkk : L[k]? = some (pa, pb) := by rw [List.getElem?_eq_getElem hkL, ← hpa, ← hpb]
      have HKK := Lib.hid hkk
      clear hP hF hT hB hpm hpa hpb hkk
      obtain ⟨va, vl, gn⟩ := HGI.out.2.2 pa hpaG
      obtain ⟨ua, ul, hn'⟩ := HHI.out.2.2 pb hpbH
      have hwq0 : w.heap.size < wq.heap.size := by omega
      have hwq1 : w.heap.size + 1 < wq.heap.size := by omega
      obtain ⟨X, hX⟩ : ∃ X, G[pa] = X := ⟨_, rfl⟩
      obtain ⟨Y, hY⟩ : ∃ Y, H[pb] = Y := ⟨_, rfl⟩
      have hGX : G[pa]? = some X := by rw [List.getElem?_eq_getElem hpaG, hX]
      have hHY : H[pb]? = some Y := by rw [List.getElem?_eq_getElem hpbH, hY]
      rw [hX] at gn
      rw [hY] at hn'
      have tS : ∀ b, S b → b < w.heap.size := HZ.out.1
      have CA0 : Hid (∀ U, Below wq.heap.size wq U → Calls Tryd.prog 32 #[.agg #[.int .i64 X.k, .string X.nm, va, vl, .bool X.op], .agg #[.int .i64 Y.k, .string Y.nm, ua, ul, .bool Y.op]] U fun e w' => e = .returned (.bool (alikeB X Y)) ∧ Below wq.heap.size wq w') := Lib.hid fun U hU => by
        have hV : Below w.heap.size w U := (H1.out.1.trans (HQ.out.2.2.2.1.mono (by omega))).trans (hU.mono (by omega))
        have hs := hV.size
        exact (alike_any S S X Y _ _ _ _ U (gn.ha.carry (keeps_of hV tS) fun _ h => h) (hn'.ha.carry (keeps_of hV tS) fun _ h => h) (gn.hl.carry (keeps_of hV tS) fun _ h => h) (hn'.hl.carry (keeps_of hV tS) fun _ h => h) (fun b hb => by have := tS b hb; omega) (fun b hb => by have := tS b hb; omega)).mono fun e w' h => ⟨h.1, hU.trans (h.2.mono hU.size)⟩
      obtain ⟨xa, ca, ga, oa, rfl, hxa, hna⟩ := gn.ha.open_
      obtain ⟨xl, cl, gl, ol, rfl, -, -⟩ := gn.hl.open_
      obtain ⟨ya, da, ga', oa', rfl, hya, hma⟩ := hn'.ha.open_
      obtain ⟨yl, dl, gl', ol', rfl, -, -⟩ := hn'.hl.open_
      obtain ⟨xo, hxo⟩ : ∃ n, og + pa * 5 = n := ⟨_, rfl⟩
      obtain ⟨yo, hyo⟩ : ∃ n, oh + pb * 5 = n := ⟨_, rfl⟩
      have c0' := gn.c0
      have c1' := gn.c1
      have c2' := gn.c2
      have c3' := gn.c3
      have c4' := gn.c4
      have d0' := hn'.c0
      have d1' := hn'.c1
      have d2' := hn'.c2
      have d3' := hn'.c3
      have d4' := hn'.c4
      rw [hxo] at c0' c1' c2' c3' c4'
      rw [hyo] at d0' d1' d2' d3' d4'
      obtain ⟨na, hna2⟩ : ∃ n, X.args.length = n := ⟨_, rfl⟩
      obtain ⟨nl, hnl⟩ : ∃ n, X.labels.length = n := ⟨_, rfl⟩
      obtain ⟨ma, hma2⟩ : ∃ n, Y.args.length = n := ⟨_, rfl⟩
      obtain ⟨ml, hml⟩ : ∃ n, Y.labels.length = n := ⟨_, rfl⟩
      obtain ⟨k0, hk0⟩ : ∃ n, X.k = n := ⟨_, rfl⟩
      obtain ⟨k1, hk1⟩ : ∃ n, X.nm = n := ⟨_, rfl⟩
      obtain ⟨k4, hk4⟩ : ∃ n, X.op = n := ⟨_, rfl⟩
      obtain ⟨h0, hh0⟩ : ∃ n, Y.k = n := ⟨_, rfl⟩
      obtain ⟨h1, hh1⟩ : ∃ n, Y.nm = n := ⟨_, rfl⟩
      obtain ⟨h4, hh4⟩ : ∃ n, Y.op = n := ⟨_, rfl⟩
      obtain ⟨ab, hab⟩ : ∃ n, alikeB X Y = n := ⟨_, rfl⟩
      have CA1 := CA0.out
      rw [hna2, hnl, hma2, hml, hk0, hk1, hk4, hh0, hh1, hh4, hab] at CA1
      have CA := Lib.hid CA1
      clear CA0 CA1
      rw [hna2] at c2' hxa
      rw [hnl] at c3'
      rw [hma2] at d2' hya
      rw [hml] at d3'
      rw [hk0] at c0'
      rw [hk1] at c1'
      rw [hk4] at c4'
      rw [hh0] at d0'
      rw [hh1] at d1'
      rw [hh4] at d4'
      have kg := tS gg q3
      have kh := tS gh p3
      have XS : Hid (∀ V, Below w1.heap.size w1 V → (V.cell? ⟨w.heap.size, 0, none⟩ = some (.slice (some ⟨gg, og, none⟩) ng cg) ∧ V.cell? ⟨w.heap.size + 1, 0, none⟩ = some (.slice (some ⟨gh, oh, none⟩) nh ch) ∧ V.cell? ⟨gg, xo, none⟩ = some (.int .i64 k0) ∧ V.cell? ⟨gg, xo + 1, none⟩ = some (.string k1) ∧ V.cell? ⟨gg, xo + 2, none⟩ = some (.slice xa na ca) ∧ V.cell? ⟨gg, xo + 3, none⟩ = some (.slice xl nl cl) ∧ V.cell? ⟨gg, xo + 4, none⟩ = some (.bool k4) ∧ V.cell? ⟨gh, yo, none⟩ = some (.int .i64 h0) ∧ V.cell? ⟨gh, yo + 1, none⟩ = some (.string h1) ∧ V.cell? ⟨gh, yo + 2, none⟩ = some (.slice ya ma da) ∧ V.cell? ⟨gh, yo + 3, none⟩ = some (.slice yl ml dl) ∧ V.cell? ⟨gh, yo + 4, none⟩ = some (.bool h4)) ∧ (∀ j (hj : j < X.args.length), V.cell? ⟨ga, oa + j, none⟩ = some (.int .i64 X.args[j]) ∧ ga < V.heap.size) ∧ (∀ j (hj : j < Y.args.length), V.cell? ⟨ga', oa' + j, none⟩ = some (.int .i64 Y.args[j]) ∧ ga' < V.heap.size) ∧ w.heap.size + 1 < V.heap.size ∧ gg < V.heap.size ∧ gh < V.heap.size) := Lib.hid fun V hV1 => by
        have hV : Below w.heap.size w V := H1.out.1.trans (hV1.mono (by omega))
        have hvs := hV1.size
        have g9 := XG.out V hV1
        exact ⟨⟨Lib.cell_of_heap g9.2.2.2.1 0, Lib.cell_of_heap g9.2.2.2.2 0,
          (hV.cell (p := ⟨gg, _, none⟩) kg).trans c0', (hV.cell (p := ⟨gg, _, none⟩) kg).trans c1', (hV.cell (p := ⟨gg, _, none⟩) kg).trans c2', (hV.cell (p := ⟨gg, _, none⟩) kg).trans c3', (hV.cell (p := ⟨gg, _, none⟩) kg).trans c4',
          (hV.cell (p := ⟨gh, _, none⟩) kh).trans d0', (hV.cell (p := ⟨gh, _, none⟩) kh).trans d1', (hV.cell (p := ⟨gh, _, none⟩) kh).trans d2', (hV.cell (p := ⟨gh, _, none⟩) kh).trans d3', (hV.cell (p := ⟨gh, _, none⟩) kh).trans d4'⟩,
          fun j hj => by
            have k := HZ.out.1 ga (hxa (by omega)).2.2.2
            exact ⟨(hV.cell (p := ⟨ga, _, none⟩) k).trans (hna j hj), by omega⟩,
          fun j hj => by
            have k := HZ.out.1 ga' (hya (by omega)).2.2.2
            exact ⟨(hV.cell (p := ⟨ga', _, none⟩) k).trans (hma j hj), by omega⟩, by omega, by omega, by omega⟩
      have SO : Hid (∀ V, Below wq.heap.size wq V → V.cell? ⟨w.heap.size, 0, none⟩ = some (.slice (some ⟨gg, og, none⟩) ng cg) ∧ V.cell? ⟨w.heap.size + 1, 0, none⟩ = some (.slice (some ⟨gh, oh, none⟩) nh ch) ∧ V.cell? ⟨gg, xo, none⟩ = some (.int .i64 k0) ∧ V.cell? ⟨gg, xo + 1, none⟩ = some (.string k1) ∧ V.cell? ⟨gg, xo + 2, none⟩ = some (.slice xa na ca) ∧ V.cell? ⟨gg, xo + 3, none⟩ = some (.slice xl nl cl) ∧ V.cell? ⟨gg, xo + 4, none⟩ = some (.bool k4) ∧ V.cell? ⟨gh, yo, none⟩ = some (.int .i64 h0) ∧ V.cell? ⟨gh, yo + 1, none⟩ = some (.string h1) ∧ V.cell? ⟨gh, yo + 2, none⟩ = some (.slice ya ma da) ∧ V.cell? ⟨gh, yo + 3, none⟩ = some (.slice yl ml dl) ∧ V.cell? ⟨gh, yo + 4, none⟩ = some (.bool h4)) := Lib.hid fun U hU => (XS.out U (HQ.out.2.2.2.1.trans (hU.mono (by omega)))).1
      have HX := Lib.hid (And.intro hGX (And.intro hHY (And.intro hna2 (And.intro hma2 (And.intro hab (And.intro hxa hya))))))
      clear hX hY hGX hHY hxa hna hya hma gn hn' tS c0' c1' c2' c3' c4' d0' d1' d2' d3' d4' hna2 hnl hma2 hml hk0 hk1 hk4 hh0 hh1 hh4 hab
      have HXO := Lib.hid (And.intro hxo hyo)
      have hBB : Below wq.heap.size wq wq.drew.drew := (Below.refl _ _).drew.drew
      go_wp2_with fail
      go_region
      go_wp2_with fail
      clear c0 c1
      cases ab with
      | false =>
        have hno := HQ.out.1.no1 (List.mem_of_getElem? HKK.out) HX.out.1 HX.out.2.1 HX.out.2.2.2.2.1
        have HNO := Lib.hid hno
        clear hno
        refine wp_region_held_drew (S := fun V => V.cell? ⟨w.heap.size, 0, none⟩ = some (.slice (some ⟨gg, og, none⟩) ng cg) ∧ V.cell? ⟨w.heap.size + 1, 0, none⟩ = some (.slice (some ⟨gh, oh, none⟩) nh ch) ∧ V.cell? ⟨gg, xo, none⟩ = some (.int .i64 k0) ∧ V.cell? ⟨gg, xo + 1, none⟩ = some (.string k1) ∧ V.cell? ⟨gg, xo + 2, none⟩ = some (.slice xa na ca) ∧ V.cell? ⟨gg, xo + 3, none⟩ = some (.slice xl nl cl) ∧ V.cell? ⟨gg, xo + 4, none⟩ = some (.bool k4) ∧ V.cell? ⟨gh, yo, none⟩ = some (.int .i64 h0) ∧ V.cell? ⟨gh, yo + 1, none⟩ = some (.string h1) ∧ V.cell? ⟨gh, yo + 2, none⟩ = some (.slice ya ma da) ∧ V.cell? ⟨gh, yo + 3, none⟩ = some (.slice yl ml dl) ∧ V.cell? ⟨gh, yo + 4, none⟩ = some (.bool h4)) (by kernel_rfl) (SO.out _ hBB) (fun hHeld => ?_)
        refine wpAnyH_take (i := 0) (v := ?_) rfl (by kernel_rfl) (by kernel_rfl) (by kernel_rfl) (fun _ _ _ h => h) (Or.inl ⟨by rfl, ?_⟩) (by assumption) ?_
        rotate_left
        · intro w hSw
          (try dsimp only at hSw)
          go_simp
          try with_reducible rfl
        try simp only [List.getElem_toArray, List.getElem_cons_zero, List.getElem_cons_succ, Act.put, List.setIfInBounds_toArray, List.set_cons_zero, List.set_cons_succ]
        refine wpAnyH_take (i := 1) (v := ?_) rfl (by kernel_rfl) (by kernel_rfl) (by kernel_rfl) (fun _ _ _ h => h) (Or.inl ⟨by rfl, ?_⟩) (by assumption) ?_
        rotate_left
        · intro w hSw
          (try dsimp only at hSw)
          go_simp
          try with_reducible rfl
        try simp only [List.getElem_toArray, List.getElem_cons_zero, List.getElem_cons_succ, Act.put, List.setIfInBounds_toArray, List.set_cons_zero, List.set_cons_succ]
        refine wpAnyH_take (i := 2) (v := ?_) rfl (by kernel_rfl) (by kernel_rfl) (by kernel_rfl) (fun _ _ _ h => h) (Or.inl ⟨by rfl, ?_⟩) (by assumption) ?_
        rotate_left
        · intro w hSw
          (try dsimp only at hSw)
          go_simp
          try with_reducible rfl
        try simp only [List.getElem_toArray, List.getElem_cons_zero, List.getElem_cons_succ, Act.put, List.setIfInBounds_toArray, List.set_cons_zero, List.set_cons_succ]
        refine wpAnyH_take (i := 3) (v := ?_) rfl (by kernel_rfl) (by kernel_rfl) (by kernel_rfl) (fun _ _ _ h => h) (Or.inl ⟨by rfl, ?_⟩) (by assumption) ?_
        rotate_left
        · intro w hSw
          (try dsimp only at hSw)
          go_simp
          try with_reducible rfl
        try simp only [List.getElem_toArray, List.getElem_cons_zero, List.getElem_cons_succ, Act.put, List.setIfInBounds_toArray, List.set_cons_zero, List.set_cons_succ]
        refine wpAnyH_take (i := 4) (v := ?_) rfl (by kernel_rfl) (by kernel_rfl) (by kernel_rfl) (fun _ _ _ h => h) (Or.inl ⟨by rfl, ?_⟩) (by assumption) ?_
        rotate_left
        · intro w hSw
          (try dsimp only at hSw)
          go_simp
          try with_reducible rfl
        try simp only [List.getElem_toArray, List.getElem_cons_zero, List.getElem_cons_succ, Act.put, List.setIfInBounds_toArray, List.set_cons_zero, List.set_cons_succ]
        refine wpAnyH_take (i := 5) (v := ?_) rfl (by kernel_rfl) (by kernel_rfl) (by kernel_rfl) (fun _ _ _ h => h) (Or.inl ⟨by rfl, ?_⟩) (by assumption) ?_
        rotate_left
        · intro w hSw
          (try dsimp only at hSw)
          go_simp
          try with_reducible rfl
        try simp only [List.getElem_toArray, List.getElem_cons_zero, List.getElem_cons_succ, Act.put, List.setIfInBounds_toArray, List.set_cons_zero, List.set_cons_succ]
        refine wpAnyH_take (i := 6) (v := ?_) rfl (by kernel_rfl) (by kernel_rfl) (by kernel_rfl) (fun _ _ _ h => h) (Or.inl ⟨by rfl, ?_⟩) (by assumption) ?_
        rotate_left
        · intro w hSw
          (try dsimp only at hSw)
          go_simp
          try with_reducible rfl
        try simp only [List.getElem_toArray, List.getElem_cons_zero, List.getElem_cons_succ, Act.put, List.setIfInBounds_toArray, List.set_cons_zero, List.set_cons_succ]
        refine wpAnyH_take (i := 7) (v := ?_) rfl (by kernel_rfl) (by kernel_rfl) (by kernel_rfl) (fun _ _ _ h => h) (Or.inl ⟨by rfl, ?_⟩) (by assumption) ?_
        rotate_left
        · intro w hSw
          (try dsimp only at hSw)
          go_simp
          try with_reducible rfl
        try simp only [List.getElem_toArray, List.getElem_cons_zero, List.getElem_cons_succ, Act.put, List.setIfInBounds_toArray, List.set_cons_zero, List.set_cons_succ]
        refine wpAnyH_take (i := 8) (v := ?_) rfl (by kernel_rfl) (by kernel_rfl) (by kernel_rfl) (fun _ _ _ h => h) (Or.inl ⟨by rfl, ?_⟩) (by assumption) ?_
        rotate_left
        · intro w hSw
          (try dsimp only at hSw)
          go_simp
          try with_reducible rfl
        try simp only [List.getElem_toArray, List.getElem_cons_zero, List.getElem_cons_succ, Act.put, List.setIfInBounds_toArray, List.set_cons_zero, List.set_cons_succ]
        refine wpAnyH_take (i := 9) (v := ?_) rfl (by kernel_rfl) (by kernel_rfl) (by kernel_rfl) (fun _ _ _ h => h) (Or.inl ⟨by rfl, ?_⟩) (by assumption) ?_
        rotate_left
        · intro w hSw
          (try dsimp only at hSw)
          go_simp
          try with_reducible rfl
        try simp only [List.getElem_toArray, List.getElem_cons_zero, List.getElem_cons_succ, Act.put, List.setIfInBounds_toArray, List.set_cons_zero, List.set_cons_succ]
        refine wpAnyH_ready (rs := [10]) (by kernel_rfl) (by simp) ?_
        refine AllReadyH.cons (by simp only [List.getElem?_toArray, List.getElem?_cons_zero, List.getElem?_cons_succ]; rfl) (fun K hK => ?_) AllReadyH.nil
        go_simp
        (go_at_call 32; with_reducible refine (CA.out _ hBB).mono ?_; rintro e9 w9 ⟨rfl, hBB⟩)
        go_wp2_with fail
        refine hK.out _ _ (by first | assumption | exact SO.out _ (by first | exact hBB | exact dN_below hBB _ | exact hBB.drew)) (fun hHeld => ?_)
        try simp only [List.getElem_toArray, List.getElem_cons_zero, List.getElem_cons_succ, Act.put, List.setIfInBounds_toArray, List.set_cons_zero, List.set_cons_succ]
        refine wpAnyH_take (i := 11) (v := ?_) rfl (by kernel_rfl) (by kernel_rfl) (by kernel_rfl) (fun _ _ _ h => h) (Or.inl ⟨by rfl, ?_⟩) (by assumption) ?_
        rotate_left
        · intro w hSw
          (try dsimp only at hSw)
          go_simp
          try with_reducible rfl
        try simp only [List.getElem_toArray, List.getElem_cons_zero, List.getElem_cons_succ, Act.put, List.setIfInBounds_toArray, List.set_cons_zero, List.set_cons_succ]
        refine wpAnyH_done (by kernel_rfl) ?_ _
        go_wp2_with fail
        go_ret
        refine ⟨by rw [HNO.out]; rfl, ?_⟩
        exact (H1.out.1.trans (HQ.out.2.2.2.1.mono (by omega))).trans ((show Below wq.heap.size wq _ by first | exact hBB | exact dN_below hBB _ | exact hBB.drew).mono (by omega))
      | true =>
        have hal := alikeB_iff.1 HX.out.2.2.2.2.1
        have HNM := Lib.hid (show na = ma by have h := hal.2.2.2.1; rw [HX.out.2.2.1, HX.out.2.2.2.1] at h; exact h)
        clear hal
        refine wp_region_held_drew (S := fun V => V.cell? ⟨w.heap.size, 0, none⟩ = some (.slice (some ⟨gg, og, none⟩) ng cg) ∧ V.cell? ⟨w.heap.size + 1, 0, none⟩ = some (.slice (some ⟨gh, oh, none⟩) nh ch) ∧ V.cell? ⟨gg, xo, none⟩ = some (.int .i64 k0) ∧ V.cell? ⟨gg, xo + 1, none⟩ = some (.string k1) ∧ V.cell? ⟨gg, xo + 2, none⟩ = some (.slice xa na ca) ∧ V.cell? ⟨gg, xo + 3, none⟩ = some (.slice xl nl cl) ∧ V.cell? ⟨gg, xo + 4, none⟩ = some (.bool k4) ∧ V.cell? ⟨gh, yo, none⟩ = some (.int .i64 h0) ∧ V.cell? ⟨gh, yo + 1, none⟩ = some (.string h1) ∧ V.cell? ⟨gh, yo + 2, none⟩ = some (.slice ya ma da) ∧ V.cell? ⟨gh, yo + 3, none⟩ = some (.slice yl ml dl) ∧ V.cell? ⟨gh, yo + 4, none⟩ = some (.bool h4)) (by kernel_rfl) (SO.out _ hBB) (fun hHeld => ?_)
        refine wpAnyH_take (i := 0) (v := ?_) rfl (by kernel_rfl) (by kernel_rfl) (by kernel_rfl) (fun _ _ _ h => h) (Or.inl ⟨by rfl, ?_⟩) (by assumption) ?_
        rotate_left
        · intro w hSw
          (try dsimp only at hSw)
          go_simp
          try with_reducible rfl
        try simp only [List.getElem_toArray, List.getElem_cons_zero, List.getElem_cons_succ, Act.put, List.setIfInBounds_toArray, List.set_cons_zero, List.set_cons_succ]
        refine wpAnyH_take (i := 1) (v := ?_) rfl (by kernel_rfl) (by kernel_rfl) (by kernel_rfl) (fun _ _ _ h => h) (Or.inl ⟨by rfl, ?_⟩) (by assumption) ?_
        rotate_left
        · intro w hSw
          (try dsimp only at hSw)
          go_simp
          try with_reducible rfl
        try simp only [List.getElem_toArray, List.getElem_cons_zero, List.getElem_cons_succ, Act.put, List.setIfInBounds_toArray, List.set_cons_zero, List.set_cons_succ]
        refine wpAnyH_take (i := 2) (v := ?_) rfl (by kernel_rfl) (by kernel_rfl) (by kernel_rfl) (fun _ _ _ h => h) (Or.inl ⟨by rfl, ?_⟩) (by assumption) ?_
        rotate_left
        · intro w hSw
          (try dsimp only at hSw)
          go_simp
          try with_reducible rfl
        try simp only [List.getElem_toArray, List.getElem_cons_zero, List.getElem_cons_succ, Act.put, List.setIfInBounds_toArray, List.set_cons_zero, List.set_cons_succ]
        refine wpAnyH_take (i := 3) (v := ?_) rfl (by kernel_rfl) (by kernel_rfl) (by kernel_rfl) (fun _ _ _ h => h) (Or.inl ⟨by rfl, ?_⟩) (by assumption) ?_
        rotate_left
        · intro w hSw
          (try dsimp only at hSw)
          go_simp
          try with_reducible rfl
        try simp only [List.getElem_toArray, List.getElem_cons_zero, List.getElem_cons_succ, Act.put, List.setIfInBounds_toArray, List.set_cons_zero, List.set_cons_succ]
        refine wpAnyH_take (i := 4) (v := ?_) rfl (by kernel_rfl) (by kernel_rfl) (by kernel_rfl) (fun _ _ _ h => h) (Or.inl ⟨by rfl, ?_⟩) (by assumption) ?_
        rotate_left
        · intro w hSw
          (try dsimp only at hSw)
          go_simp
          try with_reducible rfl
        try simp only [List.getElem_toArray, List.getElem_cons_zero, List.getElem_cons_succ, Act.put, List.setIfInBounds_toArray, List.set_cons_zero, List.set_cons_succ]
        refine wpAnyH_take (i := 5) (v := ?_) rfl (by kernel_rfl) (by kernel_rfl) (by kernel_rfl) (fun _ _ _ h => h) (Or.inl ⟨by rfl, ?_⟩) (by assumption) ?_
        rotate_left
        · intro w hSw
          (try dsimp only at hSw)
          go_simp
          try with_reducible rfl
        try simp only [List.getElem_toArray, List.getElem_cons_zero, List.getElem_cons_succ, Act.put, List.setIfInBounds_toArray, List.set_cons_zero, List.set_cons_succ]
        refine wpAnyH_take (i := 6) (v := ?_) rfl (by kernel_rfl) (by kernel_rfl) (by kernel_rfl) (fun _ _ _ h => h) (Or.inl ⟨by rfl, ?_⟩) (by assumption) ?_
        rotate_left
        · intro w hSw
          (try dsimp only at hSw)
          go_simp
          try with_reducible rfl
        try simp only [List.getElem_toArray, List.getElem_cons_zero, List.getElem_cons_succ, Act.put, List.setIfInBounds_toArray, List.set_cons_zero, List.set_cons_succ]
        refine wpAnyH_take (i := 7) (v := ?_) rfl (by kernel_rfl) (by kernel_rfl) (by kernel_rfl) (fun _ _ _ h => h) (Or.inl ⟨by rfl, ?_⟩) (by assumption) ?_
        rotate_left
        · intro w hSw
          (try dsimp only at hSw)
          go_simp
          try with_reducible rfl
        try simp only [List.getElem_toArray, List.getElem_cons_zero, List.getElem_cons_succ, Act.put, List.setIfInBounds_toArray, List.set_cons_zero, List.set_cons_succ]
        refine wpAnyH_take (i := 8) (v := ?_) rfl (by kernel_rfl) (by kernel_rfl) (by kernel_rfl) (fun _ _ _ h => h) (Or.inl ⟨by rfl, ?_⟩) (by assumption) ?_
        rotate_left
        · intro w hSw
          (try dsimp only at hSw)
          go_simp
          try with_reducible rfl
        try simp only [List.getElem_toArray, List.getElem_cons_zero, List.getElem_cons_succ, Act.put, List.setIfInBounds_toArray, List.set_cons_zero, List.set_cons_succ]
        refine wpAnyH_take (i := 9) (v := ?_) rfl (by kernel_rfl) (by kernel_rfl) (by kernel_rfl) (fun _ _ _ h => h) (Or.inl ⟨by rfl, ?_⟩) (by assumption) ?_
        rotate_left
        · intro w hSw
          (try dsimp only at hSw)
          go_simp
          try with_reducible rfl
        try simp only [List.getElem_toArray, List.getElem_cons_zero, List.getElem_cons_succ, Act.put, List.setIfInBounds_toArray, List.set_cons_zero, List.set_cons_succ]
        refine wpAnyH_ready (rs := [10]) (by kernel_rfl) (by simp) ?_
        refine AllReadyH.cons (by simp only [List.getElem?_toArray, List.getElem?_cons_zero, List.getElem?_cons_succ]; rfl) (fun K hK => ?_) AllReadyH.nil
        go_simp
        (go_at_call 32; with_reducible refine (CA.out _ hBB).mono ?_; rintro e9 w9 ⟨rfl, hBB⟩)
        go_wp2_with fail
        refine hK.out _ _ (by first | assumption | exact SO.out _ (by first | exact hBB | exact dN_below hBB _ | exact hBB.drew)) (fun hHeld => ?_)
        try simp only [List.getElem_toArray, List.getElem_cons_zero, List.getElem_cons_succ, Act.put, List.setIfInBounds_toArray, List.set_cons_zero, List.set_cons_succ]
        refine wpAnyH_take (i := 11) (v := ?_) rfl (by kernel_rfl) (by kernel_rfl) (by kernel_rfl) (fun _ _ _ h => h) (Or.inl ⟨by rfl, ?_⟩) (by assumption) ?_
        rotate_left
        · intro w hSw
          (try dsimp only at hSw)
          go_simp
          try with_reducible rfl
        try simp only [List.getElem_toArray, List.getElem_cons_zero, List.getElem_cons_succ, Act.put, List.setIfInBounds_toArray, List.set_cons_zero, List.set_cons_succ]
        refine wpAnyH_done (by kernel_rfl) ?_ _
        have s9 := hBB.size
        have B9 : Below w1.heap.size w1 w9 := HQ.out.2.2.2.1.trans (hBB.mono (by omega))
        have T9 := own_below HQ.out.2.2.1 hBB
        have F9 : Below tb W5 w9 := HQ.out.2.1.trans (hBB.mono (by omega))
        have H9 := Lib.hid (And.intro B9 (And.intro T9 F9))
        obtain ⟨⟨z0, z1, z2, z3, z4, z5, z6, z7, z8, z9, z10, z11⟩, -, -, y1, y2, y3⟩ := XS.out w9 B9
        have y0 : w.heap.size < w9.heap.size := by omega
        have hna2 : na ≤ 2000 := by
          have := HZ.out.2.2.2 X (List.mem_of_getElem? HX.out.1)
          rw [HX.out.2.2.1] at this
          exact this
        clear hBB B9 T9 F9 hHeld hK SO CA
        go_wp2_with fail
        clear z0 z1 z2 z3 z4 z5 z6 z7 z8 z9 z10 z11 y0 y1 y2 y3 hxo hyo
        go_loopg [5, 67] na (fun gk v i wz => ∃ (j : Nat) (L2 : List (Nat × Nat)), gk = na - j ∧ i = .int .i64 (j : Int) ∧ j ≤ na ∧ wz.ownsRow tb 61 2 v L2.length (pcs L2) ∧ Pairs G H r s L2 k ∧ L2[k]? = some (pa, pb) ∧ (∀ (i : Nat) (c d : Int), i < j → X.args[i]? = some c → Y.args[i]? = some d → (c.toNat, d.toNat) ∈ L2) ∧ Below tb W5 wz)
        case atStart => exact ⟨0, L, by simp, by first | rfl | simp, Nat.zero_le _, by rw [HLN.out]; exact H9.out.2.1, HQ.out.1, HKK.out, fun _ _ _ h => absurd h (Nat.not_lt_zero _), H9.out.2.2⟩
        case round => as_aux_lemma =>
          obtain ⟨j, L2, rfl, rfl, hj, hT2, hP2, hk2, hkid, hF2⟩ := hrel
          obtain ⟨wz, rfl⟩ : ∃ wz, wz = wr := ⟨_, rfl⟩
          have sz := hF2.size
          have hLN2 := PL.out L2 k hP2
          have hk2' : k < L2.length := (List.getElem?_eq_some_iff.1 hk2).1
          obtain ⟨l2, hl2⟩ : ∃ n, L2.length = n := ⟨_, rfl⟩
          rw [hl2] at hT2 hLN2 hk2'
          obtain ⟨vg2, vc2, rfl, hvc, hvm, hvb, hvw⟩ := own_some hT2 (by omega)
          unfold maxLen at hvm
          by_cases hlt2 : j < na
          · have hi2' : (j : Int) < (na : Int) := by omega
            have Bz : Below w1.heap.size w1 wz := H5.out.1.trans (hF2.mono (by omega))
            obtain ⟨⟨z0, z1, -, -, z4, -, -, -, -, z9, -, -⟩, ya, yb, y1, y2, y3⟩ := XS.out wz Bz
            have hjX : j < X.args.length := by have := HX.out.2.2.1; omega
            have hjY : j < Y.args.length := by have := HX.out.2.2.2.1; have := HNM.out; omega
            obtain ⟨e1, e1'⟩ := ya j hjX
            obtain ⟨e2, e2'⟩ := yb j hjY
            have fx := fit_args ((checkG_ok.1 HKG.out).2.2 X (List.mem_of_getElem? HX.out.1)) _ (List.getElem_mem hjX)
            have fy := fit_args ((checkG_ok.1 HKH.out).2.2 Y (List.mem_of_getElem? HX.out.2.1)) _ (List.getElem_mem hjY)
            obtain ⟨ci, hci⟩ : ∃ c, X.args[j] = c := ⟨_, rfl⟩
            obtain ⟨di, hdi⟩ : ∃ c, Y.args[j] = c := ⟨_, rfl⟩
            rw [hci] at e1 fx
            rw [hdi] at e2 fy
            obtain ⟨cn, rfl⟩ : ∃ n : Nat, ci = (n : Int) := ⟨ci.toNat, by omega⟩
            obtain ⟨dn, rfl⟩ : ∃ n : Nat, di = (n : Int) := ⟨di.toNat, by omega⟩
            have y0 : w.heap.size < wz.heap.size := by omega
            obtain ⟨rfl, u1, u2, -⟩ := HX.out.2.2.2.2.2.1 (by omega)
            obtain ⟨rfl, u3, u4, -⟩ := HX.out.2.2.2.2.2.2 (by have := HNM.out; omega)
            have hnm := HNM.out
            have u5 : (j : Int) < (ma : Int) := by omega
            unfold maxLen at u2 u4
            have hci2 : X.args[j]? = some (cn : Int) := by rw [List.getElem?_eq_getElem hjX, hci]
            have hdi2 : Y.args[j]? = some (dn : Int) := by rw [List.getElem?_eq_getElem hjY, hdi]
            have HC := Lib.hid (And.intro hP2 (And.intro hk2 (And.intro hkid (And.intro hF2 (And.intro hT2 (And.intro Bz (And.intro hci2 (And.intro hdi2 hl2))))))))
            have HC2 := Lib.hid (And.intro fx fy)
            clear hP2 hk2 hkid hF2 hT2 Bz hci hdi hci2 hdi2 hl2 hjX hjY fx fy ya yb hnm
            obtain ⟨hxo, hyo⟩ := HXO.out
            go_wp2_with fail
            go_region
            go_wp2_with fail
            clear z0 z1 z4 z9 y0 y1 y2 y3 e1 e2 e1' e2' u1 u2 u3 u4 u5 hxo hyo
            obtain ⟨W6, hW6⟩ : ∃ W6, (wz.alloc (.cells #[.int .i64 (cn : Int), .int .i64 (dn : Int)] 61)).drew = W6 := ⟨_, rfl⟩
            rw [hW6]
            obtain ⟨nb, hnb⟩ : ∃ nb, wz.heap.size = nb := ⟨_, rfl⟩
            rw [hnb]
            have s6e : W6.heap.size = nb + 1 := by rw [← hW6, ← hnb]; simp [World.drew]
            have s6a : W6.heap.size ≤ nb + 1 := by omega
            have s6b : nb + 1 ≤ W6.heap.size := by omega
            clear s6e
            have B6 : Below wz.heap.size wz W6 := by rw [← hW6]; exact ((Below.refl _ _).alloc (Nat.le_refl _) _).drew
            have N6 : W6.heap[nb]? = some (.cells #[.int .i64 (cn : Int), .int .i64 (dn : Int)] 61) := by rw [← hW6, ← hnb]; exact heap_last rfl
            have T6 := own_below HC.out.2.2.2.2.1 B6
            have hnbz : nb = wz.heap.size := hnb.symm
            have vgn : vg2 < nb := by omega
            have H6 := Lib.hid (And.intro B6 (And.intro N6 (And.intro T6 hnbz)))
            clear B6 N6 T6 hnbz hnb hW6
            go_loopg [11, 91] l2 (fun gk mv i wy => ∃ (q : Nat) (mb : Bool), gk = l2 - q ∧ mv = .bool mb ∧ i = .int .i64 (q : Int) ∧ q ≤ l2 ∧ (mb = true ↔ (cn, dn) ∈ L2.take q) ∧ Below W6.heap.size W6 wy)
            case atStart => exact ⟨0, false, by simp, by first | rfl | simp, by first | rfl | simp, Nat.zero_le _, by simp, Below.refl _ _⟩
            case round => as_aux_lemma =>
              obtain ⟨q, mb, rfl, rfl, rfl, hq, hmb, hB7⟩ := hrel
              obtain ⟨wy, rfl⟩ : ∃ wy, wy = wr := ⟨_, rfl⟩
              have s7 := hB7.size
              by_cases hlt3 : q < l2
              · have hi3' : (q : Int) < (l2 : Int) := by omega
                have T7 := own_below H6.out.2.2.1 hB7
                obtain ⟨r0, r1⟩ := own_pair T7 HC.out.2.2.2.2.2.2.2.2 q hlt3
                have hqL : q < L2.length := by have := HC.out.2.2.2.2.2.2.2.2; omega
                have hqq : L2[q]? = some L2[q] := List.getElem?_eq_getElem hqL
                obtain ⟨⟨qa, qb⟩, hqe⟩ : ∃ p, L2[q] = p := ⟨_, rfl⟩
                rw [hqe] at r0 r1 hqq
                simp only at r0 r1
                have N7 := (hB7.block nb (by omega)).trans H6.out.2.1
                have n0 := Lib.cell_of_heap N7 0
                have n1 := Lib.cell_of_heap N7 1
                simp only [List.getElem?_toArray, List.getElem?_cons_zero, List.getElem?_cons_succ] at n0 n1
                have wn : nb < wy.heap.size := by omega
                have wv : vg2 < wy.heap.size := by omega
                have htk : L2.take (q + 1) = L2.take q ++ [(qa, qb)] := by rw [List.take_add_one, hqq]; rfl
                have HD := Lib.hid (And.intro hmb (And.intro hB7 htk))
                clear hmb hB7 T7 hqe hqq htk N7
                cases mb with
                | true =>
                  go_wp2_with fail
                  go_roundg (l2 - (q + 1))
                  case measure => omega
                  case rel =>
                    obtain ⟨hmb, hB7, htk⟩ := HD.out
                    refine ⟨q + 1, true, rfl, by first | rfl | simp, by first | rfl | simp, hlt3, ?_, hB7.alloc (by omega) _⟩
                    rw [htk]
                    exact ⟨fun _ => List.mem_append.2 (.inl (hmb.1 trivial)), fun _ => by trivial⟩
                | false =>
                  have hEQ := eqArr
                  by_cases ea : qa = cn
                  · by_cases eb : qb = dn
                    · subst ea eb
                      go_wp2_with fail
                      go_roundg (l2 - (q + 1))
                      case measure => omega
                      case rel =>
                        obtain ⟨hmb, hB7, htk⟩ := HD.out
                        refine ⟨q + 1, true, rfl, by first | rfl | simp, by first | rfl | simp, hlt3, ?_, (hB7.alloc (by omega) _)⟩
                        rw [htk]
                        exact ⟨fun _ => List.mem_append.2 (.inr (by simp)), fun _ => by trivial⟩
                    · have z : ((qb : Int) == (dn : Int)) = false := by simp; omega
                      have z' : (qb == dn) = false := by simpa using eb
                      subst ea
                      go_wp2_with fail
                      go_roundg (l2 - (q + 1))
                      case measure => omega
                      case rel =>
                        obtain ⟨hmb, hB7, htk⟩ := HD.out
                        refine ⟨q + 1, false, rfl, by first | rfl | simp, by first | rfl | simp, hlt3, ?_, (hB7.alloc (by omega) _)⟩
                        rw [htk]
                        refine ⟨fun h => (by cases h), fun h => ?_⟩
                        rcases List.mem_append.1 h with h | h
                        · exact hmb.2 h
                        · simp at h; omega
                  · have z : ((qa : Int) == (cn : Int)) = false := by simp; omega
                    have z' : (qa == cn) = false := by simpa using ea
                    go_wp2_with fail
                    go_roundg (l2 - (q + 1))
                    case measure => omega
                    case rel =>
                      obtain ⟨hmb, hB7, htk⟩ := HD.out
                      refine ⟨q + 1, false, rfl, by first | rfl | simp, by first | rfl | simp, hlt3, ?_, (hB7.alloc (by omega) _)⟩
                      rw [htk]
                      refine ⟨fun h => (by cases h), fun h => ?_⟩
                      rcases List.mem_append.1 h with h | h
                      · exact hmb.2 h
                      · simp at h; omega
              · have hi3' : ¬ (q : Int) < (l2 : Int) := by omega
                obtain rfl : l2 = q := by omega
                have htk : L2.take l2 = L2 := List.take_of_length_le (by have := HC.out.2.2.2.2.2.2.2.2; omega)
                rw [htk] at hmb
                have T7 := own_below H6.out.2.2.1 hB7
                have F7 : Below tb W5 wy := (HC.out.2.2.2.1.trans (H6.out.1.mono (by omega))).trans (hB7.mono (by omega))
                cases mb with
                | true =>
                  have HD := Lib.hid (And.intro hmb (And.intro T7 F7))
                  clear hmb T7 F7 hB7 htk
                  go_wp2_with fail
                  go_roundg (na - (j + 1))
                  case measure => omega
                  case rel =>
                    refine ⟨j + 1, L2, rfl, by first | rfl | simp, hlt2, by rw [HC.out.2.2.2.2.2.2.2.2]; exact HD.out.2.1, HC.out.1, HC.out.2.1, fun i c d hi hc hd => ?_, HD.out.2.2⟩
                    by_cases e : i = j
                    · subst e
                      rw [HC.out.2.2.2.2.2.2.1] at hc
                      rw [HC.out.2.2.2.2.2.2.2.1] at hd
                      cases hc; cases hd
                      exact HD.out.1.1 (by trivial)
                    · exact HC.out.2.2.1 i c d (by omega) hc hd
                | false =>
                  have N7 := (hB7.block nb (by omega)).trans H6.out.2.1
                  have n0 := Lib.cell_of_heap N7 0
                  have n1 := Lib.cell_of_heap N7 1
                  simp only [List.getElem?_toArray, List.getElem?_cons_zero, List.getElem?_cons_succ] at n0 n1
                  have wn : nb < wy.heap.size := by omega
                  have HOA := Lib.hid (T7.alloc (.cells #[.int .i64 (cn : Int), .int .i64 (dn : Int)] 61))
                  have HNA := Lib.hid (new_cells wy [.int .i64 (cn : Int), .int .i64 (dn : Int)] 61)
                  have H1A : Hid (∀ u ∈ ([.int .i64 (cn : Int), .int .i64 (dn : Int)] : List Value), u.oneCell' = true) := Lib.hid fun u hu => by
                    simp only [List.mem_cons, List.not_mem_nil, or_false] at hu
                    rcases hu with rfl | rfl <;> rfl
                  have hnm : (cn, dn) ∉ L2 := fun h => by have := hmb.2 h; cases this
                  have HD := Lib.hid (And.intro hnm (And.intro T7 F7))
                  clear hmb T7 F7 hB7 htk N7 hnm
                  go_wp2_with (at_builtin; (refine wpList_append_own_at _ rfl (.tmp 104) (.tmp 106) _ rfl tb 61 i0 _ 2 16 Tryd.underlying62 HI.out.1 HI.out.2.1 HI.out.2.2.1 HI.out.2.2.2 rfl (by decide) (.slice (some ⟨vg2, 0, none⟩) l2 vc2) l2 (pcs L2) rfl HOA.out ⟨wy.heap.size, 0, none⟩ 1 1 [.int .i64 (cn : Int), .int .i64 (dn : Int)] rfl rfl HNA.out H1A.out (by unfold maxLen; omega) (by omega) (by simp; omega) ?_); (intro v5 w5 hown5 hg5 _ _); (obtain ⟨y5, d5, rfl⟩ := own_shape hown5); (have H5' := Lib.hid (And.intro hown5 hg5)); clear hown5 hg5)
                  go_roundg (na - (j + 1))
                  case measure => omega
                  case rel =>
                    have hl2 := HC.out.2.2.2.2.2.2.2.2
                    refine ⟨j + 1, L2 ++ [(cn, dn)], rfl, by first | rfl | simp, hlt2, ?_, HC.out.1.add HD.out.1 ⟨by have := HC2.out; omega, by have := HC2.out; omega⟩ (fun R hR hM => ?_) (by omega), by rw [List.getElem?_append_left (by omega)]; exact HC.out.2.1, fun i c d hi hc hd => ?_, ?_⟩
                    · rw [pcs_append, List.length_append, hl2]; exact H5'.out.1
                    · have := HC.out.1.kid (List.mem_of_getElem? HC.out.2.1) HX.out.1 HX.out.2.1 HC.out.2.2.2.2.2.2.1 HC.out.2.2.2.2.2.2.2.1 R hR hM
                      exact this
                    · by_cases e : i = j
                      · subst e
                        rw [HC.out.2.2.2.2.2.2.1] at hc
                        rw [HC.out.2.2.2.2.2.2.2.1] at hd
                        cases hc; cases hd
                        exact List.mem_append.2 (.inr (by simp))
                      · exact List.mem_append.2 (.inl (HC.out.2.2.1 i c d (by omega) hc hd))
                    · exact (HD.out.2.2.alloc (by omega) _).grown H5'.out.2 (by simp; omega) (fun k hk => (HD.out.2.1.lt k hk).1)
          · have hi2' : ¬ (j : Int) < (na : Int) := by omega
            obtain rfl : na = j := by omega
            have HD := Lib.hid (And.intro hT2 (And.intro hP2 (And.intro hk2 (And.intro hkid (And.intro hF2 hl2)))))
            clear hT2 hP2 hk2 hkid hF2 hl2
            go_wp2_with fail
            go_roundg (NN - (k + 1))
            case measure => omega
            case rel =>
              obtain ⟨hT2, hP2, hk2, hkid, hF2, hl2⟩ := HD.out
              refine ⟨L2, k + 1, rfl, by first | rfl | simp, by omega, by rw [hl2]; exact hT2, hP2.next hk2 HX.out.1 HX.out.2.1 HX.out.2.2.2.2.1 (fun i c d hc hd => hkid i c d ?_ hc hd), hF2⟩
              have := (List.getElem?_eq_some_iff.1 hc).1
              have := HX.out.2.2.1
              omega
    · have hi' : ¬ (k : Int) < (ln : Int) := by omega
      obtain rfl : ln = k := by omega
      have hP' : Pairs G H r s L L.length := by rw [HLN.out]; exact hP
      have HQ := Lib.hid (And.intro hP' (And.intro hB hT))
      clear hP hB hT hP' hF
      go_wp2_with fail
      go_loopg [111] ln (fun gk i wp => ∃ a : Nat, gk = ln - a ∧ i = .int .i64 (a : Int) ∧ a ≤ ln ∧ Below wq.heap.size wq wp ∧ ∀ p ∈ L.take a, ∀ q ∈ L, FreeAlike G p q)
      case atStart => exact ⟨0, by simp, by first | rfl | simp, Nat.zero_le _, Below.refl _ _, fun p hp => by simp at hp⟩
      case round => as_aux_lemma =>
        obtain ⟨a, rfl, rfl, ha, hB1, hfr⟩ := hrel
        obtain ⟨wp, rfl⟩ : ∃ wp, wp = wr := ⟨_, rfl⟩
        have s1 := hB1.size
        by_cases hlt2 : a < ln
        · have hi2' : (a : Int) < (ln : Int) := by omega
          have T1 := own_below HQ.out.2.2 hB1
          obtain ⟨r0, r1⟩ := own_pair T1 HLN.out a hlt2
          have haL : a < L.length := by have := HLN.out; omega
          have haa : L[a]? = some L[a] := List.getElem?_eq_getElem haL
          obtain ⟨⟨pa, pb⟩, hpe⟩ : ∃ p, L[a] = p := ⟨_, rfl⟩
          rw [hpe] at r0 r1 haa
          simp only at r0 r1
          have wv : tg < wp.heap.size := by omega
          have hrn2 := HQ.out.1.lt _ (List.mem_of_getElem? haa)
          rw [HGI.out.1] at hrn2
          have hpan : pa < ng := hrn2.1
          have hpan' : (pa : Int) < (ng : Int) := by omega
          have hpaG : pa < G.length := by rw [HGI.out.1]; exact hpan
          obtain ⟨rfl, q1, q2, q3⟩ := HGI.out.2.1 (by omega)
          rw [HGI.out.1] at q1
          unfold maxLen at q2
          obtain ⟨va, vl, gn⟩ := HGI.out.2.2 pa hpaG
          have hfit := (checkG_ok.1 HKG.out).2.2 _ (List.getElem_mem hpaG)
          have hfs := free_same hfit
          obtain ⟨X, hX⟩ : ∃ X, G[pa] = X := ⟨_, rfl⟩
          have hGX : G[pa]? = some X := by rw [List.getElem?_eq_getElem hpaG, hX]
          rw [hX] at gn hfs
          obtain ⟨xa, ca, ga, oa, rfl, -, -⟩ := gn.ha.open_
          obtain ⟨xl, cl, gl, ol, rfl, -, -⟩ := gn.hl.open_
          obtain ⟨xo, hxo⟩ : ∃ n, og + pa * 5 = n := ⟨_, rfl⟩
          have c0' := gn.c0
          have c1' := gn.c1
          have c2' := gn.c2
          have c3' := gn.c3
          have c4' := gn.c4
          rw [hxo] at c0' c1' c2' c3' c4'
          obtain ⟨na, hna2⟩ : ∃ n, X.args.length = n := ⟨_, rfl⟩
          obtain ⟨nl, hnl⟩ : ∃ n, X.labels.length = n := ⟨_, rfl⟩
          obtain ⟨k0, hk0⟩ : ∃ n, X.k = n := ⟨_, rfl⟩
          obtain ⟨k1, hk1⟩ : ∃ n, X.nm = n := ⟨_, rfl⟩
          obtain ⟨k4, hk4⟩ : ∃ n, X.op = n := ⟨_, rfl⟩
          rw [hna2] at c2'
          rw [hnl] at c3'
          rw [hk0] at c0' hfs
          rw [hk1] at c1'
          rw [hk4] at c4' hfs
          obtain ⟨fb, hfb⟩ : ∃ b, X.freeB = b := ⟨_, rfl⟩
          rw [hfb] at hfs
          have kg : gg < w.heap.size := HZ.out.1 gg q3
          have XS : Hid (∀ V, Below w1.heap.size w1 V → (V.cell? ⟨w.heap.size, 0, none⟩ = some (.slice (some ⟨gg, og, none⟩) ng cg) ∧ V.cell? ⟨gg, xo, none⟩ = some (.int .i64 k0) ∧ V.cell? ⟨gg, xo + 1, none⟩ = some (.string k1) ∧ V.cell? ⟨gg, xo + 2, none⟩ = some (.slice xa na ca) ∧ V.cell? ⟨gg, xo + 3, none⟩ = some (.slice xl nl cl) ∧ V.cell? ⟨gg, xo + 4, none⟩ = some (.bool k4)) ∧ w.heap.size + 1 < V.heap.size ∧ gg < V.heap.size) := Lib.hid fun V hV1 => by
            have hV : Below w.heap.size w V := H1.out.1.trans (hV1.mono (by omega))
            have hvs := hV1.size
            have g9 := XG.out V hV1
            exact ⟨⟨Lib.cell_of_heap g9.2.2.2.1 0,
              (hV.cell (p := ⟨gg, _, none⟩) kg).trans c0', (hV.cell (p := ⟨gg, _, none⟩) kg).trans c1', (hV.cell (p := ⟨gg, _, none⟩) kg).trans c2', (hV.cell (p := ⟨gg, _, none⟩) kg).trans c3', (hV.cell (p := ⟨gg, _, none⟩) kg).trans c4'⟩, by omega, by omega⟩
          have CF : Hid (∀ U, Calls Tryd.prog 31 #[.agg #[.int .i64 k0, .string k1, .slice xa na ca, .slice xl nl cl, .bool k4]] U fun e w' => e = .returned (.bool fb) ∧ Below U.heap.size U w') := Lib.hid fun U => by
            have := refFree_any k0 k1 xa xl na ca nl cl k4 U
            rw [hfs] at this
            exact this
          have HX := Lib.hid (And.intro hGX hfb)
          have HXO := Lib.hid hxo
          have htk : L.take (a + 1) = L.take a ++ [(pa, pb)] := by rw [List.take_add_one, haa]; rfl
          have HO := Lib.hid (And.intro hB1 (And.intro hfr (And.intro htk haa)))
          clear hX hGX gn c0' c1' c2' c3' c4' hna2 hnl hk0 hk1 hk4 hfs hfb hfit hxo hB1 hfr htk haa T1 hpe hrn2
          go_wp2_with fail
          obtain ⟨W7, hW7⟩ : ∃ W7, wp.alloc (.cells #[.int .i64 (pa : Int), .int .i64 (pb : Int)] 61) = W7 := ⟨_, rfl⟩
          rw [hW7]
          obtain ⟨pk, hpk⟩ : ∃ pk, wp.heap.size = pk := ⟨_, rfl⟩
          rw [hpk]
          have s7e : W7.heap.size = pk + 1 := by rw [← hW7, ← hpk]; simp
          have s7a : W7.heap.size ≤ pk + 1 := by omega
          have s7b : pk + 1 ≤ W7.heap.size := by omega
          have pka : pk ≤ wp.heap.size := by omega
          have pkb : wp.heap.size ≤ pk := by omega
          have B7 : Below wq.heap.size wq W7 := by rw [← hW7]; exact HO.out.1.alloc (by omega) _
          have N7 : W7.heap[pk]? = some (.cells #[.int .i64 (pa : Int), .int .i64 (pb : Int)] 61) := by rw [← hW7, ← hpk]; exact heap_last rfl
          have H7 := Lib.hid (And.intro B7 N7)
          clear B7 N7 hpk hW7 s7e r0 r1
          go_loopg [117] ln (fun gk i wy => ∃ b : Nat, gk = ln - b ∧ i = .int .i64 (b : Int) ∧ b ≤ ln ∧ Below W7.heap.size W7 wy ∧ ∀ q ∈ L.take b, FreeAlike G (pa, pb) q)
          case atStart => exact ⟨0, by simp, by first | rfl | simp, Nat.zero_le _, Below.refl _ _, fun p hp => by simp at hp⟩
          case round => as_aux_lemma =>
            obtain ⟨b, rfl, rfl, hb, hB2, hfr2⟩ := hrel
            obtain ⟨wy, rfl⟩ : ∃ wy, wy = wr := ⟨_, rfl⟩
            have s2 := hB2.size
            by_cases hlt3 : b < ln
            · have hi3' : (b : Int) < (ln : Int) := by omega
              have BQ : Below wq.heap.size wq wy := H7.out.1.trans (hB2.mono (by omega))
              have T2 := own_below HQ.out.2.2 BQ
              obtain ⟨r0, r1⟩ := own_pair T2 HLN.out b hlt3
              have hbL : b < L.length := by have := HLN.out; omega
              have hbb : L[b]? = some L[b] := List.getElem?_eq_getElem hbL
              obtain ⟨⟨qa, qb⟩, hqe⟩ : ∃ p, L[b] = p := ⟨_, rfl⟩
              rw [hqe] at r0 r1 hbb
              simp only at r0 r1
              have wv2 : tg < wy.heap.size := by omega
              have B1y : Below w1.heap.size w1 wy := HQ.out.2.1.trans (BQ.mono (by omega))
              obtain ⟨⟨z0, z1, z2, z3, z4, z5⟩, y1, y2⟩ := XS.out wy B1y
              have y0 : w.heap.size < wy.heap.size := by omega
              have hxo := HXO.out
              have N8 := (hB2.block pk (by omega)).trans H7.out.2
              have n0 := Lib.cell_of_heap N8 0
              have n1 := Lib.cell_of_heap N8 1
              simp only [List.getElem?_toArray, List.getElem?_cons_zero, List.getElem?_cons_succ] at n0 n1
              have wpk : pk < wy.heap.size := by omega
              have htk2 : L.take (b + 1) = L.take b ++ [(qa, qb)] := by rw [List.take_add_one, hbb]; rfl
              have HE := Lib.hid (And.intro hB2 (And.intro hfr2 (And.intro htk2 (And.intro hbb n0))))
              have HE2 := Lib.hid n1
              clear hB2 hfr2 htk2 hbb hqe T2 BQ B1y N8
              go_wp2_with fail
              refine (CF.out _).mono ?_
              rintro e9 w9 ⟨rfl, hB9⟩
              have s9 := hB9.size
              simp only [World.size_alloc] at s9
              have m0 : w9.cell? ⟨pk, 0, none⟩ = some (.int .i64 (pa : Int)) := (hB9.cell (p := ⟨pk, 0, none⟩) (by simp; omega)).trans (((Below.refl wy.heap.size wy).alloc (Nat.le_refl _) _).cell (p := ⟨pk, 0, none⟩) wpk |>.trans HE.out.2.2.2.2)
              have m1 : w9.cell? ⟨pk, 1, none⟩ = some (.int .i64 (pb : Int)) := (hB9.cell (p := ⟨pk, 1, none⟩) (by simp; omega)).trans (((Below.refl wy.heap.size wy).alloc (Nat.le_refl _) _).cell (p := ⟨pk, 1, none⟩) wpk |>.trans HE2.out)
              have x0 : w9.cell? ⟨wy.heap.size, 0, none⟩ = some (.int .i64 (qa : Int)) := (hB9.cell (p := ⟨wy.heap.size, 0, none⟩) (by simp)).trans (Lib.cell_of_heap (heap_alloc_new wy _) 0)
              have x1 : w9.cell? ⟨wy.heap.size, 1, none⟩ = some (.int .i64 (qb : Int)) := (hB9.cell (p := ⟨wy.heap.size, 1, none⟩) (by simp)).trans (Lib.cell_of_heap (heap_alloc_new wy _) 1)
              have wpk9 : pk < w9.heap.size := by omega
              have wy9 : wy.heap.size < w9.heap.size := by omega
              have B29 : Below W7.heap.size W7 w9 := (HE.out.1.alloc (by omega) _).trans (hB9.mono (by simp; omega))
              have H9 := Lib.hid B29
              clear hB9 B29 z0 z1 z2 z3 z4 z5 hxo r0 r1 n0 n1
              have fin : Hid (FreeAlike G (pa, pb) (qa, qb) → ∀ q ∈ L.take (b + 1), FreeAlike G (pa, pb) q) := Lib.hid fun h q hq => by
                rw [HE.out.2.2.1] at hq
                rcases List.mem_append.1 hq with hq | hq
                · exact HE.out.2.1 q hq
                · rw [List.mem_singleton.1 hq]; exact h
              cases fb with
              | false =>
                go_wp2_with fail
                go_roundg (ln - (b + 1))
                case measure => omega
                case rel =>
                  refine ⟨b + 1, rfl, by first | rfl | simp, hlt3, H9.out, fin.out fun x hx hf => ?_⟩
                  rw [HX.out.1] at hx
                  cases hx
                  rw [HX.out.2] at hf; cases hf
              | true =>
                by_cases hok : (pa = qa ↔ pb = qb)
                · have hfin := fin.out fun x _ _ => hok
                  have HFIN := Lib.hid hfin
                  clear hfin
                  by_cases ea : pa = qa
                  · have eb := hok.1 ea
                    subst ea eb
                    clear hok
                    go_wp2_with fail
                    go_roundg (ln - (b + 1))
                    case measure => omega
                    case rel => exact ⟨b + 1, rfl, by first | rfl | simp, hlt3, H9.out, HFIN.out⟩
                  · have eb : pb ≠ qb := fun h => ea (hok.2 h)
                    have z1 : (pa == qa) = false := by simpa using ea
                    have z2 : (pb == qb) = false := by simpa using eb
                    have z3 : ((pa : Int) == (qa : Int)) = false := by simp; omega
                    have z4 : ((pb : Int) == (qb : Int)) = false := by simp; omega
                    clear hok
                    go_wp2_with fail
                    go_roundg (ln - (b + 1))
                    case measure => omega
                    case rel => exact ⟨b + 1, rfl, by first | rfl | simp, hlt3, H9.out, HFIN.out⟩
                · have hno := HQ.out.1.no2 (List.mem_of_getElem? HO.out.2.2.2) (List.mem_of_getElem? HE.out.2.2.2.1) HX.out.1 HX.out.2 hok
                  have HNO := Lib.hid hno
                  have hBF : Below w.heap.size w w9 := H1.out.1.trans ((HQ.out.2.1.trans ((H7.out.1.trans (H9.out.mono (by omega))).mono (by omega))).mono (by omega))
                  have HBF := Lib.hid hBF
                  clear hno hBF
                  by_cases ea : pa = qa
                  · have eb : pb ≠ qb := fun h => hok ⟨fun _ => h, fun _ => ea⟩
                    subst ea
                    have z2 : (pb == qb) = false := by simpa using eb
                    have z4 : ((pb : Int) == (qb : Int)) = false := by simp; omega
                    clear hok
                    go_wp2_with fail
                    go_ret
                    exact ⟨by rw [HNO.out]; rfl, HBF.out⟩
                  · have eb : pb = qb := by
                      rcases Nat.decEq pb qb with h | h
                      · exact absurd ⟨fun h2 => absurd h2 ea, fun h2 => absurd h2 h⟩ hok
                      · exact h
                    subst eb
                    have z1 : (pa == qa) = false := by simpa using ea
                    have z3 : ((pa : Int) == (qa : Int)) = false := by simp; omega
                    clear hok
                    go_wp2_with fail
                    go_ret
                    exact ⟨by rw [HNO.out]; rfl, HBF.out⟩
            · have hi3' : ¬ (b : Int) < (ln : Int) := by omega
              obtain rfl : ln = b := by omega
              have HD := Lib.hid (And.intro hB2 hfr2)
              clear hB2 hfr2
              go_wp2_with fail
              go_roundg (ln - (a + 1))
              case measure => omega
              case rel =>
                refine ⟨a + 1, rfl, by first | rfl | simp, hlt2, H7.out.1.trans (HD.out.1.mono (by omega)), fun p hp q hq => ?_⟩
                rw [HO.out.2.2.1] at hp
                rcases List.mem_append.1 hp with hp | hp
                · exact HO.out.2.1 p hp q hq
                · rw [List.mem_singleton.1 hp]
                  exact HD.out.2 q (by rw [List.take_of_length_le (by have := HLN.out; omega)]; exact hq)
        · have hi2' : ¬ (a : Int) < (ln : Int) := by omega
          obtain rfl : ln = a := by omega
          have hyes : sameGr G (r : Int) H (s : Int) = true := HQ.out.1.yes HKG.out HKH.out fun p hp q hq => hfr p (by rw [List.take_of_length_le (by have := HLN.out; omega)]; exact hp) q hq
          have hBF : Below w.heap.size w wp := H1.out.1.trans ((HQ.out.2.1.trans (hB1.mono (by omega))).mono (by omega))
          have HY := Lib.hid (And.intro hyes hBF)
          clear hyes hBF hB1 hfr
          go_wp2_with fail
          go_ret
          exact ⟨by rw [HY.out.1]; rfl, HY.out.2⟩
end Go.Proofs.YtelmigkbofnicaaDoor
