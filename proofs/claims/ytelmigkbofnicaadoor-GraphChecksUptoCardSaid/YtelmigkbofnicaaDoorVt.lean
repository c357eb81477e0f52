/- trefoilref06.Trim told. -/
import Derived.Test.YtelmigkbofnicaaDoorVc
import Derived.Test.YtelmigkbofnicaaDoorVr
import Derived.Test.YtelmigkbofnicaaDoorFr
namespace Go.Proofs.YtelmigkbofnicaaDoor
open Go.ChangeShapes Go.WideShapes Go.ChangeAt Go.RowKit

/-- What is reached: once each, in range; whatever a node leads to too. -/
theorem reachG_all {G : List GN} {r : Int} (aG : ∀ x ∈ G, x.args.length ≤ 2000) : (reachG G r).Nodup ∧ (∀ x ∈ reachG G r, x < G.length ∧ checkG G r = 0) ∧ (∀ a ∈ reachG G r, ∀ c ∈ argsOf G a, c ∈ reachG G r) := by
  by_cases hok : checkG G r = 0
  · obtain ⟨h1, h2, _, h4, _⟩ := reachG_done hok aG
    exact ⟨h1, fun x hx => ⟨h2 x hx, hok⟩, h4⟩
  · have : reachG G r = [] := by unfold reachG; rw [if_neg hok]
    rw [this]
    exact ⟨List.nodup_nil, fun x hx => (by cases hx), fun x hx => (by cases hx)⟩
/-- Nodes in a row of one's own, what belongs to them in other blocks. -/
def RowN (W : World) (B : Nat) (v : Value) (l : List GN) : Prop := ∃ cs, W.ownsRow B 36 5 v l.length cs ∧ NC W (fun b => B ≤ b ∧ b < W.heap.size ∧ v.ownBlock ≠ some b) l cs
theorem RowN.gr {W : World} {B C : Nat} {v : Value} {l : List GN} (h : RowN W B v l) (hC : C ≤ B) : GrAt W (fun b => C ≤ b ∧ b < W.heap.size) v l := by
  obtain ⟨cs, h1, h2⟩ := h
  exact gr_own h1 h2 (fun b hb => ⟨by omega, hb.2.1⟩) (fun b hb => by have := h1.lt b hb; exact ⟨by omega, this.2⟩)
theorem RowN.of {W W' : World} {B : Nat} {v : Value} {l : List GN} (h : RowN W B v l) (hk : ∀ b, B ≤ b → b < W.heap.size → W'.heap[b]? = W.heap[b]?) (hs : W.heap.size ≤ W'.heap.size) : RowN W' B v l := by
  obtain ⟨cs, h1, h2⟩ := h
  exact ⟨cs, own_same h1 fun q hq => hk q (h1.lt q hq).1 (h1.lt q hq).2, h2.carry (fun b hb => hk b hb.1 hb.2.1) fun b hb => ⟨hb.1, by omega, hb.2.2⟩⟩
/-- A node more. -/
theorem RowN.push {w8 W6 w5 : World} {B : Nat} {v v' : Value} {l : List GN} {x : GN} {va vl : Value} {cs : List Value} (h2 : NC w8 (fun b => B ≤ b ∧ b < w8.heap.size ∧ v.ownBlock ≠ some b) l cs) (ha : Nums w8 (fun b => B ≤ b ∧ b < w8.heap.size ∧ v.ownBlock ≠ some b) va x.args) (hl : Strs w8 (fun b => B ≤ b ∧ b < w8.heap.size ∧ v.ownBlock ≠ some b) vl x.labels)
    (hB : Below w8.heap.size w8 W6) (hg : W6.grownBy w5 v.ownBlock) (hown : w5.ownsRow B 36 5 v' (l.length + 1) (cs ++ [.int .i64 x.k, .string x.nm, va, vl, .bool x.op])) (hat : v'.ownBlock = v.ownBlock ∨ ∃ q, v'.ownBlock = some q ∧ w8.heap.size ≤ q) : RowN w5 B v' (l ++ [x]) := by
  have s1 := hB.size
  have s2 := hg.size
  have hk : ∀ b, (B ≤ b ∧ b < w8.heap.size ∧ v.ownBlock ≠ some b) → w5.heap[b]? = w8.heap[b]? := fun b hb => (hg.block b (by omega) (fun h => hb.2.2 h.symm)).trans (hB.block b hb.2.1)
  have hS : ∀ b, (B ≤ b ∧ b < w8.heap.size ∧ v.ownBlock ≠ some b) → (B ≤ b ∧ b < w5.heap.size ∧ v'.ownBlock ≠ some b) := fun b hb => by
    refine ⟨hb.1, by omega, fun h => ?_⟩
    rcases hat with h' | ⟨q, h', hq⟩
    · exact hb.2.2 (h'.symm.trans h)
    · rw [h'] at h
      have := Option.some.inj h
      omega
  refine ⟨_, by rw [List.length_append]; exact hown, (h2.carry hk hS).append (.cons (ha.carry hk hS) (hl.carry hk hS) .nil)⟩

set_option linter.unusedSimpArgs false in
set_option maxHeartbeats 8000000 in
set_option maxRecDepth 100000 in
theorem reftrim_any (S : Nat → Prop) (vg : Value) (r : Int) (G : List GN) (w : World) (hG : GrAt w S vg G) (hS : ∀ b, S b → b < w.heap.size) (sG : Sized G) (lG : G.length ≤ 2000) (aG : ∀ x ∈ G, x.args.length ≤ 2000) :
    Calls Tryd.prog 12 #[.agg #[vg, .int .i64 r]] w fun e w' => ∃ x m c, e = .returned (.agg #[.slice x m c, .int .i64 0]) ∧ m = (trimL G (reachG G r)).length ∧ GrAt w' (fun b => w.heap.size ≤ b ∧ b < w'.heap.size) (.slice x m c) (trimL G (reachG G r)) ∧ Below w.heap.size w w' := by
  obtain ⟨xg, cg, gg, og, rfl, hxg, hng⟩ := hG.open_
  obtain ⟨n, en⟩ : ∃ n, G.length = n := ⟨_, rfl⟩
  obtain ⟨hLn, hLl, hLc⟩ := reachG_all (r := r) aG
  have hN2 : (reachG G r).length ≤ 2000 := by have := Gu.nodup_le hLn (fun x hx => (hLl x hx).1); omega
  rw [en] at hG hxg ⊢ lG
  obtain ⟨W1, hW1⟩ : ∃ W1, (w.alloc (.cells #[.slice xg n cg, .int .i64 r] 24)).alloc (.cells #[.slice none 0 0, .int .i64 0] 24) = W1 := ⟨_, rfl⟩
  have B1 : Below w.heap.size w W1 := by rw [← hW1]; exact ((Below.refl _ _).alloc (Nat.le_refl _) _).alloc (by simp) _
  have s1 : W1.heap.size = w.heap.size + 2 := by rw [← hW1]; simp
  have b0 : W1.heap[w.heap.size]? = some (.cells #[.slice xg n cg, .int .i64 r] 24) := by rw [← hW1, heap_old (by simp)]; exact heap_last rfl
  have b1 : W1.heap[w.heap.size + 1]? = some (.cells #[.slice none 0 0, .int .i64 0] 24) := by rw [← hW1]; exact heap_last (by simp)
  have C1 := Lib.hid (refreach_any S (.slice xg n cg) r G W1 (hG.carry (keeps_of B1 hS) fun _ h => h) (fun b hb => by have := hS b hb; omega) sG (by omega) aG)
  have HW1 := Lib.hid hW1
  have H0 := Lib.hid (And.intro hxg (And.intro hng (And.intro en (And.intro hS (And.intro sG aG)))))
  obtain ⟨L, hL⟩ : ∃ L, reachG G r = L := ⟨_, rfl⟩
  obtain ⟨N, hN⟩ : ∃ N, L.length = N := ⟨_, rfl⟩
  rw [hL] at C1 hLn hLl hLc hN2 ⊢
  rw [hN] at C1 hN2
  have HL := Lib.hid (And.intro hLn (And.intro hLl (And.intro hLc hN)))
  have HB1 := Lib.hid (And.intro B1 (And.intro b0 b1))
  clear hxg hng hS sG aG hL hLn hLl hLc hN B1 b0 b1 hG hW1
  go_enter Tryd.func12, Tryd.ntmps12
  go_wp2_with fail
  rw [HW1.out]
  refine C1.out.mono ?_
  rintro e2 W2 ⟨v2, rfl, ho2, hB2⟩
  have s2 := hB2.size
  clear C1 HW1
  obtain ⟨xl2, cl, rfl⟩ := own_shape ho2
  have HO2 : Hid (∀ i, i < N → ∃ gl, xl2 = some ⟨gl, 0, none⟩ ∧ gl < W2.heap.size ∧ w.heap.size + 2 ≤ gl ∧ N ≤ cl ∧ cl ≤ maxLen ∧ ∀ i q : Nat, L[i]? = some q → W2.cell? ⟨gl, i, none⟩ = some (.int .i64 (q : Int))) := Lib.hid fun i hi => by
    rcases ho2.2 with ⟨_, h0⟩ | ⟨g, cap, cur, hv, h1, h2, h3, h4, _⟩
    · omega
    · cases hv
      have := ho2.lt g rfl
      refine ⟨g, rfl, this.2, by omega, h3, h4, fun i q hq => ?_⟩
      have hi := (List.getElem?_eq_some_iff.1 hq).1
      rw [ho2.cellAt _ (by have := HL.out.2.2.2; omega)]
      unfold nums
      rw [List.getElem?_map, hq]; rfl
  have HB2 := Lib.hid (And.intro (HB1.out.1.trans (hB2.mono (by omega))) (And.intro ((hB2.block w.heap.size (by omega)).trans HB1.out.2.1) ((hB2.block (w.heap.size + 1) (by omega)).trans HB1.out.2.2)))
  clear ho2 hB2 HB1
  have a0 := Lib.cell_of_heap HB2.out.2.1 0
  simp only [List.getElem?_toArray, List.getElem?_cons_zero, List.getElem?_cons_succ] at a0
  have hl2 : w.heap.size + 1 < W2.heap.size := by omega
  have hl2' : w.heap.size < W2.heap.size := by omega
  have hmk := run_make_row' (P := Tryd.prog) 31 3 (.int .i64 0) 8 Tryd.underlying31 intInfo rfl .i64 .i64 n (by omega) (by omega)
  clear s1 s2
  go_wp2_with fail
  clear hmk a0
  obtain ⟨W3, hW3⟩ : ∃ W3, W2.alloc (.cells (madeCells #[.int .i64 0] n) 3) = W3 := ⟨_, rfl⟩
  obtain ⟨pb, hpb⟩ : ∃ pb, W2.heap.size = pb := ⟨_, rfl⟩
  have A3 : Arr W3 pb n fun _ => 0 := by rw [← hW3, ← hpb]; exact arr_made W2 n _
  have B3 : Below pb W2 W3 := by rw [← hW3, ← hpb]; exact (Below.refl _ _).alloc (Nat.le_refl _) _
  rw [hW3, hpb]
  have HP := Lib.hid hpb
  clear hW3
  rw [hpb] at hl2 hl2'
  go_loopg [18] N (fun gk i wr => ∃ (j : Nat) (f : Nat → Nat), gk = N - j ∧ i = .int .i64 (j : Int) ∧ j ≤ N ∧ Arr wr pb n f ∧ Below pb W2 wr ∧ ∀ (i q : Nat), i < j → L[i]? = some q → f q = i)
  case atStart => exact ⟨0, _, by simp, by first | rfl | simp, Nat.zero_le _, A3, B3, fun _ _ h => absurd h (by omega)⟩
  case round =>
    clear A3 B3
    obtain ⟨j, f, rfl, rfl, hj, hA, hB, hf⟩ := hrel
    have sr := hB.size
    by_cases hlt : j < N
    · have hi' : (j : Int) < (N : Int) := by omega
      obtain ⟨q, hq⟩ : ∃ q, L[j]? = some q := ⟨_, List.getElem?_eq_getElem (by have := HL.out.2.2.2; omega)⟩
      have hqn : q < n := by have h := (HL.out.2.1 q (List.mem_of_getElem? hq)).1; rw [H0.out.2.2.1] at h; exact h
      have hqi : (q : Int) < (n : Int) := by omega
      obtain ⟨gl, rfl, hgl, hgl1, hcl, hcx, hcell⟩ := HO2.out j hlt
      unfold maxLen at hcx
      have e1 : wr.cell? ⟨gl, j, none⟩ = some (.int .i64 (q : Int)) := (World.cell?_of_block (hB.block gl (by have := HP.out; omega))).trans (hcell j q hq)
      have e2 := hA.cell hqn
      have e3 := hA.frozen q
      have hlw : gl < wr.heap.size := by omega
      have hpw := hA.lt
      have HI := Lib.hid (And.intro hA (And.intro hB (And.intro hf hq)))
      clear hA hB hf hq hcell
      go_wp2_with fail
      go_roundg (N - (j + 1))
      case measure => omega
      case rel =>
        obtain ⟨hA, hB, hf, hq⟩ := HI.out
        refine ⟨j + 1, _, rfl, by first | rfl | simp, hlt, hA.set q j, hB.setCell (p := ⟨pb, q, none⟩) (Nat.le_refl _) _, fun i p hi hp => ?_⟩
        unfold Gu.put
        by_cases e : p = q
        · subst e
          rw [if_pos rfl]
          obtain ⟨h1, h2⟩ := List.getElem?_eq_some_iff.1 hp
          obtain ⟨h3, h4⟩ := List.getElem?_eq_some_iff.1 hq
          rcases Nat.lt_trichotomy i j with h | h | h
          · exact absurd (h2.trans h4.symm) (List.pairwise_iff_getElem.1 HL.out.1 i j h1 h3 h)
          · exact h.symm
          · omega
        · rw [if_neg e]
          refine hf i p ?_ hp
          rcases Nat.lt_or_ge i j with h | h
          · exact h
          · obtain rfl : i = j := by omega
            rw [hq] at hp; cases hp; exact absurd rfl e
    · have hi' : ¬ (j : Int) < (N : Int) := by omega
      obtain rfl : N = j := by omega
      obtain ⟨W4, e4⟩ : ∃ W4, W4 = wr := ⟨_, rfl⟩
      rw [← e4] at hA hB sr ⊢
      clear e4
      have HF : Hid (∀ (i q : Nat), L[i]? = some q → f q = i) := Lib.hid fun i q hq => hf i q (by have h := (List.getElem?_eq_some_iff.1 hq).1; have := HL.out.2.2.2; omega) hq
      have HA := Lib.hid hA
      have HB := Lib.hid hB
      have hpw := hA.lt
      clear hA hB hf
      go_wp2_with fail
      obtain ⟨bo, hbo⟩ : ∃ b, W4.heap.size = b := ⟨_, rfl⟩
      obtain ⟨W5, hW5⟩ : ∃ W5, W4.alloc (.cells #[.slice none 0 0, .int .i64 0] 24) = W5 := ⟨_, rfl⟩
      have B5 : Below bo W4 W5 := by rw [← hW5, ← hbo]; exact (Below.refl _ _).alloc (Nat.le_refl _) _
      have M5 : W5.heap[bo]? = some (.cells #[.slice none 0 0, .int .i64 0] 24) := by rw [← hW5, ← hbo]; exact heap_last rfl
      rw [hW5, hbo]
      have HBO := Lib.hid hbo
      have hbp : pb < bo := by omega
      clear hW5 hpw
      have hTl : Hid ((trimL G L).length = N) := Lib.hid (by rw [trimL_len fun x hx => (HL.out.2.1 x hx).1]; exact HL.out.2.2.2)
      obtain ⟨i0, hi0, hz0, hz1, hz2⟩ := info_parts nodeInfoT
      have HI0 := Lib.hid (And.intro hi0 (And.intro hz0 (And.intro hz1 hz2)))
      clear hi0 hz0 hz1 hz2
      go_loopg [30] N (fun gk i wr => ∃ (j : Nat) (v : Value), gk = N - j ∧ i = .int .i64 (j : Int) ∧ j ≤ N ∧ wr.heap[bo]? = some (.cells #[v, .int .i64 0] 24) ∧ RowN wr (bo + 1) v ((trimL G L).take j) ∧ Below bo W4 wr)
      case atStart => exact ⟨0, _, by simp, by first | rfl | simp, Nat.zero_le _, M5, ⟨[], World.ownsRow_nil _ _ _ _, .nil⟩, B5⟩
      case round =>
        clear B5 M5
        obtain ⟨j, v, rfl, rfl, hj, hM, hR, hB⟩ := hrel
        obtain ⟨wz, rfl⟩ : ∃ wz, wz = wr := ⟨_, rfl⟩
        have sr := hB.size
        rw [HBO.out] at sr
        have hBw : Below w.heap.size w wz := HB2.out.1.trans (((HB.out).mono (by omega)).trans (hB.mono (by omega)))
        have k0 : ∀ k, k < bo → wz.heap[k]? = W4.heap[k]? := hB.block
        have b0 : wz.heap[w.heap.size]? = some (.cells #[.slice xg n cg, .int .i64 r] 24) := ((k0 _ (by omega)).trans (HB.out.block w.heap.size (by omega))).trans HB2.out.2.1
        have b1 : wz.heap[w.heap.size + 1]? = some (.cells #[.slice none 0 0, .int .i64 0] 24) := ((k0 _ (by omega)).trans (HB.out.block (w.heap.size + 1) (by omega))).trans HB2.out.2.2
        by_cases hlt : j < N
        · have hi' : (j : Int) < (N : Int) := by omega
          obtain ⟨q, hq⟩ : ∃ q, L[j]? = some q := ⟨_, List.getElem?_eq_getElem (by have := HL.out.2.2.2; omega)⟩
          obtain ⟨hqG, hok⟩ := HL.out.2.1 q (List.mem_of_getElem? hq)
          obtain ⟨gl, rfl, hgl, hgl1, hcl, hcx, hcell⟩ := HO2.out j hlt
          unfold maxLen at hcx
          have e1 : wz.cell? ⟨gl, j, none⟩ = some (.int .i64 (q : Int)) := (World.cell?_of_block ((k0 gl (by have := HP.out; omega)).trans (HB.out.block gl (by have := HP.out; omega)))).trans (hcell j q hq)
          have a0 := Lib.cell_of_heap b0 0
          have a1 := Lib.cell_of_heap hM 0
          have fa1 := Lib.frozen_of_heap hM 0
          simp only [List.getElem?_toArray, List.getElem?_cons_zero, List.getElem?_cons_succ] at a0 a1
          have hen := H0.out.2.2.1
          obtain ⟨rfl, hgc, hgx, hSg⟩ := H0.out.1 (by omega)
          obtain ⟨va, vl, hgn⟩ := H0.out.2.1 q hqG
          have hgn2 := hgn.carry (keeps_of hBw H0.out.2.2.2.1) fun _ h => h
          obtain ⟨xx, hxx⟩ : ∃ x, G[q] = x := ⟨_, rfl⟩
          have hGx : G[q]? = some xx := by rw [List.getElem?_eq_getElem hqG, hxx]
          rw [hxx] at hgn hgn2
          have hfit := (checkG_ok.1 hok).2.2 xx (List.mem_of_getElem? hGx)
          have hfx : xx.args.map (fun a => (f a.toNat : Int)) = (trimN L xx).args := by
            unfold trimN
            refine List.map_congr_left fun a ha => ?_
            have haL : a.toNat ∈ L := by
              refine HL.out.2.2.1 q (List.mem_of_getElem? hq) _ ?_
              rw [argsOf_eq hqG, hxx]
              exact List.mem_map_of_mem ha
            have hix := List.idxOf_lt_length_of_mem haL
            rw [HF.out (L.idxOf a.toNat) a.toNat (by rw [List.getElem?_eq_getElem hix, List.getElem_idxOf])]
          have CC : Hid (∀ V, Below wz.heap.size wz V → Calls Tryd.prog 24 #[.agg #[.int .i64 xx.k, .string xx.nm, va, vl, .bool xx.op], .slice (some ⟨pb, 0, none⟩) n n] V fun e w' => ∃ xa' na' ca' xl' nl' cl', e = .returned (.agg #[.int .i64 xx.k, .string xx.nm, .slice xa' na' ca', .slice xl' nl' cl', .bool xx.op]) ∧ Nums w' (fun b => wz.heap.size ≤ b ∧ b < w'.heap.size) (.slice xa' na' ca') (trimN L xx).args ∧ Strs w' (fun b => wz.heap.size ≤ b ∧ b < w'.heap.size) (.slice xl' nl' cl') xx.labels ∧ Below wz.heap.size wz w') := Lib.hid fun V hV => by
            have hVw : Below w.heap.size w V := hBw.trans (hV.mono hBw.size)
            refine (copy_any S xx va vl pb n n f V (hgn.ha.carry (keeps_of hVw H0.out.2.2.2.1) fun _ h => h) (hgn.hl.carry (keeps_of hVw H0.out.2.2.2.1) fun _ h => h) (fun b hb => Nat.lt_of_lt_of_le (H0.out.2.2.2.1 b hb) hVw.size) (HA.out.of ((hV.block pb (by omega)).trans (k0 pb hbp))) (fun a ha => by have := fit_args hfit a ha; omega) (H0.out.2.2.2.2.2 xx (List.mem_of_getElem? hGx)) (by have := labels_le hfit; have := H0.out.2.2.2.2.2 xx (List.mem_of_getElem? hGx); omega)).mono ?_
            rintro e w' ⟨va', vl', rfl, h1, h2, h3⟩
            rw [hfx] at h1
            obtain ⟨xa', ca', g1, o1, rfl, -, -⟩ := h1.open_
            obtain ⟨xl', cl', g2, o2, rfl, -, -⟩ := h2.open_
            have := hV.size
            exact ⟨xa', _, ca', xl', _, cl', rfl, h1.carry (fun _ _ => rfl) (fun b hb => ⟨by omega, hb.2⟩), h2.carry (fun _ _ => rfl) (fun b hb => ⟨by omega, hb.2⟩), hV.trans (h3.mono hV.size)⟩
          have htk : (trimL G L).take (j + 1) = (trimL G L).take j ++ [trimN L xx] := by
            have h := trimL_get (fun x hx => (HL.out.2.1 x hx).1) (i := j) (by have := HL.out.2.2.2; omega)
            have hqe : L[j]'(by have := HL.out.2.2.2; omega) = q := (List.getElem?_eq_some_iff.1 hq).2
            simp only [hqe, hxx] at h
            rw [List.take_add_one, h]; rfl
          have htl : ((trimL G L).take j).length = j := by rw [List.length_take, hTl.out]; omega
          obtain ⟨xa, ca, ga, oa, rfl, -, -⟩ := hgn2.ha.open_
          obtain ⟨xl, cl', gl', ol, rfl, -, -⟩ := hgn2.hl.open_
          obtain ⟨na, hnal⟩ : ∃ na, xx.args.length = na := ⟨_, rfl⟩
          obtain ⟨nl, hnll⟩ : ∃ nl, xx.labels.length = nl := ⟨_, rfl⟩
          rw [hnal, hnll] at CC
          have c0 := hgn2.c0
          have c1 := hgn2.c1
          have c2 := hgn2.c2
          have c3 := hgn2.c3
          have c4 := hgn2.c4
          rw [hnal] at c2
          rw [hnll] at c3
          have hqn : (q : Int) < (n : Int) := by omega
          have hgw : gg < wz.heap.size := by have := H0.out.2.2.2.1 gg hSg; have := hBw.size; omega
          have hglw : gl < wz.heap.size := by have := HP.out; omega
          have hww : w.heap.size < wz.heap.size := by omega
          have hbw : bo < wz.heap.size := (Array.getElem?_eq_some_iff.1 hM).1
          unfold maxLen at hgx
          obtain ⟨k0', ek0⟩ : ∃ k0, xx.k = k0 := ⟨_, rfl⟩
          obtain ⟨k1, ek1⟩ : ∃ k1, xx.nm = k1 := ⟨_, rfl⟩
          obtain ⟨k4, ek4⟩ : ∃ k4, xx.op = k4 := ⟨_, rfl⟩
          rw [ek0] at c0 CC
          rw [ek1] at c1 CC
          rw [ek4] at c4 CC
          obtain ⟨og', eog⟩ : ∃ o, og + q * 5 = o := ⟨_, rfl⟩
          rw [eog] at c0 c1 c2 c3 c4
          obtain ⟨cs, hown, hnc⟩ := hR
          rw [htl] at hown
          obtain ⟨xo, co, rfl⟩ := own_shape hown
          have HDD : Hid (Below wz.heap.size wz wz.drew) := Lib.hid (Below.refl _ _).drew
          have HR := Lib.hid (And.intro hM (And.intro hown (And.intro hnc (And.intro hB (And.intro htk (And.intro htl (And.intro ek0 (And.intro ek1 ek4))))))))
          clear hM hown hnc hB htk htl hgn hgn2 hxx hGx hfit hfx hnal hnll ek0 ek1 ek4 hcell hq hok b0 b1 k0
          clear hBw
          go_wp2_with fail
          go_region_law (first
            | (refine step_append_lies _ rfl (.tmp 35) (.tmp 43) 22 rfl (bo + 1) 36 i0 _ 5 80 Tryd.underlying22 HI0.out.1 HI0.out.2.1 HI0.out.2.2.1 HI0.out.2.2.2 rfl (by decide) (.slice xo j co) j cs (by simp [Act.eval]) HOA.out ⟨w8.heap.size, 0, none⟩ 1 1 [.int .i64 k0', .string k1, .slice xa' na' ca', .slice xl' nl' cl2, .bool k4] (by simp [Act.eval]) rfl HNA.out H1A.out (by decide) (by unfold maxLen; omega) (by omega) (by simp; omega) _ rfl ?_; intro g2 cap2 w5 hown5 hg5 hat5 hlt5; have hM5 := (hg5.block bo (by rw [World.size_alloc]; omega) (fun h => by have := HOA.out.lt bo h.symm; omega)).trans HMA.out; have m5 := Lib.cell_of_heap hM5 0; have f5 := Lib.frozen_of_heap hM5 0; simp only [List.getElem?_toArray, List.getElem?_cons_zero, List.getElem?_cons_succ] at m5; have hob5 : bo < w5.heap.size := (Array.getElem?_eq_some_iff.1 hM5).1; have H5 := Lib.hid (And.intro hown5 (And.intro hg5 (And.intro hM5 hat5))); clear hown5 hg5 hat5 hM5)
            | (go_simp; go_wp2_with (go_at_call 24; (with_reducible refine (CC.out _ HDD.out).mono ?_); (rintro e8 w8 ⟨xa', na', ca', xl', nl', cl2, rfl, hA8, hL8, hB8⟩); (have s8 := hB8.size); (have hM8 := (hB8.block bo hbw).trans HR.out.1); (have m8 := Lib.cell_of_heap hM8 0); (simp only [List.getElem?_toArray, List.getElem?_cons_zero, List.getElem?_cons_succ] at m8); (have hbw8 : bo < w8.heap.size := Nat.lt_of_lt_of_le hbw s8); (have HO8 := Lib.hid (own_below HR.out.2.1 hB8)); (have HOA := Lib.hid (HO8.out.alloc (.cells #[.int .i64 k0', .string k1, .slice xa' na' ca', .slice xl' nl' cl2, .bool k4] 36))); (have HNA := Lib.hid (new_cells w8 [.int .i64 k0', .string k1, .slice xa' na' ca', .slice xl' nl' cl2, .bool k4] 36)); (have H1A : Hid (∀ u ∈ ([.int .i64 k0', .string k1, .slice xa' na' ca', .slice xl' nl' cl2, .bool k4] : List Value), u.oneCell' = true) := Lib.hid (by simp [Value.oneCell'])); (have HMA : Hid ((w8.alloc (.cells #[.int .i64 k0', .string k1, .slice xa' na' ca', .slice xl' nl' cl2, .bool k4] 36)).heap[bo]? = some (.cells #[.slice xo j co, .int .i64 0] 24)) := Lib.hid ((heap_old hbw8).trans hM8)); (have H8 := Lib.hid (And.intro hA8 (And.intro hL8 hB8))); clear hA8 hL8 hB8 hM8)))
          all_goals
            go_wp2_with fail
            go_roundg (N - (j + 1))
            case measure => omega
            case rel =>
              obtain ⟨hM, hown, hnc, hB, htk, htl, ek0, ek1, ek4⟩ := HR.out
              obtain ⟨hown5, hg5, hM5, hat5⟩ := H5.out
              obtain ⟨hA8, hL8, hB8⟩ := H8.out
              have h9 := heap_setCell_same _ _ 0 _ _ (.slice (some ⟨g2, 0, none⟩) (j + 1) cap2) hM5
              simp only [List.setIfInBounds_toArray, List.set_cons_zero, List.set_cons_succ] at h9
              have s5 := hg5.size
              rw [World.size_alloc] at s5
              subst ek0 ek1 ek4
              refine ⟨j + 1, .slice (some ⟨g2, 0, none⟩) (j + 1) cap2, rfl, by first | rfl | simp, hlt, h9, ?_, ?_⟩
              · rw [htk]
                refine RowN.of (W := w5) (RowN.push (w8 := w8) (x := trimN L xx) (v := .slice xo j co) (cs := cs) (hnc.carry (fun b hb => hB8.block b hb.2.1) (fun b hb => ⟨hb.1, by omega, hb.2.2⟩)) (hA8.carry (fun _ _ => rfl) (fun b hb => ⟨by omega, hb.2, fun h => by have := hown.lt b h; omega⟩)) (hL8.carry (fun _ _ => rfl) (fun b hb => ⟨by omega, hb.2, fun h => by have := hown.lt b h; omega⟩)) ((Below.refl _ _).alloc (Nat.le_refl _) _) hg5 (by rw [htl]; exact hown5) ?_) (fun b hb _ => heap_setCell_other w5 ⟨bo, 0, none⟩ b _ (show b ≠ bo by omega)) (by simp)
                rcases hat5 with h | h
                · exact .inl h.symm
                · exact .inr ⟨g2, rfl, by rw [h, World.size_alloc]; omega⟩
              · exact (((hB.trans (hB8.mono (by omega))).alloc (by omega) _).grown hg5 (by rw [World.size_alloc]; omega) (fun b hb => by have := (hown.lt b hb).1; omega)).setCell (p := ⟨bo, 0, none⟩) (Nat.le_refl _) _
        · have hi' : ¬ (j : Int) < (N : Int) := by omega
          obtain rfl : N = j := by omega
          have hall : (trimL G L).take N = trimL G L := List.take_of_length_le (by rw [hTl.out]; exact Nat.le_refl _)
          rw [hall] at hR
          have hR' := hR
          obtain ⟨cs, hown, -⟩ := hR'
          rw [hTl.out] at hown
          obtain ⟨xo, co, rfl⟩ := own_shape hown
          have a0 := Lib.cell_of_heap hM 0
          have a1 := Lib.cell_of_heap hM 1
          have r0 := Lib.cell_of_heap b1 0
          have r1 := Lib.cell_of_heap b1 1
          have fr0 := Lib.frozen_of_heap b1 0
          have fr1 := Lib.frozen_of_heap b1 1
          simp only [List.getElem?_toArray, List.getElem?_cons_zero, List.getElem?_cons_succ] at a0 a1 r0 r1
          have hbw : bo < wz.heap.size := (Array.getElem?_eq_some_iff.1 hM).1
          have hww : w.heap.size + 1 < wz.heap.size := by omega
          have HR := Lib.hid (And.intro hR (And.intro hBw b1))
          clear hM hR hB hall hown b0 b1 k0 hBw
          go_wp2_with fail
          obtain ⟨hR, hBw, b1⟩ := HR.out
          have g1 := heap_setCell_same wz (w.heap.size + 1) 0 _ _ (.slice xo N co) b1
          have g2 := heap_setCell_same _ (w.heap.size + 1) 1 _ _ (.int .i64 0) g1
          obtain ⟨W9, hW9⟩ : ∃ W9, (wz.setCell ⟨w.heap.size + 1, 0, none⟩ (.slice xo N co)).setCell ⟨w.heap.size + 1, 1, none⟩ (.int .i64 0) = W9 := ⟨_, rfl⟩
          have B9 : Below w.heap.size w W9 := by rw [← hW9]; exact (hBw.setCell (p := ⟨w.heap.size + 1, 0, none⟩) (Nat.le_succ _) _).setCell (p := ⟨w.heap.size + 1, 1, none⟩) (Nat.le_succ _) _
          have k : ∀ b, b ≠ w.heap.size + 1 → W9.heap[b]? = wz.heap[b]? := fun b hb => by
            rw [← hW9]
            exact (heap_setCell_other _ ⟨w.heap.size + 1, 1, none⟩ b _ hb).trans (heap_setCell_other _ ⟨w.heap.size + 1, 0, none⟩ b _ hb)
          have s9 : W9.heap.size = wz.heap.size := by rw [← hW9]; simp
          rw [hW9] at g2 ⊢
          exact bodyPost_ret (results_graph rfl _ _ (w.heap.size + 1) (.slice xo N co) (.int .i64 0) rfl (by rw [Lib.cell_of_heap g2]; rfl) (by rw [Lib.cell_of_heap g2]; rfl)) rfl ⟨xo, _, co, rfl, hTl.out.symm, (hR.of (fun b hb _ => k b (by omega)) (by omega)).gr (by omega), B9⟩
end Go.Proofs.YtelmigkbofnicaaDoor
