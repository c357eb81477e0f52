/- trefoilref06.visit, which calls itself. -/
import Derived.Test.YtelmigkbofnicaaDoorVp
import Derived.Test.YtelmigkbofnicaaDoorGs
import Derived.Test.YtelmigkbofnicaaDoorGy
namespace Go.Proofs.YtelmigkbofnicaaDoor
open Go.ChangeShapes Go.WideShapes Go.ChangeAt Go.RowKit

/-- Which nodes were met. -/
def MetR (W : World) (b N : Nat) (f : Nat → Bool) : Prop := ∃ cs T, W.heap[b]? = some (.cells cs T) ∧ ∀ i, i < N → cs[i]? = some (.bool (f i))
theorem MetR.cell {W : World} {b N : Nat} {f : Nat → Bool} (h : MetR W b N f) {i : Nat} (hi : i < N) : W.cell? ⟨b, i, none⟩ = some (.bool (f i)) := by
  obtain ⟨cs, T, h1, h2⟩ := h
  rw [Lib.cell_of_heap h1]; exact h2 i hi
theorem MetR.frozen {W : World} {b N : Nat} {f : Nat → Bool} (h : MetR W b N f) (i : Nat) : W.frozen? ⟨b, i, none⟩ = false := by
  obtain ⟨cs, T, h1, _⟩ := h
  exact Lib.frozen_of_heap h1 i
theorem MetR.lt {W : World} {b N : Nat} {f : Nat → Bool} (h : MetR W b N f) : b < W.heap.size := by
  obtain ⟨cs, T, h1, _⟩ := h
  exact (Array.getElem?_eq_some_iff.1 h1).1
theorem MetR.of {W W' : World} {b N : Nat} {f : Nat → Bool} (h : MetR W b N f) (hb : W'.heap[b]? = W.heap[b]?) : MetR W' b N f := by
  obtain ⟨cs, T, h1, h2⟩ := h
  exact ⟨cs, T, hb.trans h1, h2⟩
theorem MetR.set {W : World} {b N : Nat} {f g : Nat → Bool} (h : MetR W b N f) {i : Nat} (hi : i < N) (hg : ∀ j, j < N → g j = if j = i then true else f j) : MetR (W.setCell ⟨b, i, none⟩ (.bool true)) b N g := by
  obtain ⟨cs, T, h1, h2⟩ := h
  refine ⟨_, T, heap_setCell_same W b i cs T (.bool true) h1, fun j hj => ?_⟩
  rw [Array.getElem?_setIfInBounds, hg j hj]
  have hz : i < cs.size := (Array.getElem?_eq_some_iff.1 (h2 i hi)).1
  by_cases e : i = j
  · subst e; rw [if_pos rfl, if_pos hz, if_pos rfl]
  · rw [if_neg e, if_neg (fun h => e h.symm)]; exact h2 j hj
/-- What a visit may turn: what was met, the row handed in, new blocks. -/
structure Vis (mb : Nat) (v : Value) (w w' : World) : Prop where
  os : w'.os = w.os
  tape : w'.tape = w.tape
  output : w'.output = w.output
  size : w.heap.size ≤ w'.heap.size
  block : ∀ q, q < w.heap.size → q ≠ mb → v.ownBlock ≠ some q → w'.heap[q]? = w.heap[q]?
def visitGives (B mb n : Nat) (v : Value) (w : World) (res : List Nat) (e : Ending) (w' : World) : Prop :=
  ∃ v', e = .returned v' ∧ w'.ownsRow B 3 1 v' res.length (nums res) ∧ MetR w' mb n (fun i => res.contains i) ∧ Vis mb v w w' ∧ (v'.ownBlock = v.ownBlock ∨ ∃ q, v'.ownBlock = some q ∧ w.heap.size ≤ q)

theorem Vis.trans {mb : Nat} {v v' : Value} {w w1 w2 : World} (h : Vis mb v w w1) (g : Vis mb v' w1 w2) (hv : v'.ownBlock = v.ownBlock ∨ ∃ q, v'.ownBlock = some q ∧ w.heap.size ≤ q) : Vis mb v w w2 :=
  ⟨g.os.trans h.os, g.tape.trans h.tape, g.output.trans h.output, Nat.le_trans h.size g.size, fun q h1 h2 h3 => (g.block q (Nat.lt_of_lt_of_le h1 h.size) h2 (fun e => by
    rcases hv with hv | ⟨p, hv, hp⟩
    · exact h3 (hv.symm.trans e)
    · rw [hv] at e
      have := Option.some.inj e
      omega)).trans (h.block q h1 h2 h3)⟩
theorem Vis.refl (mb : Nat) (v : Value) (w : World) : Vis mb v w w := ⟨rfl, rfl, rfl, Nat.le_refl _, fun _ _ _ _ => rfl⟩
theorem Vis.alloc {mb : Nat} {v : Value} {w w1 : World} (h : Vis mb v w w1) (o : Obj) : Vis mb v w (w1.alloc o) :=
  ⟨h.os, h.tape, h.output, by rw [World.size_alloc]; have := h.size; omega, fun q h1 h2 h3 => (heap_old (by have := h.size; omega)).trans (h.block q h1 h2 h3)⟩

set_option linter.unusedSimpArgs false in
set_option maxHeartbeats 1000000 in
set_option maxRecDepth 100000 in
theorem visit_in (B mb n cm a rn : Nat) (xg : Option Addr) (ng cg : Nat) (order : List Nat) (v : Value) (w : World) (ha : a < n) (hin : a ∈ order) (hm : MetR w mb n (fun i => order.contains i)) (ho : w.ownsRow B 3 1 v order.length (nums order)) (_hc : n ≤ cm) (_hcm : cm ≤ maxLen) :
    Calls Tryd.prog 29 #[.agg #[.slice xg ng cg, .int .i64 (rn : Int)], .int .i64 (a : Int), .slice (some ⟨mb, 0, none⟩) n cm, v] w (visitGives B mb n v w order) := by
  have e1 : w.cell? ⟨mb, a, none⟩ = some (.bool true) := by
    have := hm.cell ha
    rwa [show order.contains a = true by simpa using hin] at this
  have hlt := hm.lt
  have H := Lib.hid (And.intro hm ho)
  have haI : (a : Int) < (n : Int) := by omega
  obtain ⟨xv, cv, rfl⟩ := own_shape ho
  clear hm ho hin
  go_enter Tryd.func29, Tryd.ntmps29
  go_wp2_with fail
  go_ret
  exact ⟨_, rfl, H.out.2.alloc _, H.out.1.of (heap_old hlt), (Vis.refl _ _ _).alloc _, .inl rfl⟩

set_option linter.unusedSimpArgs false in
set_option maxHeartbeats 4000000 in
set_option maxRecDepth 100000 in
theorem visit_any (S : Nat → Prop) (xg : Option Addr) (n cg rn : Nat) (G : List GN) (hn : G.length = n) (hok : checkG G (rn : Int) = 0) (aG : ∀ x ∈ G, x.args.length ≤ 2000) (lG : n ≤ 2000) (B mb cm : Nat) (hmB : mb < B) (hSB : ∀ b, S b → b < B ∧ b ≠ mb) (hc : n ≤ cm) (hcm : cm ≤ maxLen) :
    ∀ (k a : Nat) (order : List Nat) (v : Value) (w : World), a < n → Gu.Some n order → n - order.length ≤ k → GrAt w S (.slice xg n cg) G → MetR w mb n (fun i => order.contains i) → w.ownsRow B 3 1 v order.length (nums order) → B ≤ w.heap.size →
    Calls Tryd.prog 29 #[.agg #[.slice xg n cg, .int .i64 (rn : Int)], .int .i64 (a : Int), .slice (some ⟨mb, 0, none⟩) n cm, v] w (visitGives B mb n v w (Gu.visitL (argsOf G) k a order)) := by
  have hlt : ∀ m, m < n → ∀ c ∈ argsOf G m, c < n := fun m hm c hcc => by
    have := args_lt hok (q := m) (by omega) c hcc
    omega
  have HLT := Lib.hid hlt
  have HAG := Lib.hid (And.intro aG (And.intro hSB (And.intro hn hok)))
  clear hlt aG hSB hok
  intro k
  induction k with
  | zero =>
    intro a order v w ha hs hk hG hm ho hB
    by_cases hin : a ∈ order
    · exact visit_in B mb n cm a rn xg n cg order v w ha hin hm ho hc hcm
    · have := (hs.add ha hin).len
      simp at this
      omega
  | succ k ih =>
    intro a order v w ha hs hk hG hm ho hB
    by_cases hin : a ∈ order
    · have e : Gu.visitL (argsOf G) (k + 1) a order = order := by
        unfold Gu.visitL
        rw [if_pos (by simpa using hin)]
      rw [e]
      exact visit_in B mb n cm a rn xg n cg order v w ha hin hm ho hc hcm
    · have e : Gu.visitL (argsOf G) (k + 1) a order = (argsOf G a).foldl (fun o c => Gu.visitL (argsOf G) k c o) (order ++ [a]) := by
        conv => lhs; unfold Gu.visitL
        rw [if_neg (by simpa using hin)]
      rw [e]
      clear e
      have IH := Lib.hid ih
      clear ih
      have haG : a < G.length := by rw [hn]; exact ha
      have hargs := argsOf_eq haG
      have hlm := hm.lt
      have e1 : w.cell? ⟨mb, a, none⟩ = some (.bool false) := by
        have := hm.cell ha
        rwa [show order.contains a = false by simpa using hin] at this
      have f1 := hm.frozen a
      obtain ⟨xv, cv, rfl⟩ := own_shape ho
      obtain ⟨xg', cg', gg, og, hv', hxg, hng⟩ := hG.open_
      obtain ⟨rfl, rfl⟩ : xg = xg' ∧ cg = cg' := by cases hv'; exact ⟨rfl, rfl⟩
      clear hv'
      obtain ⟨rfl, q1, q2, q3⟩ := hxg (by omega)
      obtain ⟨va, vl, gn⟩ := hng a haG
      obtain ⟨X, hX⟩ : ∃ X, G[a] = X := ⟨_, rfl⟩
      rw [hX] at gn hargs
      have hXl := HAG.out.1 X (by rw [← hX]; exact List.getElem_mem haG)
      obtain ⟨xa, ca, ga, oa, rfl, hxa, hna⟩ := gn.ha.open_
      obtain ⟨na, hna2⟩ : ∃ n, X.args.length = n := ⟨_, rfl⟩
      have c2 := gn.c2
      rw [hna2] at c2 hxa hXl
      have hgB := HAG.out.2.1 gg q3
      have hol : order.length ≤ n := hs.len
      obtain ⟨L, hL⟩ : ∃ L, argsOf G a = L := ⟨_, rfl⟩
      rw [hL] at hargs
      have hLl : L.length = na := by rw [hargs, List.length_map, hna2]
      have hLn : ∀ c ∈ L, c < n := fun c hcc => HLT.out a ha c (by rw [hL]; exact hcc)
      have hfa := fit_args ((checkG_ok.1 HAG.out.2.2.2).2.2 X (by rw [← hX]; exact List.getElem_mem haG))
      have hLg : ∀ (i c : Nat), L[i]? = some c → w.cell? ⟨ga, oa + i, none⟩ = some (.int .i64 (c : Int)) := fun i c hic => by
        rw [hargs, List.getElem?_map, Option.map_eq_some_iff] at hic
        obtain ⟨z, hz, rfl⟩ := hic
        obtain ⟨hi, e⟩ := List.getElem?_eq_some_iff.1 hz
        have := hfa z (List.mem_of_getElem? hz)
        rw [hna i hi, e]
        congr 2
        omega
      rw [hL]
      obtain ⟨on, hon⟩ : ∃ on, order.length = on := ⟨_, rfl⟩
      rw [hon] at ho hk hol
      have H := Lib.hid (And.intro hs (And.intro hG (And.intro hm (And.intro ho (And.intro hin (And.intro hon (And.intro hxa (And.intro hLl (And.intro hLn hLg)))))))))
      have HN2 := Lib.hid hna2
      have haI : (a : Int) < (n : Int) := by omega
      unfold maxLen at hcm q2
      rw [hn] at q1
      have hggw : gg < w.heap.size := by omega
      have w0 : mb ≠ w.heap.size := by omega
      have hgm : gg ≠ mb := hgB.2
      obtain ⟨i1, hi, hj0, hj1, hj2⟩ := info_parts intInfo
      have HI1 := Lib.hid (And.intro hi (And.intro hj0 (And.intro hj1 hj2)))
      rw [hon]
      clear hs hG hm ho hin hon hxa hna hLl hLn hLg hX gn hng hxg hfa hargs hna2 hi hj0 hj1 hj2 hL hn
      have hnm : ∀ j, j < n → (order ++ [a]).contains j = if j = a then true else order.contains j := fun j _ => by
        by_cases e : j = a
        · rw [if_pos e]; simp [e]
        · rw [if_neg e]; simp [e]
      have M2 : MetR (w.setCell ⟨mb, a, none⟩ (.bool true)) mb n (fun i => (order ++ [a]).contains i) := H.out.2.2.1.set ha hnm
      have O2 : (w.setCell ⟨mb, a, none⟩ (.bool true)).ownsRow B 3 1 (.slice xv on cv) on (nums order) := own_same H.out.2.2.2.1 fun q hq => heap_setCell_other _ ⟨mb, a, none⟩ q _ (show q ≠ mb by have := (H.out.2.2.2.1.lt q hq).1; omega)
      have hnc := new_cells2 (w.setCell ⟨mb, a, none⟩ (.bool true)) (.cells #[.slice (some ⟨gg, og, none⟩) n cg, .int .i64 (rn : Int)] 24) [.int .i64 (a : Int)] 3
      rw [World.size_setCell] at hnc
      have HNA := Lib.hid hnc
      have HOA := Lib.hid ((O2.alloc (.cells #[.slice (some ⟨gg, og, none⟩) n cg, .int .i64 (rn : Int)] 24)).alloc (.cells #[.int .i64 (a : Int)] 3))
      have H1A : Hid (∀ u ∈ ([.int .i64 (a : Int)] : List Value), u.oneCell' = true) := Lib.hid fun u hu => by rw [List.mem_singleton.1 hu]; rfl
      have HM2 := Lib.hid M2
      clear hnm M2 O2 hnc
      go_enter Tryd.func29, Tryd.ntmps29
      go_wp2_with (at_builtin; (refine wpList_append_own_at _ rfl (.tmp 19) (.tmp 21) _ rfl B 3 i1 _ 1 8 Tryd.underlying31 HI1.out.1 HI1.out.2.1 HI1.out.2.2.1 HI1.out.2.2.2 rfl (by decide) (.slice xv on cv) on (nums order) rfl HOA.out ⟨w.heap.size + 1, 0, none⟩ 1 1 [.int .i64 (a : Int)] rfl rfl HNA.out H1A.out (by unfold maxLen; omega) (by omega) (by simp; omega) ?_); (intro v3 w3 hown3 hg3 _ hat3); (obtain ⟨x3, c3, rfl⟩ := own_shape hown3); (have hs3 := hg3.size); (simp only [World.size_alloc, World.size_setCell] at hs3); (have hob : ∀ q, (Value.slice xv on cv).ownBlock = some q → B ≤ q ∧ q < w.heap.size := fun q hq => H.out.2.2.2.1.lt q hq); (have hk3 : ∀ q, q < w.heap.size + 2 → (Value.slice xv on cv).ownBlock ≠ some q → w3.heap[q]? = (((w.setCell ⟨mb, a, none⟩ (.bool true)).alloc (.cells #[.slice (some ⟨gg, og, none⟩) n cg, .int .i64 (rn : Int)] 24)).alloc (.cells #[.int .i64 (a : Int)] 3)).heap[q]? := fun q h1 h2 => hg3.block q (by simp; omega) (fun h => h2 h.symm)); (have B3 : w3.heap[w.heap.size]? = some (.cells #[.slice (some ⟨gg, og, none⟩) n cg, .int .i64 (rn : Int)] 24) := (hk3 w.heap.size (by omega) (fun h => by have := hob _ h; omega)).trans ((heap_old (by simp)).trans (heap_last (by simp)))); (have M3 : MetR w3 mb n (fun i => (order ++ [a]).contains i) := HM2.out.of ((hk3 mb (by omega) (fun h => by have := hob _ h; omega)).trans ((heap_old (by simp; omega)).trans (heap_old (by simp; omega))))); (have V3 : Vis mb (.slice xv on cv) w w3 := ⟨hg3.os, hg3.tape, hg3.output, by omega, fun q h1 h2 h3 => (hk3 q (by omega) h3).trans ((heap_old (by simp; omega)).trans ((heap_old (by simp; omega)).trans (heap_setCell_other _ ⟨mb, a, none⟩ q _ h2)))⟩); (have b30 := Lib.cell_of_heap B3 0); (simp only [List.getElem?_toArray, List.getElem?_cons_zero, List.getElem?_cons_succ] at b30); (have kg3 := (World.cell?_of_block (a := ⟨gg, og + a * 5 + 2, none⟩) (V3.block gg hggw hgm (fun h => by have := hob _ h; omega))).trans c2); (have hgg3 : gg < w3.heap.size := by omega); (have hbx3 : w.heap.size < w3.heap.size := by omega); (have H3 := Lib.hid (And.intro hown3 (And.intro B3 (And.intro M3 (And.intro V3 hat3))))); clear hown3 hg3 hat3 hk3 B3 M3 V3 hs3 hob)
      clear b30 kg3 e1 f1 c2
      have HO1 : Hid (∀ q, (Value.slice xv on cv).ownBlock = some q → B ≤ q ∧ q < w.heap.size) := Lib.hid fun q hq => H.out.2.2.2.1.lt q hq
      go_loopg [3, 30] na (fun gk v i wr => ∃ (j : Nat) (o : List Nat), gk = na - j ∧ i = .int .i64 (j : Int) ∧ j ≤ na ∧ o = (L.take j).foldl (fun o c => Gu.visitL (argsOf G) k c o) (order ++ [a]) ∧ Gu.Some n o ∧ on + 1 ≤ o.length ∧ MetR wr mb n (fun i => o.contains i) ∧ wr.ownsRow B 3 1 v o.length (nums o) ∧ Vis mb (.slice xv on cv) w wr ∧ (v.ownBlock = (Value.slice xv on cv).ownBlock ∨ ∃ q, v.ownBlock = some q ∧ w.heap.size < q) ∧ wr.heap[w.heap.size]? = some (.cells #[.slice (some ⟨gg, og, none⟩) n cg, .int .i64 (rn : Int)] 24))
      case atStart =>
        refine ⟨0, order ++ [a], by simp, by first | rfl | simp, Nat.zero_le _, by simp, H.out.1.add ha H.out.2.2.2.2.1, by simp [H.out.2.2.2.2.2.1], H3.out.2.2.1, ?_, H3.out.2.2.2.1, ?_, H3.out.2.1⟩
        · rw [nums_append, List.length_append, H.out.2.2.2.2.2.1]
          exact H3.out.1
        · rcases H3.out.2.2.2.2 with h | h
          · exact .inl h
          · refine .inr ⟨_, h, ?_⟩
            simp only [World.size_alloc, World.size_setCell]
            omega
      case round =>
        obtain ⟨j, o, rfl, rfl, hj, hof, hos, hol1, hom, hoo, hov, hob, hbx⟩ := hrel
        obtain ⟨wz, rfl⟩ : ∃ wz, wz = wr := ⟨_, rfl⟩
        have sz := hov.size
        obtain ⟨xo, co, rfl⟩ := own_shape hoo
        by_cases hlt : j < na
        · have hi' : (j : Int) < (na : Int) := by omega
          obtain ⟨c, hc1⟩ : ∃ c, L[j]? = some c := ⟨_, List.getElem?_eq_getElem (by rw [H.out.2.2.2.2.2.2.2.1]; exact hlt)⟩
          have hcn := H.out.2.2.2.2.2.2.2.2.1 c (List.mem_of_getElem? hc1)
          obtain ⟨rfl, u1, u2, u3⟩ := H.out.2.2.2.2.2.2.1 (by omega)
          have hgaB := HAG.out.2.1 ga u3
          have d1 := (World.cell?_of_block (a := ⟨ga, oa + j, none⟩) (hov.block ga (by omega) hgaB.2 (fun h => by have := HO1.out _ h; omega))).trans (H.out.2.2.2.2.2.2.2.2.2 j c hc1)
          have hgaz : ga < wz.heap.size := by omega
          have z0 := Lib.cell_of_heap hbx 0
          have z1 := Lib.cell_of_heap hbx 1
          simp only [List.getElem?_toArray, List.getElem?_cons_zero, List.getElem?_cons_succ] at z0 z1
          have hwz : w.heap.size < wz.heap.size := (Array.getElem?_eq_some_iff.1 hbx).1
          unfold maxLen at u2
          have hGz : GrAt wz S (.slice (some ⟨gg, og, none⟩) n cg) G := H.out.2.1.carry (fun q hq => hov.block q (by have := HAG.out.2.1 q hq; omega) (HAG.out.2.1 q hq).2 (fun h => by have := HO1.out _ h; have := HAG.out.2.1 q hq; omega)) fun _ h => h
          have CV := Lib.hid (IH.out c o (.slice xo o.length co) wz hcn hos (by omega) hGz hom hoo (by omega))
          have hstep : (L.take (j + 1)).foldl (fun o c => Gu.visitL (argsOf G) k c o) (order ++ [a]) = Gu.visitL (argsOf G) k c o := by
            rw [List.take_add_one, hc1, List.foldl_append, ← hof]; rfl
          have hkeep := Gu.visit_keeps (fun m hm => HLT.out m hm) k c o hos hcn
          have HR := Lib.hid (And.intro hstep (And.intro hkeep (And.intro hov (And.intro hob (And.intro hbx hol1)))))
          clear hof hos hol1 hom hoo hov hob hbx hGz hstep hkeep hc1
          go_wp2_with fail
          refine CV.out.mono ?_
          rintro e9 w9 ⟨v9, rfl, ho9, hm9, hv9, hb9⟩
          have H9 := Lib.hid (And.intro ho9 (And.intro hm9 (And.intro hv9 hb9)))
          clear ho9 hm9 hv9 hb9 CV z0 z1 d1
          go_wp2_with fail
          go_roundg (na - (j + 1))
          case measure => omega
          case rel =>
            obtain ⟨ho9, hm9, hv9, hb9⟩ := H9.out
            obtain ⟨hstep, hkeep, hov, hob, hbx, hol1⟩ := HR.out
            refine ⟨j + 1, _, rfl, by first | rfl | simp, hlt, hstep.symm, hkeep.1, Nat.le_trans hol1 hkeep.2, hm9, ho9, hov.trans hv9 ?_, ?_, ?_⟩
            · rcases hob with h | ⟨q, h, hq⟩
              · exact .inl h
              · exact .inr ⟨q, h, by omega⟩
            · rcases hb9 with h | ⟨q, h, hq⟩
              · rcases hob with h2 | ⟨q, h2, hq⟩
                · exact .inl (h.trans h2)
                · exact .inr ⟨q, h.trans h2, hq⟩
              · exact .inr ⟨q, h, by omega⟩
            · refine (hv9.block w.heap.size hwz (by omega) (fun h => ?_)).trans hbx
              rcases hob with h2 | ⟨q, h2, hq⟩
              · have := HO1.out _ (h2.symm.trans h)
                omega
              · rw [h2] at h
                have := Option.some.inj h
                omega
        · have hi' : ¬ (j : Int) < (na : Int) := by omega
          obtain rfl : na = j := by omega
          have hfin : (L.take na).foldl (fun o c => Gu.visitL (argsOf G) k c o) (order ++ [a]) = L.foldl (fun o c => Gu.visitL (argsOf G) k c o) (order ++ [a]) := by rw [List.take_of_length_le (by rw [H.out.2.2.2.2.2.2.2.1]; exact Nat.le_refl _)]
          have HR := Lib.hid (And.intro (hof.trans hfin) (And.intro hom (And.intro hoo (And.intro hov hob))))
          clear hof hfin hos hol1 hom hoo hov hob hbx
          go_wp2_with fail
          go_ret
          obtain ⟨hof, hom, hoo, hov, hob⟩ := HR.out
          rw [← hof]
          refine ⟨_, rfl, hoo, hom, hov, ?_⟩
          rcases hob with h | ⟨q, h, hq⟩
          · exact .inl h
          · exact .inr ⟨q, h, by omega⟩
end Go.Proofs.YtelmigkbofnicaaDoor
