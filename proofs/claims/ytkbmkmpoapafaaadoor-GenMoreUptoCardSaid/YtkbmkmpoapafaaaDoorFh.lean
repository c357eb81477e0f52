/- gen.Fresh told. -/
import Derived.Test.YtkbmkmpoapafaaaDoorFn
import Derived.Test.YtkbmkmpoapafaaaDoorLd
import Derived.Test.YtkbmkmpoapafaaaDoorCl
import Derived.Test.YtkbmkmpoapafaaaDoorMi
import Derived.Test.YtkbmkmpoapafaaaDoorRw
import Derived.Test.YtkbmkmpoapafaaaDoorRd
import Derived.Deep.RegionHeld3
namespace Go.Proofs.YtkbmkmpoapafaaaDoor
open Go.ChangeShapes Go.WideShapes Go.ChangeAt Go.RowKit

/-- What is reached: once each, in range; whatever a node leads to too. -/
theorem reachG_all {G : List GN} {r : Int} (aG : ∀ x ∈ G, x.args.length ≤ 2000) : (reachG G r).Nodup ∧ (∀ x ∈ reachG G r, x < G.length ∧ checkG G r = 0) ∧ (∀ a ∈ reachG G r, ∀ c ∈ argsOf G a, c ∈ reachG G r) := by
  by_cases hok : checkG G r = 0
  · obtain ⟨h1, h2, _, h4, _⟩ := reachG_done hok aG
    exact ⟨h1, fun x hx => ⟨h2 x hx, hok⟩, h4⟩
  · have : reachG G r = [] := by unfold reachG; rw [if_neg hok]
    rw [this]
    exact ⟨List.nodup_nil, fun x hx => (by cases hx), fun x hx => (by cases hx)⟩
/-- Is a node one of the generic ones, or does it lead to one? -/
noncomputable def leadB (G : List GN) (r : Int) (l : List Int) (i : Nat) : Bool := @decide (∃ a ∈ genF G r l, Gu.Rch (argsOf G) [i] a) (Classical.propDecidable _)
theorem leadB_iff {G : List GN} {r : Int} {l : List Int} {i : Nat} : leadB G r l i = true ↔ ∃ a ∈ genF G r l, Gu.Rch (argsOf G) [i] a := by
  unfold leadB
  exact @decide_eq_true_iff _ (Classical.propDecidable _)
/-- A node's copy. -/
def cpA (b : Nat → Bool) (n : Nat) (O : List Nat) (a : Int) : Int := if b a.toNat then ((n + O.idxOf a.toNat : Nat) : Int) else a
def cpN (b : Nat → Bool) (n : Nat) (O : List Nat) (x : GN) : GN := { x with args := x.args.map (cpA b n O) }
def cpL (b : Nat → Bool) (G : List GN) (O M : List Nat) : List GN := M.filterMap fun q => (G[q]?).map (cpN b G.length O)
theorem cpL_step {b : Nat → Bool} {G : List GN} {O M : List Nat} {q : Nat} {x : GN} (h : G[q]? = some x) : cpL b G O (M ++ [q]) = cpL b G O M ++ [cpN b G.length O x] := by
  unfold cpL
  rw [List.filterMap_append]
  simp [h]
theorem cpL_len {b : Nat → Bool} {G : List GN} {O : List Nat} : ∀ {M : List Nat}, (∀ q ∈ M, q < G.length) → (cpL b G O M).length = M.length
  | [], _ => rfl
  | q :: M, h => by
    have e : cpL b G O (q :: M) = cpN b G.length O (G[q]'(h q (by simp))) :: cpL b G O M := by
      unfold cpL
      rw [List.filterMap_cons, List.getElem?_eq_getElem (h q (by simp))]
      rfl
    rw [e, List.length_cons, cpL_len fun x hx => h x (List.mem_cons_of_mem _ hx)]; rfl
/-- The nodes that are copied; the graph with its copy; its root. -/
noncomputable def ordG (G : List GN) (r : Int) (l : List Int) : List Nat := (reachG G r).filter (leadB G r l)
noncomputable def freshG (G : List GN) (r : Int) (l : List Int) : List GN := G ++ cpL (leadB G r l) G (ordG G r l) (ordG G r l)
noncomputable def freshR (G : List GN) (r : Int) (l : List Int) : Int := cpA (leadB G r l) G.length (ordG G r l) r
/-- What is told of the copies on the way. -/
def Cps (n : Nat) (O : List Nat) (mf : Nat → Nat) : Prop := ∀ q ∈ O, mf q = n + O.idxOf q
theorem Cps.push {n q : Nat} {O : List Nat} {mf : Nat → Nat} (h : Cps n O mf) (hq : q ∉ O) : Cps n (O ++ [q]) (fun k => if k = q then n + O.length else mf k) := fun p hp => by
  by_cases e : p = q
  · subst e
    show (if p = p then _ else _) = _
    rw [if_pos rfl, List.idxOf_append, if_neg hq]
    simp
  · show (if p = q then _ else _) = _
    have hpO : p ∈ O := by
      rcases List.mem_append.1 hp with h | h
      · exact h
      · exact absurd (List.mem_singleton.1 h) e
    rw [if_neg e, h p hpO, List.idxOf_append, if_pos hpO]
theorem filter_step {f : Nat → Bool} {L : List Nat} {j q : Nat} (h : L[j]? = some q) : (L.take (j + 1)).filter f = (L.take j).filter f ++ (if f q then [q] else []) := by
  rw [List.take_add_one, h, List.filter_append]
  congr 1
  cases hq : f q <;> simp [hq]
theorem not_mem_take {L : List Nat} (hn : L.Nodup) {j q : Nat} (h : L[j]? = some q) {f : Nat → Bool} : q ∉ (L.take j).filter f := fun hm => by
  obtain ⟨hj, e⟩ := List.getElem?_eq_some_iff.1 h
  have h1 := (List.mem_filter.1 hm).1
  obtain ⟨i, hi, e2⟩ := List.mem_iff_getElem.1 h1
  rw [List.length_take] at hi
  rw [List.getElem_take] at e2
  exact absurd (e2.trans e.symm) (List.pairwise_iff_getElem.1 hn i j (by omega) hj (by omega))

/-- A post that the walk doesn't look into at a function's end. -/
def PostQ (R : Exit → Act → World → Prop) (x : Exit) (a : Act) (W : World) : Prop := match x with
  | .panic c => R (.panic c) a W
  | y => Hid (R y a W)
theorem postQ_imp (R : Exit → Act → World → Prop) : ∀ (x : Exit) (a : Act) (W : World), PostQ R x a W → R x a W := fun x a W h => by
  cases x with
  | panic c => exact h
  | _ => exact h.out
theorem postQ_ret {R : Exit → Act → World → Prop} {a : Act} {W : World} (h : R .ret a W) : PostQ R .ret a W := Lib.hid h
/-- One cell of a row of one's own laid anew. -/
theorem own_put {W : World} {base g n c i : Nat} {e : TypeId} {xs : List Value} (h : W.ownsRow base e 1 (.slice (some ⟨g, 0, none⟩) n c) n xs) (v : Value) : (W.setCell ⟨g, i, none⟩ v).ownsRow base e 1 (.slice (some ⟨g, 0, none⟩) n c) n (xs.set i v) := by
  refine ⟨by have := h.1; simpa using this, ?_⟩
  rcases h.2 with ⟨h0, _⟩ | ⟨g', cap, cur, hv, hb, hg, h1, h2, h3, h4⟩
  · cases h0
  cases hv
  refine .inr ⟨g, c, _, rfl, hb, heap_setCell_same _ _ _ _ _ v hg, h1, h2, by simpa using h3, ?_⟩
  rw [Array.toList_setIfInBounds, List.take_set, h4]
/-- The first so many turned. -/
def mix (f : Int → Int) (l : List Int) (k : Nat) : List Int := (l.take k).map f ++ l.drop k
theorem mix_len (f : Int → Int) (l : List Int) (k : Nat) : (mix f l k).length = l.length := by
  unfold mix
  rw [List.length_append, List.length_map, List.length_take, List.length_drop]
  omega
theorem mix_get {f : Int → Int} {l : List Int} {k : Nat} {a : Int} (h : l[k]? = some a) : (mix f l k)[k]? = some a := by
  have hk := (List.getElem?_eq_some_iff.1 h).1
  unfold mix
  rw [List.getElem?_append_right (by rw [List.length_map, List.length_take]; omega), List.length_map, List.length_take, List.getElem?_drop, Nat.min_eq_left (by omega), Nat.sub_self, Nat.add_zero]
  exact h
theorem mix_step {f : Int → Int} {l : List Int} {k : Nat} {a : Int} (h : l[k]? = some a) : mix f l (k + 1) = (mix f l k).set k (f a) := by
  obtain ⟨hk, ha⟩ := List.getElem?_eq_some_iff.1 h
  unfold mix
  have hd : l.drop k = a :: l.drop (k + 1) := by rw [← ha]; exact List.drop_eq_getElem_cons hk
  have hl : ((l.take k).map f).length = k := by rw [List.length_map, List.length_take]; omega
  rw [List.take_add_one, h, List.map_append, hd, List.set_append]
  rw [if_neg (by omega), hl, Nat.sub_self]
  simp
theorem mix_same {f : Int → Int} {l : List Int} {k : Nat} {a : Int} (h : l[k]? = some a) (hf : f a = a) : mix f l (k + 1) = mix f l k := by
  obtain ⟨hk, ha⟩ := List.getElem?_eq_some_iff.1 h
  unfold mix
  have hd : l.drop k = a :: l.drop (k + 1) := by rw [← ha]; exact List.drop_eq_getElem_cons hk
  rw [List.take_add_one, h, List.map_append, hd]
  simp [hf]
theorem mix_all {f : Int → Int} {l : List Int} {k : Nat} (h : l.length ≤ k) : mix f l k = l.map f := by
  unfold mix
  rw [List.take_of_length_le h, List.drop_of_length_le h, List.append_nil]
/-- What Fresh hands back. -/
def FreshGives (L : List GN) (rt c : Int) (w : World) (e : Ending) (w' : World) : Prop := ∃ x d, e = .returned (.tuple #[.agg #[.slice x L.length d, .int .i64 rt], .int .i64 c]) ∧ GrAt w' (fun b => w.heap.size ≤ b ∧ b < w'.heap.size) (.slice x L.length d) L ∧ Below w.heap.size w w'
theorem results_fresh {fn : Func} {k j : Nat} (hr : fn.results = #[.cell k 24, .tmp j]) (tmps : Array Value) (w : World) (b : Nat) (v0 v1 v2 : Value) (ht : tmps[k]? = some (.pointer (some ⟨b, 0, none⟩))) (hj : tmps[j]? = some v2) (c0 : w.cell? ⟨b, 0, none⟩ = some v0) (c1 : w.cell? ⟨b, 1, none⟩ = some v1) : (results fn tmps).run Tryd.prog w = .ok (.tuple #[.agg #[v0, v1], v2]) w := by
  simp [results, hr, go_sem, ht, hj, c0, c1]
set_option linter.unusedSimpArgs false in
set_option maxHeartbeats 8000000 in
set_option maxRecDepth 100000 in
theorem fresh_any (S : Nat → Prop) (vg vf : Value) (r : Int) (G : List GN) (l : List Int) (w : World) (T : TypeId) (ev : Value) (hg : w.cell? ⟨0, 0, none⟩ = some (.iface T ev)) (hgl : 0 < w.heap.size) (hG : GrAt w S vg G) (hf : Nums w S vf l) (hS : ∀ b, S b → b < w.heap.size) (sG : Sized G) (lG : G.length ≤ 2000) (aG : ∀ x ∈ G, x.args.length ≤ 2000) (hE : edges G G.length ≤ 2000) (hll : l.length ≤ 3000) :
    Calls Tryd.prog 10 #[.agg #[vg, .int .i64 r], vf] w fun e w' => (genC G r l = 0 ∧ FreshGives (freshG G r l) (freshR G r l) 0 w e w') ∨ (¬ genC G r l = 0 ∧ FreshGives [] 0 (genC G r l) w e w') := by
  obtain ⟨xg, cg, gg, og, rfl, hxg0, hng0⟩ := hG.open_
  obtain ⟨xf, cf, gf, of_, rfl, -, -⟩ := hf.open_
  obtain ⟨n, en⟩ : ∃ n, G.length = n := ⟨_, rfl⟩
  obtain ⟨m, em⟩ : ∃ n, l.length = n := ⟨_, rfl⟩
  obtain ⟨W1, hW1⟩ : ∃ W1, (w.alloc (.cells #[.slice xg n cg, .int .i64 r] 24)).alloc (.cells #[.slice none 0 0, .int .i64 0] 24) = W1 := ⟨_, rfl⟩
  have B1 : Below w.heap.size w W1 := by rw [← hW1]; exact ((Below.refl _ _).alloc (Nat.le_refl _) _).alloc (by simp) _
  have s1 : W1.heap.size = w.heap.size + 2 := by rw [← hW1]; simp
  have b1 : W1.heap[w.heap.size]? = some (.cells #[.slice xg n cg, .int .i64 r] 24) := by rw [← hW1, heap_old (by simp)]; exact heap_last rfl
  have b2 : W1.heap[w.heap.size + 1]? = some (.cells #[.slice none 0 0, .int .i64 0] 24) := by rw [← hW1]; exact heap_last (by simp)
  have X : Hid (∀ V, Below W1.heap.size W1 V → GrAt V S (.slice xg n cg) G ∧ Nums V S (.slice xf m cf) l ∧ (∀ b, S b → b < w.heap.size) ∧ V.heap[w.heap.size]? = some (.cells #[.slice xg n cg, .int .i64 r] 24) ∧ V.heap[w.heap.size + 1]? = some (.cells #[.slice none 0 0, .int .i64 0] 24) ∧ w.heap.size + 1 < V.heap.size ∧ Below w.heap.size w V ∧ V.cell? ⟨0, 0, none⟩ = some (.iface T ev) ∧ 0 < V.heap.size) := Lib.hid fun V hV => by
    have hB := B1.trans (hV.mono (by omega))
    have hs := hV.size
    rw [← en, ← em]
    exact ⟨hG.carry (keeps_of hB hS) fun _ h => h, hf.carry (keeps_of hB hS) fun _ h => h, hS, by rw [en]; exact (hV.block _ (by omega)).trans b1, (hV.block _ (by omega)).trans b2, by omega, hB, (hB.cell (p := ⟨_, 0, none⟩) hgl).trans hg, by omega⟩
  have x := X.out W1 (Below.refl _ _)
  have C1 := Lib.hid (gencheck_any S (.slice xg n cg) (.slice xf m cf) r G l W1 T ev x.2.2.2.2.2.2.2.1 x.2.2.2.2.2.2.2.2 x.1 x.2.1 (fun b hb => by have := hS b hb; omega) sG)
  have a0 := Lib.cell_of_heap b1 0
  have a1 := Lib.cell_of_heap b1 1
  simp only [List.getElem?_toArray, List.getElem?_cons_zero, List.getElem?_cons_succ] at a0 a1
  have hlt1 : w.heap.size < W1.heap.size := by omega
  rw [en, em]
  have hw := genC_ways G r l
  have HOK := Lib.hid (@genC_ok G r l)
  obtain ⟨c, hc⟩ : ∃ c, genC G r l = c := ⟨_, rfl⟩
  rw [hc] at C1 hw HOK ⊢
  obtain ⟨Po, hPo⟩ : ∃ Po : Ending → World → Prop, (fun e w' => (c = 0 ∧ FreshGives (freshG G r l) (freshR G r l) 0 w e w') ∨ (¬ c = 0 ∧ FreshGives [] 0 c w e w')) = Po := ⟨_, rfl⟩
  rw [hPo]
  have HPO : Hid (∀ e w', ((c = 0 ∧ FreshGives (freshG G r l) (freshR G r l) 0 w e w') ∨ (¬ c = 0 ∧ FreshGives [] 0 c w e w')) → Po e w') := Lib.hid fun e w' h => by rw [← hPo]; exact h
  have H := Lib.hid (And.intro lG (And.intro aG (And.intro hll (And.intro en (And.intro em (And.intro s1 (And.intro hE (And.intro sG (And.intro hxg0 hng0)))))))))
  have HW1 := Lib.hid hW1
  clear hg hgl hG hf hS sG aG hll hE B1 s1 b1 b2 hW1 x hc hPo hxg0 hng0
  have Z : Hid (∀ V (a : Act) (k : Int), Below W1.heap.size W1 V → k = c → ¬ c = 0 → a.defers = [] → a.tmps[4]? = some (.pointer (some ⟨w.heap.size + 1, 0, none⟩)) → a.tmps[5]? = some (.int .i64 k) → bodyPost Tryd.prog Tryd.f10 Po Exit.ret a ((V.setCell ⟨w.heap.size + 1, 0, none⟩ (.slice none 0 0)).setCell ⟨w.heap.size + 1, 1, none⟩ (.int .i64 0))) := Lib.hid fun V a k hV hk hc h0 h4 h5 => by
    subst hk
    have x := X.out V hV
    have g1 := heap_setCell_same V (w.heap.size + 1) 0 _ _ (.slice none 0 0) x.2.2.2.2.1
    have g2 := heap_setCell_same _ (w.heap.size + 1) 1 _ _ (.int .i64 0) g1
    refine bodyPost_ret (results_fresh rfl _ _ (w.heap.size + 1) (.slice none 0 0) (.int .i64 0) (.int .i64 k) h4 h5 (by rw [Lib.cell_of_heap g2]; rfl) (by rw [Lib.cell_of_heap g2]; rfl)) h0 (HPO.out _ _ (.inr ⟨hc, none, 0, rfl, ⟨0, 0, .inl ⟨.inl rfl, rfl⟩, fun i hi => absurd hi (by simp)⟩, ?_⟩))
    exact (x.2.2.2.2.2.2.1.setCell (p := ⟨w.heap.size + 1, 0, none⟩) (Nat.le_succ _) _).setCell (p := ⟨w.heap.size + 1, 1, none⟩) (Nat.le_succ _) _
  rcases hw with rfl | rfl | rfl
  rotate_left
  · go_enter Tryd.func10, Tryd.ntmps10
    go_wp2_with fail
    rw [HW1.out]
    refine C1.out.mono ?_
    rintro e2 W2 ⟨rfl, hB2⟩
    have x := X.out W2 hB2
    have r0 := Lib.cell_of_heap x.2.2.2.2.1 0
    have r1 := Lib.cell_of_heap x.2.2.2.2.1 1
    have fr0 := Lib.frozen_of_heap x.2.2.2.2.1 0
    have fr1 := Lib.frozen_of_heap x.2.2.2.2.1 1
    simp only [List.getElem?_toArray, List.getElem?_cons_zero, List.getElem?_cons_succ] at r0 r1
    have hww := x.2.2.2.2.2.1
    have HB2 := Lib.hid hB2
    clear hB2 C1 HW1 a0 a1 x
    go_wp2_with fail
    exact Z.out _ _ _ HB2.out rfl (by decide) rfl rfl rfl
  · go_enter Tryd.func10, Tryd.ntmps10
    go_wp2_with fail
    rw [HW1.out]
    refine C1.out.mono ?_
    rintro e2 W2 ⟨rfl, hB2⟩
    have x := X.out W2 hB2
    have r0 := Lib.cell_of_heap x.2.2.2.2.1 0
    have r1 := Lib.cell_of_heap x.2.2.2.2.1 1
    have fr0 := Lib.frozen_of_heap x.2.2.2.2.1 0
    have fr1 := Lib.frozen_of_heap x.2.2.2.2.1 1
    simp only [List.getElem?_toArray, List.getElem?_cons_zero, List.getElem?_cons_succ] at r0 r1
    have hww := x.2.2.2.2.2.1
    have HB2 := Lib.hid hB2
    clear hB2 C1 HW1 a0 a1 x
    go_wp2_with fail
    exact Z.out _ _ _ HB2.out rfl (by decide) rfl rfl rfl
  · obtain ⟨hok, hin⟩ := HOK.out.1 rfl
    have hin0 := inside_iff.1 (checkG_ok.1 hok).2.1
    obtain ⟨rn, rfl⟩ : ∃ rn : Nat, r = (rn : Int) := ⟨r.toNat, by omega⟩
    have hrn : rn < n := by omega
    have hrall := reachG_all (G := G) (r := (rn : Int)) H.out.2.1
    have HO := Lib.hid (And.intro hok (And.intro hin hrall))
    clear hok hin hin0 hrall
    go_enter Tryd.func10, Tryd.ntmps10
    refine Code.wp_mono (postQ_imp _) ?_
    go_wp2_with fail
    rw [HW1.out]
    refine C1.out.mono ?_
    rintro e2 W2 ⟨rfl, hB2⟩
    have x := X.out W2 hB2
    have s2 := hB2.size
    have hs1 := H.out.2.2.2.2.2.1
    have SO : Hid (∀ V, Below W2.heap.size W2 V → V.cell? ⟨w.heap.size, 0, none⟩ = some (.slice xg n cg) ∧ V.cell? ⟨w.heap.size, 1, none⟩ = some (.int .i64 (rn : Int)) ∧ w.heap.size < V.heap.size ∧ Below W2.heap.size W2 V) := Lib.hid fun V hV => by
      have x := X.out V (hB2.trans (hV.mono s2))
      exact ⟨Lib.cell_of_heap x.2.2.2.1 0, Lib.cell_of_heap x.2.2.2.1 1, by omega, hV⟩
    obtain ⟨GF, hGF⟩ : ∃ L, genF G (rn : Int) l = L := ⟨_, rfl⟩
    obtain ⟨gl, hgl⟩ : ∃ k, GF.length = k := ⟨_, rfl⟩
    obtain ⟨LB, hLB⟩ : ∃ f, leadB G (rn : Int) l = f := ⟨_, rfl⟩
    have hmem : ∀ a ∈ GF, a < G.length := fun a ha => by rw [← hGF] at ha; exact (mem_freeL.1 ha).1
    have hnd : GF.Nodup := by rw [← hGF]; unfold genF freeL; exact List.nodup_range.filter _
    have hgl2 : gl ≤ 2000 := by
      have := Gu.nodup_le hnd hmem
      omega
    have hback : (GF.map fun i : Nat => (i : Int)).map Int.toNat = GF := by rw [List.map_map]; simp [Function.comp_def]
    have K1 : Hid (∀ V, (V.cell? ⟨w.heap.size, 0, none⟩ = some (.slice xg n cg) ∧ V.cell? ⟨w.heap.size, 1, none⟩ = some (.int .i64 (rn : Int)) ∧ w.heap.size < V.heap.size ∧ Below W2.heap.size W2 V) → Calls Tryd.prog 25 #[.agg #[.slice xg n cg, .int .i64 (rn : Int)], .slice xf m cf] V fun e w' => ∃ x d, e = .returned (.slice x gl d) ∧ Nums w' (fun b => b < w'.heap.size) (.slice x gl d) (GF.map fun i : Nat => (i : Int)) ∧ Below W2.heap.size W2 w') := Lib.hid fun V hV => by
      obtain ⟨_, _, _, hB⟩ := hV
      have x := X.out V (hB2.trans (hB.mono s2))
      refine (generic_any S _ _ (rn : Int) G l V x.1 x.2.1 (fun b hb => by have := x.2.2.1 b hb; omega) HO.out.1 H.out.1 H.out.2.1 HO.out.2.1 H.out.2.2.1).mono ?_
      rintro e w' ⟨x3, d3, rfl, h1, h2⟩
      rw [hGF, hgl] at h1 ⊢
      refine ⟨x3, d3, rfl, ?_, hB.trans (h2.mono hB.size)⟩
      refine nums_own (base := V.heap.size) (e := 3) ?_ fun b hb => (h1.lt b hb).2
      have e1 : numsI (GF.map fun i : Nat => (i : Int)) = nums GF := by unfold numsI nums; rw [List.map_map]; rfl
      rw [e1, List.length_map, hgl]
      exact h1
    have K2 : Hid (∀ V x d, (V.cell? ⟨w.heap.size, 0, none⟩ = some (.slice xg n cg) ∧ V.cell? ⟨w.heap.size, 1, none⟩ = some (.int .i64 (rn : Int)) ∧ w.heap.size < V.heap.size ∧ Below W2.heap.size W2 V) → Nums V (fun b => b < V.heap.size) (.slice x gl d) (GF.map fun i : Nat => (i : Int)) → Calls Tryd.prog 24 #[.agg #[.slice xg n cg, .int .i64 (rn : Int)], .slice x gl d] V fun e w' => ∃ b f, e = .returned (.slice (some ⟨b, 0, none⟩) n n) ∧ W2.heap.size ≤ b ∧ MetR w' b n f ∧ (∀ i, i < n → f i = LB i) ∧ Below W2.heap.size W2 w') := Lib.hid fun V x3 d3 hV hN => by
      obtain ⟨_, _, _, hB⟩ := hV
      have x := X.out V (hB2.trans (hB.mono s2))
      refine (leading_any (fun b => b < V.heap.size) _ _ (rn : Int) G _ V (x.1.carry (fun _ _ => rfl) fun b hb => by have := x.2.2.1 b hb; omega) hN (fun _ h => h) HO.out.1 H.out.1 H.out.2.2.2.2.2.2.1 (fun a ha => ?_) (by rw [List.length_map, hgl]; omega)).mono ?_
      · obtain ⟨i, hi, rfl⟩ := List.mem_map.1 ha
        have := hmem i hi
        omega
      · rintro e w' ⟨b, f, rfl, h1, h2, h3, h4⟩
        rw [H.out.2.2.2.1] at h2 h3 ⊢
        refine ⟨b, f, rfl, by have := hB.size; omega, h2, fun i hi => ?_, hB.trans (h4.mono hB.size)⟩
        rw [Bool.eq_iff_iff, h3 i hi, ← hLB, leadB_iff, hGF, hback]
    have HB2 := Lib.hid hB2
    have HL := Lib.hid hLB
    clear hB2 C1 HW1 a0 a1 x hGF hgl hLB hmem hnd hgl2 hback
    have s02 := SO.out W2 (Below.refl _ _)
    go_wp2_with fail
    clear s02
    go_region_held3 (fun V => V.cell? ⟨w.heap.size, 0, none⟩ = some (.slice xg n cg) ∧ V.cell? ⟨w.heap.size, 1, none⟩ = some (.int .i64 (rn : Int)) ∧ w.heap.size < V.heap.size ∧ Below W2.heap.size W2 V)
      (first
        | with_reducible exact SO.out _ hU4 | with_reducible exact SO.out _ hU3
        | with_reducible exact SO.out _ (Below.refl _ _).drew)
      (first
        | (go_at_call 25; (with_reducible refine (K1.out _ (by with_reducible assumption)).mono ?_); (rintro e3 u3 ⟨x3, d3, rfl, hN3, hU3⟩); (have HN3 := Lib.hid hN3); clear hN3)
        | (go_at_call 24; (with_reducible refine (K2.out _ _ _ (by with_reducible assumption) HN3.out).mono ?_); (rintro e4 u4 ⟨lb, lf, rfl, hlb, hM4, hf4, hU4⟩); (have HU4 := Lib.hid (And.intro hlb (And.intro hM4 hf4))); clear hlb hM4 hf4))
    obtain ⟨W3, rfl⟩ : ∃ W, W = u4 := ⟨_, rfl⟩
    have HU := Lib.hid hU4
    have hmm := @run_makeMap Tryd.prog
    obtain ⟨L, hL⟩ : ∃ L, reachG G (rn : Int) = L := ⟨_, rfl⟩
    obtain ⟨N, hN⟩ : ∃ N, L.length = N := ⟨_, rfl⟩
    have C3 : Hid (∀ V, Below W2.heap.size W2 V → Calls Tryd.prog 26 #[.agg #[.slice xg n cg, .int .i64 (rn : Int)]] V fun e w' => ∃ x d, e = .returned (.slice x N d) ∧ w'.ownsRow V.heap.size 3 1 (.slice x N d) N (nums L) ∧ Below V.heap.size V w') := Lib.hid fun V hB => by
      have x := X.out V (HB2.out.trans (hB.mono s2))
      refine (reach_any S _ (rn : Int) G V T ev x.2.2.2.2.2.2.2.1 x.2.2.2.2.2.2.2.2 x.1 (fun b hb => by have := x.2.2.1 b hb; omega) H.out.2.2.2.2.2.2.2.1 H.out.1 H.out.2.1).mono ?_
      rintro e w' ⟨v, rfl, h1, h2⟩
      rw [hL, hN] at h1
      obtain ⟨x, d, rfl⟩ := own_shape h1
      exact ⟨x, d, rfl, h1, h2⟩
    have HLN := Lib.hid (And.intro hL hN)
    have hN2 : N ≤ 2000 := by
      have h := HO.out.2.2
      rw [hL] at h
      have h1 := Gu.nodup_le h.1 fun x hx => (h.2.1 x hx).1
      have := H.out.1
      omega
    have hU40 := hU4
    obtain ⟨mb, hmb⟩ : ∃ b, W3.heap.size = b := ⟨_, rfl⟩
    obtain ⟨W4, hW4⟩ : ∃ W4, W3.alloc (.map #[] 0) = W4 := ⟨_, rfl⟩
    have B4 : Below W3.heap.size W3 W4 := by rw [← hW4]; exact (Below.refl _ _).alloc (Nat.le_refl _) _
    have M4 : MapI W4 mb 0 (fun _ => 0) := by rw [← hW4, ← hmb]; exact mapi_made W3
    have s4 : W4.heap.size = mb + 1 := by rw [← hW4, ← hmb]; simp
    have hB24 : Below W2.heap.size W2 W4 := hU4.trans (B4.mono hU4.size)
    have s04 := SO.out W4 hB24
    have HB4 := Lib.hid (And.intro B4 (And.intro M4 (And.intro s4 hB24)))
    have HW4 := Lib.hid (And.intro hW4 hmb)
    clear hU4 hU40 hL hN B4 M4 hB24 hW4 s04 s4 hU3 K1 K2
    have s3 := (SO.out W3 HU.out)
    have a0 : (W3.alloc (.map #[] 0)).cell? ⟨w.heap.size, 0, none⟩ = some (.slice xg n cg) := by rw [HW4.out.1]; exact (SO.out W4 HB4.out.2.2.2).1
    have a1 : (W3.alloc (.map #[] 0)).cell? ⟨w.heap.size, 1, none⟩ = some (.int .i64 (rn : Int)) := by rw [HW4.out.1]; exact (SO.out W4 HB4.out.2.2.2).2.1
    clear s3
    go_wp2_with fail
    rw [HW4.out.1]
    refine (C3.out W4 HB4.out.2.2.2).mono ?_
    rintro e5 W5 ⟨x5, d5, rfl, ho5, hB5⟩
    have s5 := hB5.size
    have s4' := HB4.out.2.2.1
    have HO5 : Hid (∀ i, i < N → ∃ g5, x5 = some ⟨g5, 0, none⟩ ∧ g5 < W5.heap.size ∧ mb < g5 ∧ N ≤ d5 ∧ d5 ≤ maxLen ∧ ∀ i q : Nat, L[i]? = some q → W5.cell? ⟨g5, i, none⟩ = some (.int .i64 (q : Int))) := Lib.hid fun i hi => by
      rcases ho5.2 with ⟨_, h0⟩ | ⟨g, cap, cur, hv, h1, h2, h3, h4, _⟩
      · omega
      · cases hv
        have := ho5.lt g rfl
        refine ⟨g, rfl, this.2, by omega, h3, h4, fun i q hq => ?_⟩
        have hi := (List.getElem?_eq_some_iff.1 hq).1
        rw [ho5.cellAt _ (by have := HLN.out.2; omega)]
        unfold nums
        rw [List.getElem?_map, hq]; rfl
    have hlbW : lb < W3.heap.size := HU4.out.2.1.lt
    have hs3 := HU.out.size
    have hmbe := HW4.out.2
    have M5 : MapI W5 mb 0 (fun _ => 0) := HB4.out.2.1.of (hB5.block mb (by omega))
    have L5 : MetR W5 lb n lf := (HU4.out.2.1.of (HB4.out.1.block lb hlbW)).of (hB5.block lb (by omega))
    have B25 : Below W2.heap.size W2 W5 := HB4.out.2.2.2.trans (hB5.mono (by omega))
    have Y : Hid (∀ V, Free (fun b => b = mb) W5 V → V.cell? ⟨w.heap.size, 0, none⟩ = some (.slice xg n cg) ∧ V.cell? ⟨w.heap.size, 1, none⟩ = some (.int .i64 (rn : Int)) ∧ w.heap.size < V.heap.size ∧ MetR V lb n lf ∧ Below W2.heap.size W2 V) := Lib.hid fun V hV => by
      have hB : Below W2.heap.size W2 V := B25.trans (free_below hV B25.size (fun k hk => by omega))
      have so := SO.out V hB
      exact ⟨so.1, so.2.1, so.2.2.1, L5.of (hV.block lb (by omega) (by omega)), hB⟩
    have H5 := Lib.hid (And.intro M5 (And.intro B25 (And.intro hlbW hmbe)))
    clear a0 a1 ho5 hB5 M5 L5 B25 C3
    go_wp2_with fail
    obtain ⟨i0, hi, hz0, hz1, hz2⟩ := info_parts intInfo
    have HI := Lib.hid (And.intro hi (And.intro hz0 (And.intro hz1 hz2)))
    clear hi hz0 hz1 hz2
    go_loopg [9, 36] N (fun gk v i wr => ∃ (j : Nat) (O : List Nat) (mf : Nat → Nat), gk = N - j ∧ i = .int .i64 (j : Int) ∧ j ≤ N ∧ O = (L.take j).filter LB ∧ wr.ownsRow W5.heap.size 3 1 v O.length (nums O) ∧ MapI wr mb O.length mf ∧ Hid (Cps n O mf) ∧ Free (fun b => b = mb) W5 wr)
    case atStart => exact ⟨0, [], _, by simp, by first | rfl | simp, Nat.zero_le _, by simp, World.ownsRow_nil _ _ _ _, H5.out.1, Lib.hid (fun _ h => by cases h), Free.refl _ _⟩
    case round =>
      obtain ⟨j, O, mf, rfl, rfl, hj, hO, hown, hM, hC, hF⟩ := hrel
      obtain ⟨wz, rfl⟩ : ∃ wz, wz = wr := ⟨_, rfl⟩
      obtain ⟨y0, y1, y2, y3, y4⟩ := Y.out wz hF
      have sF := hF.size
      have hOl : O.length ≤ 2000 := by
        rw [hO]
        have := List.length_filter_le LB (L.take j)
        rw [List.length_take] at this
        have := HLN.out.2
        omega
      obtain ⟨xo, co, rfl⟩ := own_shape hown
      by_cases hlt : j < N
      · have hi' : (j : Int) < (N : Int) := by omega
        obtain ⟨q, hq⟩ : ∃ q, L[j]? = some q := ⟨_, List.getElem?_eq_getElem (by have := HLN.out.2; omega)⟩
        have hall := HO.out.2.2
        rw [HLN.out.1] at hall
        have hqn : q < n := by have := (hall.2.1 q (List.mem_of_getElem? hq)).1; have := H.out.2.2.2.1; omega
        have hqn' : (q : Int) < (n : Int) := by omega
        have hq62 : q ≤ 4611686018427387904 := by omega
        obtain ⟨g5, rfl, u1, u2, u3, u4, u5⟩ := HO5.out j hlt
        unfold maxLen at u4
        have e1 : wz.cell? ⟨g5, j, none⟩ = some (.int .i64 (q : Int)) := (World.cell?_of_block (a := ⟨g5, j, none⟩) (hF.block g5 u1 (by omega))).trans (u5 j q hq)
        have e2 := y3.cell hqn
        rw [HU4.out.2.2 q hqn] at e2
        have hlbz := y3.lt
        have hg5z : g5 < wz.heap.size := by omega
        have hni : q ∉ (L.take j).filter LB := not_mem_take hall.1 hq
        have hstep := filter_step (f := LB) hq
        obtain ⟨bq, hbq⟩ : ∃ b, LB q = b := ⟨_, rfl⟩
        rw [hbq] at e2 hstep
        obtain ⟨ol, hol⟩ : ∃ k, O.length = k := ⟨_, rfl⟩
        rw [hol] at hown hM hOl ⊢
        have HM := Lib.hid hM
        have HR := Lib.hid (And.intro hO (And.intro hown (And.intro hC (And.intro hF (And.intro hni (And.intro hstep hol))))))
        have hmbz := hM.lt
        clear hO hown hC hF hM hni hstep hbq hq hall u5 y3 y4
        cases bq with
        | false =>
          go_wp2_with fail
          go_roundg (N - (j + 1))
          case measure => omega
          case rel =>
            obtain ⟨hO, hown, hC, hF, hni, hstep, hol⟩ := HR.out
            exact ⟨j + 1, O, mf, rfl, by first | rfl | simp, hlt, by rw [hstep, ← hO]; simp, by rw [hol]; exact hown, by rw [hol]; exact HM.out, hC, hF⟩
        | true =>
          have H1A : Hid (∀ u ∈ ([.int .i64 (q : Int)] : List Value), u.oneCell' = true) := Lib.hid fun u hu => by rw [List.mem_singleton.1 hu]; rfl
          go_wp2_with (first
            | (at_mapUpdate; (refine wpList_mapi_put rfl (.tmp 44) (.tmp 45) (.tmp 51) rfl HM.out (by unfold maxLen; omega) rfl rfl hq62 (j := n + ol) rfl ?_); (intro w8 hm8 hg8); (have s8 := hg8.size); (have HO8 : Hid (w8.ownsRow W5.heap.size 3 1 (.slice xo ol co) ol (nums O)) := Lib.hid (own_same HR.out.2.1 fun k hk => hg8.block k (HR.out.2.1.lt k hk).2 (fun h => by have := (HR.out.2.1.lt k hk).1; have := Option.some.inj h; omega))); (have HOA := Lib.hid (HO8.out.alloc (.cells #[.int .i64 (q : Int)] 3))); (have HNA := Lib.hid (new_cells w8 [.int .i64 (q : Int)] 3)); (have H8 := Lib.hid (And.intro hm8 hg8)); clear hm8 hg8)
            | (at_builtin; (refine wpList_append_own_at _ rfl (.tmp 52) (.tmp 54) _ rfl W5.heap.size 3 i0 _ 1 8 Tryd.underlying32 HI.out.1 HI.out.2.1 HI.out.2.2.1 HI.out.2.2.2 rfl (by decide) (.slice xo ol co) ol (nums O) rfl HOA.out ⟨w8.heap.size, 0, none⟩ 1 1 [.int .i64 (q : Int)] rfl rfl HNA.out H1A.out (by unfold maxLen; omega) (by omega) (by simp; omega) ?_); (intro v9 w9 hown9 hg9 _ _); (obtain ⟨y9, d9, rfl⟩ := own_shape hown9); (have H9 := Lib.hid (And.intro hown9 hg9)); clear hown9 hg9))
          go_roundg (N - (j + 1))
          case measure => omega
          case rel =>
            obtain ⟨hO, hown, hC, hF, hni, hstep, hol⟩ := HR.out
            obtain ⟨hm8, hg8⟩ := H8.out
            obtain ⟨hown9, hg9⟩ := H9.out
            have s9 := hg9.size
            rw [World.size_alloc] at s9
            have hol2 : (O ++ [q]).length = ol + 1 := by rw [List.length_append, hol]; rfl
            rw [← hO] at hni
            refine ⟨j + 1, O ++ [q], (fun k => if k = q then n + O.length else mf k), rfl, by first | rfl | simp, hlt, by rw [hstep, ← hO]; simp, by rw [hol2, nums_append]; exact hown9, ?_, Lib.hid (hC.out.push hni), ?_⟩
            · rw [hol2]
              have h1 := hm8
              rw [show n + ol = n + O.length by omega] at h1
              refine h1.of ?_
              rw [hg9.block mb (by rw [World.size_alloc]; omega) (fun h => by have := (HOA.out.lt mb h.symm).1; omega)]
              exact heap_old (by omega)
            · refine ⟨hg9.os.trans (hg8.os.trans hF.os), hg9.tape.trans (hg8.tape.trans hF.tape), hg9.output.trans (hg8.output.trans hF.output), by omega, fun k hk hn => ?_⟩
              rw [hg9.block k (by rw [World.size_alloc]; omega) (fun h => by have := (HOA.out.lt k h.symm).1; omega), heap_old (by omega), hg8.block k (by omega) (fun h => hn (Option.some.inj h))]
              exact hF.block k hk hn
      · have hi' : ¬ (j : Int) < (N : Int) := by omega
        obtain rfl : j = N := by omega
        have hallO : O = L.filter LB := by rw [hO, List.take_of_length_le (by have := HLN.out.2; omega)]
        obtain ⟨ol, hol⟩ : ∃ k, O.length = k := ⟨_, rfl⟩
        rw [hol] at hown hM hOl ⊢
        obtain ⟨W6, rfl⟩ : ∃ W, W = wz := ⟨_, rfl⟩
        have sum1 : ¬ (1048576 : Int) < (n : Int) + (ol : Int) := by have := H.out.1; have := H.out.2.2.2.1; omega
        obtain ⟨hb, hhb⟩ : ∃ b, W6.heap.size = b := ⟨_, rfl⟩
        obtain ⟨W7, hW7⟩ : ∃ W7, W6.alloc (.cells #[.slice none 0 0, .int .i64 (rn : Int)] 24) = W7 := ⟨_, rfl⟩
        have B7 : Below hb W6 W7 := by rw [← hW7, ← hhb]; exact (Below.refl _ _).alloc (Nat.le_refl _) _
        have M7 : W7.heap[hb]? = some (.cells #[.slice none 0 0, .int .i64 (rn : Int)] 24) := by rw [← hW7, ← hhb]; exact heap_last rfl
        have hmbl := hM.lt
        have hmm2 := H5.out.2.2.2
        have hmb5 : W3.heap.size = mb := hmm2
        have HQ := Lib.hid (And.intro hallO (And.intro hol (And.intro hown (And.intro hM (And.intro hC (And.intro hF hhb))))))
        have Y6 : Hid (∀ V, Below hb W6 V → GrAt V S (.slice xg n cg) G ∧ V.cell? ⟨w.heap.size, 0, none⟩ = some (.slice xg n cg) ∧ V.cell? ⟨w.heap.size, 1, none⟩ = some (.int .i64 (rn : Int)) ∧ w.heap.size < V.heap.size ∧ MetR V lb n lf ∧ V.ownsRow W5.heap.size 3 1 (.slice xo ol co) ol (nums O) ∧ MapI V mb ol mf ∧ V.heap[w.heap.size + 1]? = some (.cells #[.slice none 0 0, .int .i64 0] 24) ∧ Below w.heap.size w V ∧ (∀ b, S b → b < w.heap.size) ∧ w.heap.size + 1 < hb) := Lib.hid fun V hV => by
          have hs := hV.size
          have hV2 : Below W2.heap.size W2 V := y4.trans (hV.mono (by have := y4.size; omega))
          have so := SO.out V hV2
          have x := X.out V (HB2.out.trans (hV2.mono s2))
          exact ⟨x.1, so.1, so.2.1, so.2.2.1, y3.of (hV.block lb (by have := y3.lt; omega)), own_same hown (fun k hk => hV.block k (by have := (hown.lt k hk).2; omega)), hM.of (hV.block mb (by omega)), x.2.2.2.2.1, x.2.2.2.2.2.2.1, x.2.2.1, by omega⟩
        have HW7 := Lib.hid (And.intro hW7 hhb)
        have HB7 := Lib.hid (And.intro B7 M7)
        clear hO hown hM hC hF y3 y4 hallO hol hhb Y hW7 B7 M7
        go_wp2_with fail
        rw [HW7.out.1, HW7.out.2]
        clear y0 y1 y2 sum1
        obtain ⟨i2, hi, hz0, hz1, hz2⟩ := info_parts nodeInfoT
        have HI2 := Lib.hid (And.intro hi (And.intro hz0 (And.intro hz1 hz2)))
        have hen := H.out.2.2.2.1
        clear hi hz0 hz1 hz2
        go_loopg [71] n (fun gk i wr => ∃ (j : Nat) (v : Value), gk = n - j ∧ i = .int .i64 (j : Int) ∧ j ≤ n ∧ wr.heap[hb]? = some (.cells #[v, .int .i64 (rn : Int)] 24) ∧ RowN wr (hb + 1) v (G.take j) ∧ Below hb W6 wr)
        case atStart => exact ⟨0, _, by simp, by first | rfl | simp, Nat.zero_le _, HB7.out.2, ⟨[], World.ownsRow_nil _ _ _ _, .nil⟩, HB7.out.1⟩
        case round =>
          obtain ⟨j, v, rfl, rfl, hj, hM, hR, hB⟩ := hrel
          obtain ⟨wz, rfl⟩ : ∃ wz, wz = wr := ⟨_, rfl⟩
          have y := Y6.out wz hB
          by_cases hlt : j < n
          · have hi' : (j : Int) < (n : Int) := by omega
            obtain ⟨rfl, hgc, hgx, hSg⟩ := H.out.2.2.2.2.2.2.2.2.1 (by omega)
            have hjG : j < G.length := by omega
            have hyS := y.2.2.2.2.2.2.2.2.2.1
            have hyB := y.2.2.2.2.2.2.2.2.1
            obtain ⟨va, vl, hgn⟩ := H.out.2.2.2.2.2.2.2.2.2 j hjG
            have hgn2 := hgn.carry (keeps_of hyB hyS) fun _ h => h
            obtain ⟨xx, hxx⟩ : ∃ x, G[j] = x := ⟨_, rfl⟩
            have hGx : G[j]? = some xx := by rw [List.getElem?_eq_getElem hjG, hxx]
            rw [hxx] at hgn hgn2
            have hfit := (checkG_ok.1 HO.out.1).2.2 xx (List.mem_of_getElem? hGx)
            have hal := H.out.2.1 xx (List.mem_of_getElem? hGx)
            have hll := labels_le hfit
            have CC : Hid (∀ V, Below wz.heap.size wz V → Calls Tryd.prog 27 #[.agg #[.int .i64 xx.k, .string xx.nm, va, vl, .bool xx.op]] V fun e w' => ∃ xa' na' ca' xl' nl' cl', e = .returned (.agg #[.int .i64 xx.k, .string xx.nm, .slice xa' na' ca', .slice xl' nl' cl', .bool xx.op]) ∧ Nums w' (fun b => wz.heap.size ≤ b ∧ b < w'.heap.size) (.slice xa' na' ca') xx.args ∧ Strs w' (fun b => wz.heap.size ≤ b ∧ b < w'.heap.size) (.slice xl' nl' cl') xx.labels ∧ Below wz.heap.size wz w') := Lib.hid fun V hV => by
              have hVw : Below w.heap.size w V := hyB.trans (hV.mono hyB.size)
              refine (clone_node S xx va vl V (hgn.ha.carry (keeps_of hVw hyS) fun _ h => h) (hgn.hl.carry (keeps_of hVw hyS) fun _ h => h) (fun b hb => Nat.lt_of_lt_of_le (hyS b hb) hVw.size) hal (by omega)).mono ?_
              rintro e w' ⟨xa', ca', xl', nl', cl', rfl, h1, h2, h3⟩
              have := hV.size
              exact ⟨xa', _, ca', xl', nl', cl', rfl, nums_own h1 (fun b hb => ⟨by have := (h1.lt b hb).1; omega, (h1.lt b hb).2⟩), h2.carry (fun _ _ => rfl) (fun b hb => ⟨by omega, hb.2.1⟩), hV.trans (h3.mono hV.size)⟩
            have htk : G.take (j + 1) = G.take j ++ [xx] := by rw [List.take_add_one, hGx]; rfl
            have htl : (G.take j).length = j := by rw [List.length_take]; omega
            obtain ⟨xa, ca, ga, oa, rfl, -, -⟩ := hgn2.ha.open_
            obtain ⟨xl, cl', gl', ol', rfl, -, -⟩ := hgn2.hl.open_
            obtain ⟨na, hnal⟩ : ∃ na, xx.args.length = na := ⟨_, rfl⟩
            obtain ⟨nl, hnll⟩ : ∃ nl, xx.labels.length = nl := ⟨_, rfl⟩
            rw [hnal, hnll] at CC
            have c0 := hgn2.c0
            have c1 := hgn2.c1
            have c2 := hgn2.c2
            have c3 := hgn2.c3
            have c4 := hgn2.c4
            rw [hnal] at c2
            rw [hnll] at c3
            have a1 := Lib.cell_of_heap hM 0
            have fa1 := Lib.frozen_of_heap hM 0
            simp only [List.getElem?_toArray, List.getElem?_cons_zero, List.getElem?_cons_succ] at a1
            have hgw : gg < wz.heap.size := by have := hyS gg hSg; have := hyB.size; omega
            have hbw : hb < wz.heap.size := (Array.getElem?_eq_some_iff.1 hM).1
            unfold maxLen at hgx
            obtain ⟨k0', ek0⟩ : ∃ k0, xx.k = k0 := ⟨_, rfl⟩
            obtain ⟨k1, ek1⟩ : ∃ k1, xx.nm = k1 := ⟨_, rfl⟩
            obtain ⟨k4, ek4⟩ : ∃ k4, xx.op = k4 := ⟨_, rfl⟩
            rw [ek0] at c0 CC
            rw [ek1] at c1 CC
            rw [ek4] at c4 CC
            obtain ⟨og', eog⟩ : ∃ o, og + j * 5 = o := ⟨_, rfl⟩
            rw [eog] at c0 c1 c2 c3 c4
            obtain ⟨cs, hown, hnc⟩ := hR
            rw [htl] at hown
            obtain ⟨xo2, co2, rfl⟩ := own_shape hown
            have HDD : Hid (Below wz.heap.size wz (wz.alloc (.cells #[.int .i64 k0', .string k1, .slice xa na ca, .slice xl nl cl', .bool k4] 37)).drew) := Lib.hid ((Below.refl _ _).alloc (Nat.le_refl _) _).drew
            have HR := Lib.hid (And.intro hM (And.intro hown (And.intro hnc (And.intro hB (And.intro htk (And.intro htl (And.intro ek0 (And.intro ek1 ek4))))))))
            clear hM hown hnc hB htk htl hgn hgn2 hxx hGx hfit hal hll hnal hnll ek0 ek1 ek4 y hyS hyB
            go_wp2_with fail
            go_region_law (first
              | (refine step_append_lies _ rfl (.tmp 76) (.tmp 79) 22 rfl (hb + 1) 37 i2 _ 5 80 Tryd.underlying22 HI2.out.1 HI2.out.2.1 HI2.out.2.2.1 HI2.out.2.2.2 rfl (by decide) (.slice xo2 j co2) j cs (by simp [Act.eval]) HOA.out ⟨w8.heap.size, 0, none⟩ 1 1 [.int .i64 k0', .string k1, .slice xa' na' ca', .slice xl' nl' cl2, .bool k4] (by simp [Act.eval]) rfl HNA.out H1A.out (by decide) (by unfold maxLen; omega) (by omega) (by simp; omega) _ rfl ?_; intro g2 cap2 w5 hown5 hg5 hat5 hlt5; have hM5 := (hg5.block hb (by rw [World.size_alloc]; omega) (fun h => by have := HOA.out.lt hb h.symm; omega)).trans HMA.out; have m5 := Lib.cell_of_heap hM5 0; have f5 := Lib.frozen_of_heap hM5 0; simp only [List.getElem?_toArray, List.getElem?_cons_zero, List.getElem?_cons_succ] at m5; have hob5 : hb < w5.heap.size := (Array.getElem?_eq_some_iff.1 hM5).1; have H5 := Lib.hid (And.intro hown5 (And.intro hg5 (And.intro hM5 hat5))); clear hown5 hg5 hat5 hM5)
              | (go_simp; go_wp2_with (go_at_call 27; (with_reducible refine (CC.out _ HDD.out).mono ?_); (rintro e8 w8 ⟨xa', na', ca', xl', nl', cl2, rfl, hA8, hL8, hB8⟩); (have s8 := hB8.size); (have hM8 := (hB8.block hb hbw).trans HR.out.1); (have m8 := Lib.cell_of_heap hM8 0); (simp only [List.getElem?_toArray, List.getElem?_cons_zero, List.getElem?_cons_succ] at m8); (have hbw8 : hb < w8.heap.size := Nat.lt_of_lt_of_le hbw s8); (have HO8 := Lib.hid (own_below HR.out.2.1 hB8)); (have HOA := Lib.hid (HO8.out.alloc (.cells #[.int .i64 k0', .string k1, .slice xa' na' ca', .slice xl' nl' cl2, .bool k4] 37))); (have HNA := Lib.hid (new_cells w8 [.int .i64 k0', .string k1, .slice xa' na' ca', .slice xl' nl' cl2, .bool k4] 37)); (have H1A : Hid (∀ u ∈ ([.int .i64 k0', .string k1, .slice xa' na' ca', .slice xl' nl' cl2, .bool k4] : List Value), u.oneCell' = true) := Lib.hid (by simp [Value.oneCell'])); (have HMA : Hid ((w8.alloc (.cells #[.int .i64 k0', .string k1, .slice xa' na' ca', .slice xl' nl' cl2, .bool k4] 37)).heap[hb]? = some (.cells #[.slice xo2 j co2, .int .i64 (rn : Int)] 24)) := Lib.hid ((heap_old hbw8).trans hM8)); (have H8 := Lib.hid (And.intro hA8 (And.intro hL8 hB8))); clear hA8 hL8 hB8 hM8)))
            all_goals
              go_wp2_with fail
              go_roundg (n - (j + 1))
              case measure => omega
              case rel =>
                obtain ⟨hM, hown, hnc, hB, htk, htl, ek0, ek1, ek4⟩ := HR.out
                obtain ⟨hown5, hg5, hM5, hat5⟩ := H5.out
                obtain ⟨hA8, hL8, hB8⟩ := H8.out
                have h9 := heap_setCell_same _ _ 0 _ _ (.slice (some ⟨g2, 0, none⟩) (j + 1) cap2) hM5
                simp only [List.setIfInBounds_toArray, List.set_cons_zero, List.set_cons_succ] at h9
                have s5 := hg5.size
                rw [World.size_alloc] at s5
                have shb := HW7.out.2
                have sB := hB.size
                subst ek0 ek1 ek4
                refine ⟨j + 1, .slice (some ⟨g2, 0, none⟩) (j + 1) cap2, rfl, by first | rfl | simp, hlt, h9, ?_, ?_⟩
                · rw [htk]
                  refine RowN.of (W := w5) (RowN.push (w8 := w8) (x := xx) (v := .slice xo2 j co2) (cs := cs) (hnc.carry (fun b hb => hB8.block b hb.2.1) (fun b hb => ⟨hb.1, by omega, hb.2.2⟩)) (hA8.carry (fun _ _ => rfl) (fun b hb => ⟨by omega, hb.2, fun h => by have := hown.lt b h; omega⟩)) (hL8.carry (fun _ _ => rfl) (fun b hb => ⟨by omega, hb.2, fun h => by have := hown.lt b h; omega⟩)) ((Below.refl _ _).alloc (Nat.le_refl _) _) hg5 (by rw [htl]; exact hown5) ?_) (fun b hb' _ => heap_setCell_other w5 ⟨hb, 0, none⟩ b _ (show b ≠ hb by omega)) (by simp)
                  rcases hat5 with h | h
                  · exact .inl h.symm
                  · exact .inr ⟨g2, rfl, by rw [h, World.size_alloc]; omega⟩
                · exact (((hB.trans (hB8.mono (by omega))).alloc (by omega) _).grown hg5 (by rw [World.size_alloc]; omega) (fun b hb => by have := (hown.lt b hb).1; omega)).setCell (p := ⟨hb, 0, none⟩) (Nat.le_refl _) _
          · have hi' : ¬ (j : Int) < (n : Int) := by omega
            obtain rfl : n = j := by omega
            have hallG : G.take n = G := List.take_of_length_le (by omega)
            rw [hallG] at hR
            obtain ⟨W10, rfl⟩ : ∃ W, W = wz := ⟨_, rfl⟩
            have HR10 := Lib.hid (And.intro hM (And.intro hR hB))
            clear hM hR hB y hallG
            go_wp2_with fail
            go_loopg [85] ol (fun gk i wr => ∃ (j : Nat) (v : Value), gk = ol - j ∧ i = .int .i64 (j : Int) ∧ j ≤ ol ∧ wr.heap[hb]? = some (.cells #[v, .int .i64 (rn : Int)] 24) ∧ RowN wr (hb + 1) v (G ++ cpL LB G O (O.take j)) ∧ Below hb W6 wr)
            case atStart => exact ⟨0, _, by simp, by first | rfl | simp, Nat.zero_le _, HR10.out.1, by simpa [cpL] using HR10.out.2.1, HR10.out.2.2⟩
            case round =>
              obtain ⟨j, v, rfl, rfl, hj, hM, hR, hB⟩ := hrel
              obtain ⟨wz, rfl⟩ : ∃ wz, wz = wr := ⟨_, rfl⟩
              have y := Y6.out wz hB
              by_cases hlt : j < ol
              · have hi' : (j : Int) < (ol : Int) := by omega
                have hyS := y.2.2.2.2.2.2.2.2.2.1
                have hyB := y.2.2.2.2.2.2.2.2.1
                have hyO := y.2.2.2.2.2.1
                have hall := HO.out.2.2
                rw [HLN.out.1] at hall
                obtain ⟨q, hq⟩ : ∃ q, O[j]? = some q := ⟨_, List.getElem?_eq_getElem (by have := HQ.out.2.1; omega)⟩
                have hqO := List.mem_of_getElem? hq
                have hqO2 := hqO
                rw [HQ.out.1] at hqO2
                obtain ⟨hqL, hqB⟩ := List.mem_filter.1 hqO2
                have hqG := (hall.2.1 q hqL).1
                have hqn : (q : Int) < (n : Int) := by omega
                obtain ⟨rfl, hgc, hgx, hSg⟩ := H.out.2.2.2.2.2.2.2.2.1 (by omega)
                obtain ⟨go_, rfl⟩ : ∃ g, xo = some ⟨g, 0, none⟩ := by
                  rcases hyO.2 with ⟨_, h0⟩ | ⟨g, cap, cur, hv, _⟩
                  · omega
                  · cases hv; exact ⟨g, rfl⟩
                have hgo := hyO.lt go_ rfl
                have hco : ol ≤ co ∧ co ≤ maxLen := by
                  rcases hyO.2 with ⟨_, h0⟩ | ⟨g, cap, cur, hv, _, _, h1, h2, _⟩
                  · omega
                  · cases hv; exact ⟨h1, h2⟩
                obtain ⟨hco1, hco2⟩ := hco
                unfold maxLen at hco2 hgx
                have e1 : wz.cell? ⟨go_, j, none⟩ = some (.int .i64 (q : Int)) := by
                  rw [hyO.cellAt _ (by omega)]
                  unfold nums
                  rw [List.getElem?_map, hq]; rfl
                obtain ⟨va, vl, hgn⟩ := H.out.2.2.2.2.2.2.2.2.2 q hqG
                have hgn2 := hgn.carry (keeps_of hyB hyS) fun _ h => h
                obtain ⟨xx, hxx⟩ : ∃ x, G[q] = x := ⟨_, rfl⟩
                have hGx : G[q]? = some xx := by rw [List.getElem?_eq_getElem hqG, hxx]
                rw [hxx] at hgn hgn2
                have hfit := (checkG_ok.1 HO.out.1).2.2 xx (List.mem_of_getElem? hGx)
                have hal := H.out.2.1 xx (List.mem_of_getElem? hGx)
                have hll := labels_le hfit
                have hargs : Hid (∀ a ∈ xx.args, 0 ≤ a ∧ a < (n : Int) ∧ a.toNat ∈ L) := Lib.hid fun a ha => by
                  have h := fit_args hfit a ha
                  refine ⟨h.1, by omega, hall.2.2 q hqL _ ?_⟩
                  rw [argsOf_eq hqG, hxx]
                  exact List.mem_map_of_mem ha
                have CC : Hid (∀ V, Below wz.heap.size wz V → Calls Tryd.prog 27 #[.agg #[.int .i64 xx.k, .string xx.nm, va, vl, .bool xx.op]] V fun e w' => ∃ xa' ca' xl' nl' cl', e = .returned (.agg #[.int .i64 xx.k, .string xx.nm, .slice xa' xx.args.length ca', .slice xl' nl' cl', .bool xx.op]) ∧ w'.ownsRow wz.heap.size 3 1 (.slice xa' xx.args.length ca') xx.args.length (numsI xx.args) ∧ Strs w' (fun b => wz.heap.size ≤ b ∧ b < w'.heap.size ∧ (Value.slice xa' xx.args.length ca').ownBlock ≠ some b) (.slice xl' nl' cl') xx.labels ∧ Below wz.heap.size wz w') := Lib.hid fun V hV => by
                  have hVw : Below w.heap.size w V := hyB.trans (hV.mono hyB.size)
                  refine (clone_node S xx va vl V (hgn.ha.carry (keeps_of hVw hyS) fun _ h => h) (hgn.hl.carry (keeps_of hVw hyS) fun _ h => h) (fun b hb => Nat.lt_of_lt_of_le (hyS b hb) hVw.size) hal (by omega)).mono ?_
                  rintro e w' ⟨xa', ca', xl', nl', cl', rfl, h1, h2, h3⟩
                  have := hV.size
                  exact ⟨xa', ca', xl', nl', cl', rfl, own_base h1 (by omega), h2.carry (fun _ _ => rfl) (fun b hb => ⟨by omega, hb.2.1, hb.2.2⟩), hV.trans (h3.mono hV.size)⟩
                obtain ⟨xa, ca, ga, oa, rfl, -, -⟩ := hgn2.ha.open_
                obtain ⟨xl, cl', gl', ol', rfl, -, -⟩ := hgn2.hl.open_
                obtain ⟨na, hnal⟩ : ∃ na, xx.args.length = na := ⟨_, rfl⟩
                obtain ⟨nl, hnll⟩ : ∃ nl, xx.labels.length = nl := ⟨_, rfl⟩
                rw [hnal, hnll] at CC
                have c0 := hgn2.c0
                have c1 := hgn2.c1
                have c2 := hgn2.c2
                have c3 := hgn2.c3
                have c4 := hgn2.c4
                rw [hnal] at c2 hal
                rw [hnll] at c3
                have hgw : gg < wz.heap.size := by have := hyS gg hSg; have := hyB.size; omega
                have hbw : hb < wz.heap.size := (Array.getElem?_eq_some_iff.1 hM).1
                obtain ⟨k0', ek0⟩ : ∃ k0, xx.k = k0 := ⟨_, rfl⟩
                obtain ⟨k1, ek1⟩ : ∃ k1, xx.nm = k1 := ⟨_, rfl⟩
                obtain ⟨k4, ek4⟩ : ∃ k4, xx.op = k4 := ⟨_, rfl⟩
                rw [ek0] at c0 CC
                rw [ek1] at c1 CC
                rw [ek4] at c4 CC
                obtain ⟨og', eog⟩ : ∃ o, og + q * 5 = o := ⟨_, rfl⟩
                rw [eog] at c0 c1 c2 c3 c4
                have a0 := y.2.1
                have hww := y.2.2.2.1
                have HE := Lib.hid (And.intro ek0 (And.intro ek1 (And.intro ek4 (And.intro hnal (And.intro hGx (And.intro hq hqO))))))
                have HR := Lib.hid (And.intro hM (And.intro hR (And.intro hB y)))
                clear hM hR hB hgn hgn2 hxx hGx hfit hll hnal hnll ek0 ek1 ek4 y hyS hyB hyO hall hqO hqO2 hqL hqB hq
                go_wp2_with (go_at_call 27; (with_reducible refine (CC.out _ (Below.refl _ _)).mono ?_); (rintro e8 w8 ⟨xa', ca', xl', nl', cl2, rfl, hA8, hL8, hB8⟩); (have s8 := hB8.size); (have H8 := Lib.hid (And.intro hA8 (And.intro hL8 hB8))); clear hA8 hL8 hB8)
                obtain ⟨cb, hcb⟩ : ∃ b, w8.heap.size = b := ⟨_, rfl⟩
                obtain ⟨W9, hW9⟩ : ∃ W9, w8.alloc (.cells #[.int .i64 k0', .string k1, .slice xa' na ca', .slice xl' nl' cl2, .bool k4] 37) = W9 := ⟨_, rfl⟩
                rw [hW9, hcb]
                have B9 : Below w8.heap.size w8 W9 := by rw [← hW9]; exact (Below.refl _ _).alloc (Nat.le_refl _) _
                have M9 : W9.heap[cb]? = some (.cells #[.int .i64 k0', .string k1, .slice xa' na ca', .slice xl' nl' cl2, .bool k4] 37) := by rw [← hW9, ← hcb]; exact heap_last rfl
                have hBz9 : Below wz.heap.size wz W9 := H8.out.2.2.trans (B9.mono s8)
                have hO9 : W9.ownsRow wz.heap.size 3 1 (.slice xa' na ca') na (numsI xx.args) := own_same H8.out.1 fun k hk => B9.block k (H8.out.1.lt k hk).2
                have s9 : W9.heap.size = cb + 1 := by rw [← hW9, ← hcb]; simp
                have hown9 : ∀ k, (Value.slice xa' na ca').ownBlock = some k → wz.heap.size ≤ k ∧ k < cb := fun k hk => by have := H8.out.1.lt k hk; omega
                have Y9 : Hid (∀ V, Free (fun b => (Value.slice xa' na ca').ownBlock = some b) W9 V → V.heap[cb]? = some (.cells #[.int .i64 k0', .string k1, .slice xa' na ca', .slice xl' nl' cl2, .bool k4] 37) ∧ (∀ b, b < wz.heap.size → V.heap[b]? = wz.heap[b]?) ∧ cb < V.heap.size ∧ wz.heap.size ≤ V.heap.size) := Lib.hid fun V hV => by
                  have hs := hV.size
                  exact ⟨(hV.block cb (by omega) (fun h => by have := hown9 cb h; omega)).trans M9, fun b hb => (hV.block b (by omega) (fun h => by have := hown9 b h; omega)).trans (hBz9.block b hb), by omega, by omega⟩
                have HO9 := Lib.hid (And.intro hO9 (And.intro hown9 (And.intro hcb (And.intro hBz9 (And.intro s9 B9)))))
                clear hW9 M9 B9 hBz9 hO9 hown9 c0 c1 c2 c3 c4 e1 a0 hcb
                go_loopg [98] na (fun gk i wy => ∃ k : Nat, gk = na - k ∧ i = .int .i64 (k : Int) ∧ k ≤ na ∧ wy.ownsRow wz.heap.size 3 1 (.slice xa' na ca') na (numsI (mix (cpA LB n O) xx.args k)) ∧ Free (fun b => (Value.slice xa' na ca').ownBlock = some b) W9 wy)
                case atStart => exact ⟨0, by simp, by first | rfl | simp, Nat.zero_le _, by simpa [mix] using HO9.out.1, Free.refl _ _⟩
                case round =>
                  obtain ⟨k, rfl, rfl, hk, hown, hF⟩ := hrel
                  obtain ⟨wy, rfl⟩ : ∃ wy, wy = wr := ⟨_, rfl⟩
                  obtain ⟨x0, x1, x2, x3⟩ := Y9.out wy hF
                  by_cases hlk : k < na
                  · have hi2 : (k : Int) < (na : Int) := by omega
                    obtain ⟨gr, rfl⟩ : ∃ g, xa' = some ⟨g, 0, none⟩ := by
                      rcases hown.2 with ⟨_, h0⟩ | ⟨g, cap, cur, hv, _⟩
                      · omega
                      · cases hv; exact ⟨g, rfl⟩
                    have hcc : na ≤ ca' ∧ ca' ≤ maxLen := by
                      rcases hown.2 with ⟨_, h0⟩ | ⟨g, cap, cur, hv, _, _, h1, h2, _⟩
                      · omega
                      · cases hv; exact ⟨h1, h2⟩
                    obtain ⟨hc1, hc2⟩ := hcc
                    unfold maxLen at hc2
                    have hgr := hown.lt gr rfl
                    obtain ⟨ai, hai⟩ : ∃ a, xx.args[k]? = some a := ⟨_, List.getElem?_eq_getElem (by have := HE.out.2.2.2.1; omega)⟩
                    have hra := hargs.out ai (List.mem_of_getElem? hai)
                    obtain ⟨an, rfl⟩ : ∃ n : Nat, ai = (n : Int) := ⟨ai.toNat, by omega⟩
                    rw [Int.toNat_natCast] at hra
                    have han : an < n := by omega
                    have han' : (an : Int) < (n : Int) := by omega
                    have han62 : an ≤ 4611686018427387904 := by omega
                    have e1 : wy.cell? ⟨gr, k, none⟩ = some (.int .i64 (an : Int)) := by
                      rw [hown.cellAt _ (by omega)]
                      unfold numsI
                      rw [List.getElem?_map, mix_get hai]; rfl
                    have fr1 := hown.frozenAt k
                    have y := HR.out.2.2.2
                    have e2 := (y.2.2.2.2.1.of (x1 lb y.2.2.2.2.1.lt)).cell han
                    rw [HU4.out.2.2 an han] at e2
                    have hlbz : lb < wy.heap.size := Nat.lt_of_lt_of_le y.2.2.2.2.1.lt x3
                    have HMz := Lib.hid (y.2.2.2.2.2.2.1.of (x1 mb y.2.2.2.2.2.2.1.lt))
                    have m2 := Lib.cell_of_heap x0 2
                    simp only [List.getElem?_toArray, List.getElem?_cons_zero, List.getElem?_cons_succ] at m2
                    have hgrz := hgr.2
                    obtain ⟨bq, hbq⟩ : ∃ b, LB an = b := ⟨_, rfl⟩
                    rw [hbq] at e2
                    have HK := Lib.hid (And.intro hown (And.intro hF (And.intro hai (And.intro hbq hra))))
                    clear hown hF x0 x1 hai hbq hra y
                    cases bq with
                    | false =>
                      go_wp2_with fail
                      go_roundg (na - (k + 1))
                      case measure => omega
                      case rel =>
                        obtain ⟨hown, hF, hai, hbq, hra⟩ := HK.out
                        refine ⟨k + 1, rfl, by first | rfl | simp, hlk, ?_, hF⟩
                        rw [mix_same hai (by unfold cpA; rw [Int.toNat_natCast, hbq]; rfl)]
                        exact hown
                    | true =>
                      have hmf : mf an = n + O.idxOf an := HQ.out.2.2.2.2.1.out an (by rw [HQ.out.1]; exact List.mem_filter.2 ⟨HK.out.2.2.2.2.2.2, HK.out.2.2.2.1⟩)
                      have HMF := Lib.hid hmf
                      clear hmf
                      go_wp2_with (at_lookup; (refine wpList_mapi_look rfl (.tmp 110) (.tmp 111) rfl HMz.out rfl rfl han62 ?_))
                      go_roundg (na - (k + 1))
                      case measure => omega
                      case rel =>
                        obtain ⟨hown, hF, hai, hbq, hra⟩ := HK.out
                        refine ⟨k + 1, rfl, by first | rfl | simp, hlk, ?_, free_setCell hF (p := ⟨gr, k, none⟩) rfl _⟩
                        have hcp : cpA LB n O (an : Int) = (mf an : Int) := by unfold cpA; rw [Int.toNat_natCast, hbq, HMF.out]; rfl
                        rw [mix_step hai, hcp]
                        have h := own_put (i := k) hown (.int .i64 (mf an : Int))
                        unfold numsI at h ⊢
                        rw [List.map_set]
                        exact h
                  · have hi2 : ¬ (k : Int) < (na : Int) := by omega
                    obtain rfl : na = k := by omega
                    obtain ⟨ek0, ek1, ek4, hnal, hGx, hq, hqO⟩ := HE.out
                    rw [mix_all (by omega)] at hown
                    obtain ⟨cs, hown2, hnc⟩ := HR.out.2.1
                    obtain ⟨mm, hmm⟩ : ∃ k, (G ++ cpL LB G O (O.take j)).length = k := ⟨_, rfl⟩
                    have hmm2 : mm ≤ 5000 := by
                      rw [← hmm, List.length_append, cpL_len, List.length_take]
                      · have := H.out.1
                        omega
                      · intro x hx
                        have h1 := List.mem_of_mem_take hx
                        rw [HQ.out.1] at h1
                        have h3 := HO.out.2.2.2.1
                        rw [HLN.out.1] at h3
                        exact (h3 x (List.mem_filter.1 h1).1).1
                    rw [hmm] at hown2
                    obtain ⟨xo2, co2, rfl⟩ := own_shape hown2
                    have hownY := own_same (W' := wy) hown2 fun k hk => x1 k (hown2.lt k hk).2
                    have hMy := (x1 hb hbw).trans HR.out.1
                    have m0 := Lib.cell_of_heap hMy 0
                    have o0 := Lib.cell_of_heap x0 0
                    have o1 := Lib.cell_of_heap x0 1
                    have o2 := Lib.cell_of_heap x0 2
                    have o3 := Lib.cell_of_heap x0 3
                    have o4 := Lib.cell_of_heap x0 4
                    simp only [List.getElem?_toArray, List.getElem?_cons_zero, List.getElem?_cons_succ] at m0 o0 o1 o2 o3 o4
                    have hbwy : hb < wy.heap.size := by omega
                    have HOA := Lib.hid (hownY.alloc (.cells #[.int .i64 k0', .string k1, .slice xa' na ca', .slice xl' nl' cl2, .bool k4] 37))
                    have HNA := Lib.hid (new_cells wy [.int .i64 k0', .string k1, .slice xa' na ca', .slice xl' nl' cl2, .bool k4] 37)
                    have H1A : Hid (∀ u ∈ ([.int .i64 k0', .string k1, .slice xa' na ca', .slice xl' nl' cl2, .bool k4] : List Value), u.oneCell' = true) := Lib.hid (by simp [Value.oneCell'])
                    have HMA : Hid ((wy.alloc (.cells #[.int .i64 k0', .string k1, .slice xa' na ca', .slice xl' nl' cl2, .bool k4] 37)).heap[hb]? = some (.cells #[.slice xo2 mm co2, .int .i64 (rn : Int)] 24)) := Lib.hid ((heap_old hbwy).trans hMy)
                    have HK := Lib.hid (And.intro hown (And.intro hF (And.intro x1 (And.intro hown2 (And.intro hnc hmm)))))
                    clear hown hF x0 x1 hown2 hnc hmm hownY hMy ek0 ek1 ek4 hnal hGx hq hqO
                    go_wp2_with (at_builtin; (refine wpList_append_own_at _ rfl (.tmp 116) (.tmp 118) _ rfl (hb + 1) 37 i2 _ 5 80 Tryd.underlying22 HI2.out.1 HI2.out.2.1 HI2.out.2.2.1 HI2.out.2.2.2 rfl (by decide) (.slice xo2 mm co2) mm cs rfl HOA.out ⟨wy.heap.size, 0, none⟩ 1 1 [.int .i64 k0', .string k1, .slice xa' na ca', .slice xl' nl' cl2, .bool k4] rfl rfl HNA.out H1A.out (by unfold maxLen; omega) (by omega) (by simp; omega) ?_); (intro v5 w5 hown5 hg5 _ hat5); (obtain ⟨y5, d5', v5e⟩ := own_shape hown5); subst v5e; (have hM5 := (hg5.block hb (by rw [World.size_alloc]; omega) (fun h => by have := HOA.out.lt hb h.symm; omega)).trans HMA.out); (have m5 := Lib.cell_of_heap hM5 0); (have f5 := Lib.frozen_of_heap hM5 0); (simp only [List.getElem?_toArray, List.getElem?_cons_zero, List.getElem?_cons_succ] at m5); (have hob5 : hb < w5.heap.size := (Array.getElem?_eq_some_iff.1 hM5).1); (have H5' := Lib.hid (And.intro hown5 (And.intro hg5 (And.intro hM5 hat5)))); clear hown5 hg5 hat5 hM5)
                    go_roundg (ol - (j + 1))
                    case measure => omega
                    case rel =>
                      obtain ⟨hown, hF, x1, hown2, hnc, hmm⟩ := HK.out
                      obtain ⟨hown5, hg5, hM5, hat5⟩ := H5'.out
                      obtain ⟨ek0, ek1, ek4, hnal, hGx, hq, hqO⟩ := HE.out
                      obtain ⟨hO9, hown9, hcb, hBz9, hs9, hB9⟩ := HO9.out
                      have hB := HR.out.2.2.1
                      have h9 := heap_setCell_same _ _ 0 _ _ (.slice y5 (mm + 1) d5') hM5
                      simp only [List.setIfInBounds_toArray, List.set_cons_zero, List.set_cons_succ] at h9
                      have s5' := hg5.size
                      rw [World.size_alloc] at s5'
                      have shb := HW7.out.2
                      have sB := hB.size
                      have sF := hF.size
                      have hBzy : Below wz.heap.size wz wy := hBz9.trans (free_below hF hBz9.size (fun k hk => (hown9 k hk).1))
                      subst ek0 ek1 ek4
                      have htk : G ++ cpL LB G O (O.take (j + 1)) = (G ++ cpL LB G O (O.take j)) ++ [cpN LB G.length O xx] := by
                        rw [List.take_add_one, hq]
                        show G ++ cpL LB G O (O.take j ++ [q]) = _
                        rw [cpL_step hGx, List.append_assoc]
                      refine ⟨j + 1, .slice y5 (mm + 1) d5', rfl, by first | rfl | simp, hlt, h9, ?_, ?_⟩
                      · rw [htk]
                        refine RowN.of (W := w5) (RowN.push (w8 := wy) (x := cpN LB G.length O xx) (va := .slice xa' na ca') (vl := .slice xl' nl' cl2) (v := .slice xo2 mm co2) (cs := cs) (hnc.carry (fun b hb => x1 b hb.2.1) (fun b hb => ⟨hb.1, by omega, hb.2.2⟩)) ?_ ?_ ((Below.refl _ _).alloc (Nat.le_refl _) _) hg5 (by rw [hmm]; exact hown5) ?_) (fun b hb' _ => heap_setCell_other w5 ⟨hb, 0, none⟩ b _ (show b ≠ hb by omega)) (by simp)
                        · show Nums _ _ _ (xx.args.map (cpA LB G.length O))
                          rw [hen]
                          refine nums_own (base := wz.heap.size) (e := 3) (by rw [List.length_map, hnal]; exact hown) fun b hb => ?_
                          have := hown.lt b hb
                          exact ⟨by omega, this.2, fun h => by have := hown2.lt b h; omega⟩
                        · show Strs _ _ _ xx.labels
                          refine H8.out.2.1.carry (fun b hb => (hF.block b (by have := hB9.size; omega) hb.2.2).trans (hB9.block b hb.2.1)) fun b hb => ⟨by omega, by have := hB9.size; omega, fun h => by have := hown2.lt b h; omega⟩
                        · rcases hat5 with h | h
                          · exact .inl h
                          · exact .inr ⟨_, h, by rw [World.size_alloc]; omega⟩
                      · exact (((hB.trans (hBzy.mono (by omega))).alloc (by omega) _).grown hg5 (by rw [World.size_alloc]; omega) (fun b hb => by have := (hown2.lt b hb).1; omega)).setCell (p := ⟨hb, 0, none⟩) (Nat.le_refl _) _
              · have hi' : ¬ (j : Int) < (ol : Int) := by omega
                obtain rfl : ol = j := by omega
                have hallO : O.take ol = O := List.take_of_length_le (by have := HQ.out.2.1; omega)
                rw [hallO] at hR
                have hOe : O = ordG G (rn : Int) l := by unfold ordG; rw [HLN.out.1, HL.out]; exact HQ.out.1
                have hLB := HL.out
                have hFG : G ++ cpL LB G O O = freshG G (rn : Int) l := by unfold freshG; rw [hLB, ← hOe]
                have hFR : cpA LB G.length O (rn : Int) = freshR G (rn : Int) l := by unfold freshR; rw [hLB, ← hOe]
                rw [hFG] at hR
                obtain ⟨FG, hFGe⟩ : ∃ F, freshG G (rn : Int) l = F := ⟨_, rfl⟩
                obtain ⟨RR, hRR⟩ : ∃ z, freshR G (rn : Int) l = z := ⟨_, rfl⟩
                rw [hFGe] at hR
                rw [hRR, hen] at hFR
                have hR' := hR
                obtain ⟨cs, hown, -⟩ := hR'
                obtain ⟨mm, hmm⟩ : ∃ k, FG.length = k := ⟨_, rfl⟩
                rw [hmm] at hown
                obtain ⟨xo2, co2, rfl⟩ := own_shape hown
                have a0 := y.2.1
                have a1 := y.2.2.1
                have hww := y.2.2.2.1
                have e2 := y.2.2.2.2.1.cell hrn
                rw [HU4.out.2.2 rn hrn] at e2
                have hlbz := y.2.2.2.2.1.lt
                have HMz := Lib.hid y.2.2.2.2.2.2.1
                have b2 := y.2.2.2.2.2.2.2.1
                have hbw : hb < wz.heap.size := (Array.getElem?_eq_some_iff.1 hM).1
                have hw1 : w.heap.size + 1 < hb := y.2.2.2.2.2.2.2.2.2.2
                have hw2 : w.heap.size + 1 < wz.heap.size := by omega
                have hrn' : (rn : Int) < (n : Int) := by omega
                have hrn62 : rn ≤ 4611686018427387904 := by omega
                have hbne : hb ≠ w.heap.size := by omega
                have hbne1 : hb ≠ w.heap.size + 1 := by omega
                have m0 := Lib.cell_of_heap hM 0
                have m1 := Lib.cell_of_heap hM 1
                have mf1 := Lib.frozen_of_heap hM 1
                have r0 := Lib.cell_of_heap b2 0
                have r1 := Lib.cell_of_heap b2 1
                have fr0 := Lib.frozen_of_heap b2 0
                have fr1 := Lib.frozen_of_heap b2 1
                simp only [List.getElem?_toArray, List.getElem?_cons_zero, List.getElem?_cons_succ] at m0 m1 r0 r1
                have FIN : Hid (∀ (V : World) (a : Act) (z : Int), (∀ b, b ≠ hb → V.heap[b]? = wz.heap[b]?) → V.heap.size = wz.heap.size → Below hb wz V → z = RR → a.defers = [] → a.tmps[4]? = some (.pointer (some ⟨w.heap.size + 1, 0, none⟩)) → a.tmps[5]? = some (.int .i64 0) → bodyPost Tryd.prog Tryd.f10 Po Exit.ret a ((V.setCell ⟨w.heap.size + 1, 0, none⟩ (.slice xo2 mm co2)).setCell ⟨w.heap.size + 1, 1, none⟩ (.int .i64 z))) := Lib.hid fun V a z hk hs hB3 hz h0 h4 h5 => by
                  subst hz
                  have b2V := (hk _ (by omega)).trans b2
                  have g1 := heap_setCell_same V (w.heap.size + 1) 0 _ _ (.slice xo2 mm co2) b2V
                  have g2 := heap_setCell_same _ (w.heap.size + 1) 1 _ _ (.int .i64 z) g1
                  obtain ⟨W11, hW11⟩ : ∃ W11, (V.setCell ⟨w.heap.size + 1, 0, none⟩ (.slice xo2 mm co2)).setCell ⟨w.heap.size + 1, 1, none⟩ (.int .i64 z) = W11 := ⟨_, rfl⟩
                  have k11 : ∀ b, b ≠ w.heap.size + 1 → W11.heap[b]? = V.heap[b]? := fun b hb' => by
                    rw [← hW11]
                    exact (heap_setCell_other _ ⟨w.heap.size + 1, 1, none⟩ b _ hb').trans (heap_setCell_other _ ⟨w.heap.size + 1, 0, none⟩ b _ hb')
                  have s11 : W11.heap.size = V.heap.size := by rw [← hW11]; simp
                  have B11 : Below w.heap.size w W11 := by
                    rw [← hW11]
                    exact ((y.2.2.2.2.2.2.2.2.1.trans (hB3.mono (by omega))).setCell (p := ⟨w.heap.size + 1, 0, none⟩) (Nat.le_succ _) _).setCell (p := ⟨w.heap.size + 1, 1, none⟩) (Nat.le_succ _) _
                  rw [hW11] at g2 ⊢
                  refine bodyPost_ret (results_fresh rfl _ _ (w.heap.size + 1) (.slice xo2 mm co2) (.int .i64 z) (.int .i64 0) h4 h5 (by rw [Lib.cell_of_heap g2]; rfl) (by rw [Lib.cell_of_heap g2]; rfl)) h0 (HPO.out _ _ (.inl ⟨by trivial, xo2, co2, ?_, ?_, B11⟩))
                  · rw [hFGe, hmm, hRR]
                  · rw [hFGe, hmm]
                    exact (hR.of (fun b hb1 _ => (k11 b (by omega)).trans (hk b (by omega))) (by omega)).gr (by omega)
                obtain ⟨bq, hbq⟩ : ∃ b, LB rn = b := ⟨_, rfl⟩
                rw [hbq] at e2
                have hcp : RR = if bq then (mf rn : Int) else (rn : Int) := by
                  rw [← hFR]
                  unfold cpA
                  rw [Int.toNat_natCast, hbq]
                  cases bq with
                  | false => rfl
                  | true =>
                    have hh := HO.out.2.2
                    have hrL : rn ∈ L := by
                      have h3 := (reachG_done HO.out.1 H.out.2.1).2.2.1
                      rw [HLN.out.1] at h3
                      cases L with
                      | nil => cases h3
                      | cons z t => simp only [List.head?_cons, Option.some.injEq, Int.toNat_natCast] at h3; rw [h3]; simp
                    have h4 := HQ.out.2.2.2.2.1.out rn (by rw [HQ.out.1]; exact List.mem_filter.2 ⟨hrL, hbq⟩)
                    rw [h4]
                have HCP := Lib.hid hcp
                clear hM hR hB y b2 hFG hFR hFGe hRR hmm hown hcp hbq hOe hLB hallO
                cases bq with
                | false =>
                  go_wp2_with fail
                  exact postQ_ret (FIN.out wz _ _ (fun _ _ => rfl) rfl (Below.refl _ _) HCP.out.symm rfl rfl rfl)
                | true =>
                  go_wp2_with (at_lookup; (refine wpList_mapi_look rfl (.tmp 127) (.tmp 129) rfl HMz.out rfl rfl hrn62 ?_))
                  exact postQ_ret (FIN.out _ _ _ (fun b hb' => heap_setCell_other wz ⟨hb, 1, none⟩ b _ hb') (by simp) ((Below.refl _ _).setCell (p := ⟨hb, 1, none⟩) (Nat.le_refl _) _) HCP.out.symm rfl rfl rfl)
end Go.Proofs.YtkbmkmpoapafaaaDoor
