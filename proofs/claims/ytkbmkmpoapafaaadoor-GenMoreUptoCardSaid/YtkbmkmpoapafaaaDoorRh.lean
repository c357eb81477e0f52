/- walk.Reach: the nodes that are reached, in order. -/
import Derived.Test.YtkbmkmpoapafaaaDoorGb
import Derived.Test.YtkbmkmpoapafaaaDoorRp
import Derived.Test.YtkbmkmpoapafaaaDoorGs
import Derived.Sort.LoopGhostIn
import Derived.Maps.OwnIn
import Derived.Deep.OwnRows
namespace Go.Proofs.YtkbmkmpoapafaaaDoor
open Go.ChangeShapes Go.WideShapes Go.ChangeAt Go.RowKit Go.Shelf
attribute [local go_sem] Oper.semAt_some

theorem boolInfo : (Tryd.prog.info? 4).map (fun i => (i.zero, i.size, i.bytes)) = some (some (.bool false), 1, 1) := by kernel_rfl
/-- Where a node leads. -/
def argsOf (G : List GN) (n : Nat) : List Nat := ((toG G)[n]?.map (·.args)).getD []
/-- The nodes reached. -/
def reachL (G : List GN) (r : Nat) : List Nat := Gu.runR (argsOf G) (Gu.left G.length 2000 [] [r]) [] [r]
def nums (l : List Nat) : List Value := l.map fun i : Nat => Value.int .i64 (i : Int)
theorem nums_append (l m : List Nat) : nums (l ++ m) = nums l ++ nums m := by simp [nums]
theorem nums_length (l : List Nat) : (nums l).length = l.length := by simp [nums]
def reachGives (G : List GN) (r : Nat) (w : World) (e : Ending) (w' : World) : Prop := ∃ v, e = .returned v ∧ w'.ownsRow w.heap.size 3 1 v (reachL G r).length (nums (reachL G r)) ∧ Below w.heap.size w w'

theorem argsOf_eq {G : List GN} {q : Nat} (hq : q < G.length) : argsOf G q = G[q].args.map Int.toNat := by
  unfold argsOf toG
  rw [List.getElem?_map, List.getElem?_eq_getElem hq]; rfl
theorem args_fit {G : List GN} {r : Int} (hok : checkG G r = 0) {q : Nat} (hq : q < G.length) : ∀ a ∈ G[q].args, 0 ≤ a ∧ a < (G.length : Int) := fit_args ((checkG_ok.1 hok).2.2 _ (List.getElem_mem hq))
theorem args_lt {G : List GN} {r : Int} (hok : checkG G r = 0) {q : Nat} (hq : q < G.length) : ∀ c ∈ argsOf G q, c < G.length := fun c hc => by
  rw [argsOf_eq hq] at hc
  obtain ⟨z, hz, rfl⟩ := List.mem_map.1 hc
  have := args_fit hok hq z hz
  omega
theorem args_at {G : List GN} {r : Int} (hok : checkG G r = 0) {q : Nat} (hq : q < G.length) (i : Nat) (hi : i < G[q].args.length) : G[q].args[i] = (((argsOf G q).getD i 0 : Nat) : Int) := by
  have h := args_fit hok hq _ (List.getElem_mem hi)
  rw [argsOf_eq hq, List.getD_eq_getElem?_getD, List.getElem?_map, List.getElem?_eq_getElem hi]
  simp only [Option.map_some, Option.getD_some]
  omega
theorem backs_snd (l : List Nat) : (backs (fun i => l.getD i 0) l.length).map (·.2) = l.reverse := by
  unfold backs
  rw [List.map_map, List.map_reverse]
  congr 1
  refine List.ext_getElem (by simp) fun i h1 h2 => ?_
  simp [List.getElem?_eq_getElem h2]
theorem runR_skip {args : Nat → List Nat} {k q : Nat} {order t : List Nat} (h : order.contains q = true) : Gu.runR args (k + 1) order (t ++ [q]) = Gu.runR args k order t := by
  rw [Gu.runR, List.getLast?_concat]
  simp only [h, if_true, List.dropLast_concat]
theorem runR_step {args : Nat → List Nat} {k q : Nat} {order t : List Nat} (h : order.contains q = false) : Gu.runR args (k + 1) order (t ++ [q]) = Gu.runR args k (order ++ [q]) (t ++ Gu.fresh (order ++ [q]) (args q)) := by
  rw [Gu.runR, List.getLast?_concat]
  simp only [h, Bool.false_eq_true, if_false, List.dropLast_concat]

/-- What is still to be looked at, in the midst of a node's. -/
def tdL (order t : List Nat) (q : Nat) (pre : List (Nat × Nat)) : List Nat := t ++ (pre.map (·.2)).filter fun a => !(order ++ [q]).contains a
theorem tdL_nil (order t : List Nat) (q : Nat) : tdL order t q [] = t := by simp [tdL]
theorem tdL_yes {order t : List Nat} {q : Nat} {pre : List (Nat × Nat)} {x : Nat × Nat} (h : (order ++ [q]).contains x.2 = true) : tdL order t q (pre ++ [x]) = tdL order t q pre := by
  unfold tdL
  rw [List.map_append, List.filter_append, List.map_singleton, List.filter_cons, h]; simp
theorem tdL_no {order t : List Nat} {q : Nat} {pre : List (Nat × Nat)} {x : Nat × Nat} (h : (order ++ [q]).contains x.2 = false) : tdL order t q (pre ++ [x]) = tdL order t q pre ++ [x.2] := by
  unfold tdL
  rw [List.map_append, List.filter_append, List.map_singleton, List.filter_cons, h]; simp
theorem tdL_len (order t : List Nat) (q : Nat) (pre : List (Nat × Nat)) : (tdL order t q pre).length ≤ t.length + pre.length := by
  unfold tdL
  have := List.length_filter_le (fun a => !(order ++ [q]).contains a) (pre.map (·.2))
  simp only [List.length_append, List.length_map] at this ⊢
  omega
theorem tdL_all (order t : List Nat) (q : Nat) (l : List Nat) : tdL order t q (backs (fun i => l.getD i 0) l.length) = t ++ Gu.fresh (order ++ [q]) l := by
  unfold tdL Gu.fresh
  rw [backs_snd]

/-- Blocks for rounds' deferred calls, that hold none. -/
def Marks (b : Nat) (ds : List Deferred) (W : World) : Prop := ∃ Ds : List Nat, ds = Ds.map (fun D => { target := .collected D, args := #[] }) ∧ Ds.Nodup ∧ ∀ D ∈ Ds, b ≤ D ∧ W.heap[D]? = some (.deferred (some []))
theorem Marks.nil (b : Nat) (W : World) : Marks b [] W := ⟨[], rfl, List.nodup_nil, fun _ h => by cases h⟩
theorem Marks.of {b : Nat} {ds : List Deferred} {W W' : World} (h : Marks b ds W) (hk : ∀ D, b ≤ D → W.heap[D]? = some (.deferred (some [])) → W'.heap[D]? = W.heap[D]?) : Marks b ds W' := by
  obtain ⟨Ds, h1, h2, h3⟩ := h
  exact ⟨Ds, h1, h2, fun D hD => ⟨(h3 D hD).1, (hk D (h3 D hD).1 (h3 D hD).2).trans (h3 D hD).2⟩⟩
theorem Marks.push {b D : Nat} {ds : List Deferred} {W W' : World} (h : Marks b ds W) (hk : ∀ D, b ≤ D → W.heap[D]? = some (.deferred (some [])) → W'.heap[D]? = W.heap[D]?) (hb : b ≤ D) (hD : W.heap.size ≤ D) (hn : W'.heap[D]? = some (.deferred (some []))) : Marks b ({ target := .collected D, args := #[] } :: ds) W' := by
  obtain ⟨Ds, h1, h2, h3⟩ := h
  refine ⟨D :: Ds, by rw [h1]; rfl, List.nodup_cons.2 ⟨fun hm => ?_, h2⟩, fun E hE => ?_⟩
  · have := (Array.getElem?_eq_some_iff.1 (h3 D hm).2).1
    omega
  · rcases List.mem_cons.1 hE with rfl | hE
    · exact ⟨hb, hn⟩
    · exact ⟨(h3 E hE).1, (hk E (h3 E hE).1 (h3 E hE).2).trans (h3 E hE).2⟩
/-- A function is left through such marks. -/
theorem leaves_marks {F : Fence} {m : Nat} {P : Program} {fn : Func} {tmps : Array Value} {R : Ending → World → Prop} {b : Nat} : ∀ (ds : List Deferred) (W : World), Marks b ds W → (∀ W', Free (fun k => b ≤ k ∧ ∃ x, W.heap[k]? = some (.deferred x)) W W' → LeavesInM F m P fn tmps R [] .returning W') → LeavesInM F m P fn tmps R ds .returning W := by
  intro ds
  induction ds with
  | nil => exact fun W _ h => h W (Free.refl _ W)
  | cons d ds ih =>
    intro W hM h
    obtain ⟨Ds, h1, h2, h3⟩ := hM
    cases Ds with
    | nil => cases h1
    | cons D Ds =>
      simp only [List.map_cons, List.cons.injEq] at h1
      obtain ⟨rfl, rfl⟩ := h1
      have hd := List.nodup_cons.1 h2
      have hD := h3 D List.mem_cons_self
      refine ⟨by simp, .inl ⟨D, _, rfl, run_takeDeferred hD.2, ih _ ⟨Ds, rfl, hd.2, fun E hE => ⟨(h3 E (List.mem_cons_of_mem _ hE)).1, ?_⟩⟩ fun W' hF => h W' ?_⟩⟩
      · rw [World.putObj_heap_other (show E ≠ D from fun e => hd.1 (by rw [← e]; exact hE))]
        exact (h3 E (List.mem_cons_of_mem _ hE)).2
      · have hF1 : Free (fun k => b ≤ k ∧ ∃ x, W.heap[k]? = some (.deferred x)) W (W.putObj D (.deferred none)) := (Free.refl _ W).putObj ⟨hD.1, _, hD.2⟩ _
        refine hF1.trans ⟨hF.os, hF.tape, hF.output, hF.size, fun k hk hn => hF.block k hk (fun ⟨h1, x, hx⟩ => hn ⟨h1, ?_⟩)⟩
        by_cases e : k = D
        · rw [e]; exact ⟨_, hD.2⟩
        · rw [World.putObj_heap_other e] at hx
          exact ⟨x, hx⟩

/-- How walk.Reach stands ahead of a round. -/
def RI (G : List GN) (r n cg : Nat) (xg : Option Addr) (w : World) (k : Nat) (a : Act) (wr : World) : Prop := ∃ (order todo : List Nat) (vo vt : Value) (ds : List Deferred) (kf : Nat) (u6 u7 u8 u9 u10 u11 u12 u13 u14 u15 u16 u17 u18 u19 u20 u21 u22 u23 u24 u25 u26 u27 u28 u29 u30 u31 u32 u33 u34 u35 u36 u37 u38 u39 u40 u41 u42 u43 u44 u45 u46 u47 u48 u49 u50 u51 u52 u53 u54 u55 u56 u57 u58 u59 : Value),
  a = { tmps := #[.agg #[.slice xg n cg, .int .i64 (r : Int)], .pointer (some ⟨w.heap.size, 0, none⟩), .slice none 0 0, vo, .pointer (some ⟨w.heap.size + 1 + 1, 0, none⟩), .pointer (some ⟨w.heap.size + 1 + 1 + 1 + 1, 0, none⟩), u6, u7, u8, u9, u10, u11, u12, u13, u14, u15, u16, u17, u18, u19, u20, u21, u22, u23, u24, u25, u26, u27, u28, u29, u30, u31, u32, u33, u34, u35, u36, u37, u38, u39, u40, u41, u42, u43, u44, u45, u46, u47, u48, u49, u50, u51, u52, u53, u54, u55, u56, u57, u58, u59], defers := ds } ∧ k = Gu.left n 2000 order todo ∧ (k ≤ kf ∧ kf ≤ 5000000) ∧ Gu.runR (argsOf G) kf order todo = reachL G r ∧ Gu.Way (argsOf G) n r order todo ∧ Marks (w.heap.size + 5) ds wr ∧
  wr.heap[w.heap.size]? = some (.cells #[.slice xg n cg, .int .i64 (r : Int)] 24) ∧ wr.rowIs (w.heap.size + 1) 4 n (fun i => .bool (order.contains i)) ∧ wr.heap[w.heap.size + 1 + 1]? = some (.cells #[.slice (some ⟨w.heap.size + 1, 0, none⟩) n n] 49) ∧ wr.heap[w.heap.size + 1 + 1 + 1 + 1]? = some (.cells #[vt] 32) ∧
  wr.ownsRow (w.heap.size + 3) 3 1 vt todo.length (nums todo) ∧ wr.ownsRow (w.heap.size + 5) 3 1 vo order.length (nums order) ∧ (∀ q, vt.ownBlock = some q → q ≠ w.heap.size + 4 ∧ vo.ownBlock ≠ some q) ∧ Below w.heap.size w wr

set_option maxHeartbeats 4000000 in
set_option maxRecDepth 100000 in
theorem reach_walk (S : Nat → Prop) (vg : Value) (r : Nat) (G : List GN) (w : World) (hG : GrAt w S vg G) (hS : ∀ b, S b → b < w.heap.size) (hok : checkG G (r : Int) = 0) (lG : G.length ≤ 2000) (aG : ∀ x ∈ G, x.args.length ≤ 2000) :
    Calls Tryd.prog 41 #[.agg #[vg, .int .i64 (r : Int)]] w (reachGives G r w) := by
  obtain ⟨xg, cg, gg, og, rfl, hxg, hng⟩ := hG.open_
  obtain ⟨n, en⟩ : ∃ n, G.length = n := ⟨_, rfl⟩
  have hin := inside_iff.1 (checkG_ok.1 hok).2.1
  rw [en] at hin lG
  have hrn : r < n := by omega
  have HGI := Lib.hid (And.intro en (And.intro hxg (And.intro hng (And.intro hS (And.intro hok aG)))))
  rw [en]
  clear hG en hxg hng hS hok aG hin
  refine (callsIn_wide (n := 5)).1 ?_
  have hf1 : Fence.wide.fn 53 := trivial
  have hf2 : Fence.wide.fn 59 := trivial
  have hdp : Fence.wide.depth.isSome = false := rfl
  refine callsIn_of_wp_marks Tryd.func41 rfl trivial ?_ rfl
  simp only [Tryd.ntmps41, List.size_toArray, List.length_cons, List.length_nil, Nat.reduceAdd, Nat.reduceSub, Array.replicate_succ, Array.replicate_zero, List.push_toArray, List.append_toArray, List.nil_append, List.cons_append]
  have hmk := run_make_row' (P := Tryd.prog) 49 4 (.bool false) 1 Tryd.underlying49 boolInfo rfl .i64 .i64 n (by omega) (by omega)
  gi_wp2
  clear hmk
  obtain ⟨W0, hW0⟩ : ∃ W0, (((((w.alloc (.cells #[.slice xg n cg, .int .i64 (r : Int)] 24)).alloc (.cells (madeCells #[.bool false] n) 4)).alloc (.cells #[.slice (some ⟨w.heap.size + 1, 0, none⟩) n n] 49)).alloc (.cells #[.int .i64 (r : Int)] 3)).alloc (.cells #[.slice (some ⟨w.heap.size + 1 + 1 + 1, 0, none⟩) 1 1] 32)) = W0 := ⟨_, rfl⟩
  rw [hW0]
  refine wpIn_loop_ghost (RI G r n cg xg w) (Gu.left n 2000 [] [r]) ?start ?round
  case start =>
    refine ⟨[], [r], _, .slice (some ⟨w.heap.size + 3, 0, none⟩) 1 1, [], Gu.left n 2000 [] [r], _, _, _, _, _, _, _, _, _, _, _, _, _, _, _, _, _, _, _, _, _, _, _, _, _, _, _, _, _, _, _, _, _, _, _, _, _, _, _, _, _, _, _, _, _, _, _, _, _, _, _, _, _, _, rfl, rfl, ⟨Nat.le_refl _, by unfold Gu.left; simp only [List.length_nil, List.length_singleton]; omega⟩, by unfold reachL; rw [HGI.out.1], Gu.way_start hrn, Marks.nil _ _, ?_, ?_, ?_, ?_, ?_, World.ownsRow_nil _ _ _ _, ?_, ?_⟩
    · rw [← hW0, heap_old (by simp <;> omega), heap_old (by simp <;> omega), heap_old (by simp <;> omega), heap_old (by simp <;> omega)]; exact heap_last rfl
    · rw [← hW0]
      have h := World.rowIs_made (w.alloc (.cells #[.slice xg n cg, .int .i64 (r : Int)] 24)) (.bool false) n 4
      rw [World.size_alloc] at h
      have h2 := ((h.alloc (o := .cells #[.slice (some ⟨w.heap.size + 1, 0, none⟩) n n] 49)).alloc (o := .cells #[.int .i64 (r : Int)] 3)).alloc (o := .cells #[.slice (some ⟨w.heap.size + 1 + 1 + 1, 0, none⟩) 1 1] 32)
      exact h2.congr (fun i _ => by simp)
    · rw [← hW0, heap_old (by simp <;> omega), heap_old (by simp <;> omega)]; exact heap_last (by simp)
    · rw [← hW0]; exact heap_last (by simp)
    · have h := World.ownsRow_lit (base := w.heap.size + 3) (e := 3) (size := 1) (((w.alloc (.cells #[.slice xg n cg, .int .i64 (r : Int)] 24)).alloc (.cells (madeCells #[.bool false] n) 4)).alloc (.cells #[.slice (some ⟨w.heap.size + 1, 0, none⟩) n n] 49)) #[.int .i64 (r : Int)] 1 (by simp) (by unfold maxLen; omega) (by simp)
      simp only [World.size_alloc] at h
      rw [← hW0]
      exact h.alloc _
    · intro q hq
      simp only [Value.ownBlock, Option.some.injEq] at hq
      exact ⟨by omega, by simp [Value.ownBlock]⟩
    · rw [← hW0]; exact (((((Below.refl _ _).alloc (Nat.le_refl _) _).alloc (by simp) _).alloc (by simp; omega) _).alloc (by simp; omega) _).alloc (by simp; omega) _
  case round =>
    clear hW0
    intro k a wr hI
    refine (fun key => key _ (fun _ _ h => h) : (∀ K : Act → World → Prop, (∀ a' w', (∃ n', n' < k ∧ RI G r n cg xg w n' a' w') → K a' w') → Code.wpIn Fence.wide 5 Tryd.prog _ (Exit.then K _) a wr) → _) ?_
    intro K hK
    obtain ⟨order, todo, vo, vt, ds, kf, u6, u7, u8, u9, u10, u11, u12, u13, u14, u15, u16, u17, u18, u19, u20, u21, u22, u23, u24, u25, u26, u27, u28, u29, u30, u31, u32, u33, u34, u35, u36, u37, u38, u39, u40, u41, u42, u43, u44, u45, u46, u47, u48, u49, u50, u51, u52, u53, u54, u55, u56, u57, u58, u59, rfl, rfl, hkf, hrun, hway, hmarks, hg0, hseen, hb2, hb4, hT, hO, hdist, hB⟩ := hI
    have sB := hB.size
    have z4 : w.heap.size + 1 + 1 + 1 + 1 < wr.heap.size := (Array.getElem?_eq_some_iff.1 hb4).1
    have c4 : wr.cell? ⟨w.heap.size + 1 + 1 + 1 + 1, 0, none⟩ = some vt := by rw [Lib.cell_of_heap hb4]; rfl
    obtain ⟨xt, ct, rfl⟩ := own_shape hT
    obtain ⟨xo, co, rfl⟩ := own_shape hO
    have HI := Lib.hid (And.intro hkf (And.intro hrun (And.intro hway (And.intro hmarks (And.intro hg0 (And.intro hseen (And.intro hb2 (And.intro hb4 (And.intro hT (And.intro hO (And.intro hdist hB)))))))))))
    clear hkf hrun hway hmarks hg0 hseen hb2 hb4 hT hO hdist hB
    rcases List.eq_nil_or_concat todo with rfl | ⟨t, q, hq⟩
    · have hres : Hid (reachL G r = order) := Lib.hid (by
        rw [← HI.out.2.1]
        cases kf <;> rfl)
      have HK := Lib.hid hK
      clear hK
      simp only [List.length_nil] at c4 ⊢
      gi_wp2
      refine leaves_marks ds _ HI.out.2.2.2.1 fun W' hF => ⟨_, results_tmp rfl _ _ _, .slice xo order.length co, rfl, ?_, ?_⟩
      · rw [hres.out]
        have hO := HI.out.2.2.2.2.2.2.2.2.2.1
        refine own_same (W := wr) ⟨hO.1, hO.2.imp id fun ⟨g, cap, cur, h1, h2, h3⟩ => ⟨g, cap, cur, h1, by omega, h3⟩⟩ fun q hq => ?_
        have hl := hO.lt q hq
        refine hF.block q hl.2 fun ⟨_, x, hx⟩ => ?_
        rcases hO.2 with ⟨h, _⟩ | ⟨g, cap, cur, h1, h2, h3, _⟩
        · rw [h] at hq; simp [Value.ownBlock] at hq
        · rw [h1] at hq
          simp only [Value.ownBlock, Option.some.injEq] at hq
          subst hq
          rw [h3] at hx; cases hx
      · exact HI.out.2.2.2.2.2.2.2.2.2.2.2.trans (free_below hF (by have := HI.out.2.2.2.2.2.2.2.2.2.2.2.size; omega) (fun k hk => by have := hk.1; omega))
    · rw [List.concat_eq_append] at hq
      subst hq
      obtain ⟨tn, htn⟩ : ∃ m, t.length = m := ⟨_, rfl⟩
      have hlen : (t ++ [q]).length = tn + 1 := by simp [htn]
      rw [hlen] at c4
      obtain ⟨hkf, hrun, hway, hmarks, hg0, hseen, hb2, hb4, hT, hO, hdist, hB⟩ := HI.out
      rw [hlen, nums_append] at hT
      obtain ⟨tg, rfl⟩ : ∃ g, xt = some ⟨g, 0, none⟩ := by
        rcases hT.2 with ⟨_, h0⟩ | ⟨g, cap, cur, hv, _⟩
        · omega
        · cases hv; exact ⟨g, rfl⟩
      have htg := hT.lt tg (by simp [Value.ownBlock])
      have e0 : wr.cell? ⟨tg, tn, none⟩ = some (.int .i64 (q : Int)) := by
        rw [hT.cellAt _ (by omega), List.getElem?_append_right (by rw [nums_length, htn]; omega), nums_length, htn, Nat.sub_self]; rfl
      have hpop := ownsRow_pop (n := tn) (by rw [nums_length]; omega) hT
      have hcap : tn + 1 ≤ ct ∧ ct ≤ maxLen := by
        rcases hT.2 with ⟨_, h0⟩ | ⟨g, cap, cur, hv, _, _, h1, h2, _⟩
        · omega
        · cases hv; exact ⟨h1, h2⟩
      obtain ⟨hct, hcx⟩ := hcap
      unfold maxLen at hcx
      have hqn : q < n := hway.lt q (.inr (by simp))
      have hqn' : (q : Int) < (n : Int) := by omega
      have c2 : wr.cell? ⟨w.heap.size + 1 + 1, 0, none⟩ = some (.slice (some ⟨w.heap.size + 1, 0, none⟩) n n) := by rw [Lib.cell_of_heap hb2]; rfl
      have f4 := Lib.frozen_of_heap hb4 0
      have c1 := hseen.cell hqn
      have f1 := hseen.frozen q
      have c0 : wr.cell? ⟨w.heap.size, 0, none⟩ = some (.slice xg n cg) := by rw [Lib.cell_of_heap hg0]; rfl
      have z2 : w.heap.size + 1 + 1 < wr.heap.size := by omega
      have z1 : w.heap.size + 1 < wr.heap.size := by omega
      have z0 : w.heap.size < wr.heap.size := by omega
      have ztg := htg.2
      have HP := Lib.hid (And.intro hpop (And.intro htn hlen))
      have hm1 : (tn : Int) < (tn : Int) + 1 := by omega
      have htg4 := (hdist tg (by simp [Value.ownBlock])).1
      have hne4 : tg ≠ w.heap.size + 1 + 1 + 1 + 1 := htg4
      have hne1 : tg ≠ w.heap.size + 1 := by omega
      clear hkf hrun hmarks hg0 hseen hb2 hb4 hT hO hdist hB hpop htn hlen
      obtain ⟨bq, hbq⟩ : ∃ b, order.contains q = b := ⟨_, rfl⟩
      rw [hbq] at c1
      have HBQ := Lib.hid hbq
      have HWY := Lib.hid hway
      have HK := Lib.hid hK
      clear hbq hway hK
      cases bq with
      | true =>
        gi_wp2
        obtain ⟨hkf, hrun, hway, hmarks, hg0, hseen, hb2, hb4, hT, hO, hdist, hB⟩ := HI.out
        obtain ⟨hpop, htn, -⟩ := HP.out
        obtain ⟨kf', rfl⟩ : ∃ k', kf = k' + 1 := ⟨kf - 1, by have := @Gu.left_skip n 2000 q order t; have := hkf.1; omega⟩
        have h4 := heap_setCell_same _ _ 0 _ _ (.slice (some ⟨tg, 0, none⟩) tn ct) hb4
        simp only [List.setIfInBounds_toArray, List.set_cons_zero] at h4
        have hot : ∀ k, k ≠ w.heap.size + 4 → (wr.setCell ⟨w.heap.size + 1 + 1 + 1 + 1, 0, none⟩ (.slice (some ⟨tg, 0, none⟩) tn ct)).heap[k]? = wr.heap[k]? := fun k hk => RowKit.Below.heap_setCell _ _ _ _ hk
        refine HK.out _ _ ⟨Gu.left n 2000 order t, Gu.left_skip, order, t, _, .slice (some ⟨tg, 0, none⟩) tn ct, ds, kf', _, _, _, _, _, _, _, _, _, _, _, _, _, _, _, _, _, _, _, _, _, _, _, _, _, _, _, _, _, _, _, _, _, _, _, _, _, _, _, _, _, _, _, _, _, _, _, _, _, _, _, _, _, _, rfl, rfl, ⟨by have := @Gu.left_skip n 2000 q order t; have := hkf.1; omega, by have := hkf.2; omega⟩, by rw [← hrun, runR_skip HBQ.out], hway.skip (by simpa using HBQ.out), hmarks.of (fun D hD _ => hot D (by omega)), (hot _ (by omega)).trans hg0, hseen.of_block (hot _ (by omega)), (hot _ (by omega)).trans hb2, h4, ?_, ?_, ?_, hB.setCell (p := ⟨w.heap.size + 1 + 1 + 1 + 1, 0, none⟩) (by simp only; omega) _⟩
        · rw [htn]
          exact own_same hpop fun p hp => hot p (hdist p hp).1
        · exact own_same hO fun p hp => hot p (by have := (hO.lt p hp).1; omega)
        · exact fun p hp => hdist p hp
      | false =>
        obtain ⟨i0, hi, hz0, hz1, hz2⟩ := info_parts intInfo
        obtain ⟨en, hxg, hng, hS, hok, aG⟩ := HGI.out
        obtain ⟨rfl, hgc, hgx, hSg⟩ := hxg (by omega)
        have hqG : q < G.length := by omega
        obtain ⟨va, vl, hgn⟩ := hng q hqG
        obtain ⟨ag, ao, hsl, hac⟩ := hgn.ha
        have hc2 := hgn.c2
        obtain ⟨xa, ca, rfl, hxa⟩ := hsl.shape
        obtain ⟨na, hna⟩ : ∃ na, G[q].args.length = na := ⟨_, rfl⟩
        rw [hna] at hc2 hxa
        have hac' : ∀ i, i < na → w.cell? ⟨ag, ao + i, none⟩ = some (.int .i64 (((argsOf G q).getD i 0 : Nat) : Int)) := fun i hi => by
          rw [← args_at hok hqG i (by omega)]; exact hac i (by omega)
        have hna2 : na ≤ 2000 := by rw [← hna]; exact aG _ (List.getElem_mem hqG)
        have HA := Lib.hid (And.intro hac' (And.intro hxa (And.intro hc2 (And.intro hna (And.intro hSg hqG)))))
        clear hng hgn hsl hac hac' hxa hc2 hna hxg hok aG
        rw [en] at hgc
        unfold maxLen at hgx
        have hol : order.length ≤ 2000 := Nat.le_trans (Gu.nodup_le HWY.out.nd fun x hx => HWY.out.lt x (.inl hx)) lG
        have hOx := HI.out.2.2.2.2.2.2.2.2.2.1
        have HOA := Lib.hid ((own_same (W' := (wr.setCell ⟨w.heap.size + 1 + 1 + 1 + 1, 0, none⟩ (.slice (some ⟨tg, 0, none⟩) tn ct)).setCell ⟨w.heap.size + 1, q, none⟩ (.bool true)) hOx (fun p hp => by
          have h := hOx.lt p hp
          rw [RowKit.Below.heap_setCell _ _ _ _ (show p ≠ w.heap.size + 1 by omega), RowKit.Below.heap_setCell _ _ _ _ (show p ≠ w.heap.size + 1 + 1 + 1 + 1 by omega)])).alloc (.cells #[.int .i64 (q : Int)] 3))
        have hnq := new_cells ((wr.setCell ⟨w.heap.size + 1 + 1 + 1 + 1, 0, none⟩ (.slice (some ⟨tg, 0, none⟩) tn ct)).setCell ⟨w.heap.size + 1, q, none⟩ (.bool true)) [.int .i64 (q : Int)] 3
        simp only [World.size_setCell] at hnq
        have HNA := Lib.hid hnq
        have H1A : Hid (∀ u ∈ ([.int .i64 (q : Int)] : List Value), u.oneCell' = true) := Lib.hid fun u hu => by rw [List.mem_singleton.1 hu]; rfl
        have hxq := HA.out.2.1
        clear hOx hnq
        gi_wp2_with (first
          | (gi_at_builtin; (refine wpListIn_append_own_at _ rfl (.tmp 37) (.tmp 39) _ rfl (w.heap.size + 5) 3 i0 _ 1 8 Tryd.underlying32 hi hz0 hz1 hz2 rfl (by decide) (.slice xo order.length co) order.length (nums order) rfl HOA.out ⟨wr.heap.size, 0, none⟩ 1 1 [.int .i64 (q : Int)] rfl rfl HNA.out H1A.out (by unfold maxLen; omega) (by omega) (by simp; omega) ?_); (intro v5 w5 hown5 hg5 _ hat5); (have hs5 := hg5.size); (simp only [World.size_alloc, World.size_setCell] at hs5);
             (have hk5 : ∀ k, k < w.heap.size + 5 → k ≠ w.heap.size + 1 → k ≠ w.heap.size + 4 → w5.heap[k]? = wr.heap[k]? := fun k h1 h2 h3 => by
               rw [hg5.block k (by simp; omega) (fun h => by have := HOA.out.lt k h.symm; omega), heap_old (by simp; omega), RowKit.Below.heap_setCell _ _ _ _ (show k ≠ w.heap.size + 1 by omega), RowKit.Below.heap_setCell _ _ _ _ (show k ≠ w.heap.size + 1 + 1 + 1 + 1 by omega)]);
             (have hw5 : ∀ k, k < w.heap.size → w5.heap[k]? = w.heap[k]? := fun k h1 => (hk5 k (by omega) (by omega) (by omega)).trans (HI.out.2.2.2.2.2.2.2.2.2.2.2.block k h1));
             (have b0 : w5.cell? ⟨w.heap.size, 0, none⟩ = some (.slice (some ⟨gg, og, none⟩) n cg) := by rw [Lib.cell_of_heap ((hk5 _ (by omega) (by omega) (by omega)).trans HI.out.2.2.2.2.1)]; rfl);
             (have b1 : w5.cell? ⟨gg, og + q * 5 + 2, none⟩ = some (.slice xa na ca) := by rw [← HA.out.2.2.1]; exact World.cell?_of_block (hw5 gg (hS gg hSg)));
             (have hgg : gg < w5.heap.size := by have := hS gg hSg; omega);
             (have H5 := Lib.hid (And.intro hown5 (And.intro hg5 (And.intro hat5 (And.intro hk5 hw5))))); clear hown5 hg5 hat5 hk5 hw5)
          | (gi_at_call 53; refine (callsIn_wide.2 (back_make xa na ca _)).mono ?_; rintro e6 Wz ⟨rfl, hWz⟩))
        obtain ⟨W6, hW6⟩ : ∃ W6, w5.alloc (.cells #[.slice xa na ca] 32) = W6 := ⟨_, rfl⟩
        rw [hW6]
        clear hWz
        have hs6 : W6.heap.size = w5.heap.size + 1 := by rw [← hW6]; simp
        have h6 : ∀ k, k < w5.heap.size → W6.heap[k]? = w5.heap[k]? := fun k hk => by rw [← hW6]; exact heap_old hk
        have hBn : W6.heap[w5.heap.size]? = some (.cells #[.slice xa na ca] 32) := by rw [← hW6]; exact heap_last rfl
        obtain ⟨hkf, hrun, hway, hmarks, hg0, hseen, hb2, hb4, hT, hO, hdist, hB⟩ := HI.out
        obtain ⟨hown5, hg5, hat5, hk5, hw5⟩ := H5.out
        obtain ⟨hpop, htn, -⟩ := HP.out
        have F1 := (h6 _ (by omega)).trans ((hk5 _ (by omega) (by omega) (by omega)).trans hg0)
        have hn1 : (Value.slice xo order.length co).ownBlock ≠ some (w.heap.size + 1) := fun h => by have := (hO.lt _ h).1; omega
        have hn4 : (Value.slice xo order.length co).ownBlock ≠ some (w.heap.size + 4) := fun h => by have := (hO.lt _ h).1; omega
        have F2 : W6.rowIs (w.heap.size + 1) 4 n (fun i => .bool ((order ++ [q]).contains i)) := by
          have h := ((hseen.setOther (a := ⟨w.heap.size + 1 + 1 + 1 + 1, 0, none⟩) (by simp only; omega) (.slice (some ⟨tg, 0, none⟩) tn ct)).set q (.bool true))
          refine (h.of_block (w' := W6) ?_).congr fun i _ => ?_
          · rw [h6 _ (by omega), hg5.block _ (by simp; omega) (fun h => hn1 h.symm), heap_old (by simp; omega)]
          · by_cases e : i = q
            · rw [if_pos e, e]; simp
            · rw [if_neg e]; simp [e]
        have F3 := (h6 _ (by omega)).trans ((hk5 _ (by omega) (by omega) (by omega)).trans hb2)
        have F4 : W6.heap[w.heap.size + 1 + 1 + 1 + 1]? = some (.cells #[.slice (some ⟨tg, 0, none⟩) tn ct] 32) := by
          have h := heap_setCell_same _ _ 0 _ _ (.slice (some ⟨tg, 0, none⟩) tn ct) hb4
          simp only [List.setIfInBounds_toArray, List.set_cons_zero] at h
          rw [h6 _ (by omega), hg5.block _ (by simp; omega) (fun h => hn4 h.symm), heap_old (by simp; omega), RowKit.Below.heap_setCell _ _ _ _ (show w.heap.size + 1 + 1 + 1 + 1 ≠ w.heap.size + 1 by omega)]
          exact h
        have hk6 : ∀ k, k < wr.heap.size → k ≠ w.heap.size + 1 → k ≠ w.heap.size + 4 → (Value.slice xo order.length co).ownBlock ≠ some k → W6.heap[k]? = wr.heap[k]? := fun k h1 h2 h3 h4 => by
          rw [h6 _ (by omega), hg5.block _ (by simp; omega) (fun h => h4 h.symm), heap_old (by simp; omega), RowKit.Below.heap_setCell _ _ _ _ (show k ≠ w.heap.size + 1 from h2), RowKit.Below.heap_setCell _ _ _ _ (show k ≠ w.heap.size + 1 + 1 + 1 + 1 from h3)]
        have hot := (hdist tg (by simp [Value.ownBlock])).2
        have F5 : W6.ownsRow (w.heap.size + 3) 3 1 (.slice (some ⟨tg, 0, none⟩) tn ct) tn (nums t) := own_same hpop fun p hp => by
          simp only [Value.ownBlock, Option.some.injEq] at hp
          subst hp
          exact hk6 _ ztg hne1 htg4 hot
        have F6 : W6.ownsRow (w.heap.size + 5) 3 1 v5 (order ++ [q]).length (nums (order ++ [q])) := by
          rw [nums_append, List.length_append]
          exact own_same hown5 fun p hp => h6 p (hown5.lt p hp).2
        have F7 : v5.ownBlock ≠ some tg := fun h => by
          rcases hat5 with h2 | h2
          · exact hot (h2.symm.trans h)
          · rw [h2] at h
            simp only [World.size_alloc, World.size_setCell, Option.some.injEq] at h
            omega
        have F7b : ∀ p, v5.ownBlock = some p → p < w5.heap.size := fun p hp => (hown5.lt p hp).2
        have F8 : Marks (w.heap.size + 5) ds W6 := hmarks.of fun D hD hd => hk6 D (Array.getElem?_eq_some_iff.1 hd).1 (by omega) (by omega) fun h => by
          rcases hO.2 with ⟨h0, _⟩ | ⟨g, cap, cur, h1, h2, h3, _⟩
          · rw [h0] at h; simp [Value.ownBlock] at h
          · rw [h1] at h
            simp only [Value.ownBlock, Option.some.injEq] at h
            subst h
            rw [h3] at hd; cases hd
        have F9 : Below w.heap.size w W6 := by
          rw [← hW6]
          exact (((((hB.setCell (p := ⟨w.heap.size + 1 + 1 + 1 + 1, 0, none⟩) (by simp only; omega) (.slice (some ⟨tg, 0, none⟩) tn ct)).setCell (p := ⟨w.heap.size + 1, q, none⟩) (by simp only; omega) (.bool true)).alloc (by simp; omega) (.cells #[.int .i64 (q : Int)] 3)).grown hg5 (by simp; omega) (fun k hk => by have := (hO.lt k hk).1; omega)).alloc (by omega) _)
        have F10 : ∀ D, W6.heap[tg]? = some (.deferred D) → False := fun D hd => by
          rcases F5.2 with ⟨h0, _⟩ | ⟨g, cap, cur, h1, h2, h3, _⟩
          · cases h0
          · cases h1
            rw [h3] at hd; cases hd
        have FF := Lib.hid (And.intro F1 (And.intro F2 (And.intro F3 (And.intro F4 (And.intro F5 (And.intro F6 (And.intro F7 (And.intro F7b (And.intro F8 (And.intro F9 F10))))))))))
        have HIK := Lib.hid (And.intro hkf (And.intro hrun (And.intro hway htn)))
        have hdp2 : (Fence.wide.inRound (W6.heap.size + 1)).depth.isSome = false := rfl
        have hnl : (argsOf G q).length = na := by rw [argsOf_eq hqG, List.length_map]; exact HA.out.2.2.2.1
        have hal : ∀ c ∈ argsOf G q, c < n := fun c hc => en ▸ args_lt HGI.out.2.2.2.2.1 hqG c hc
        clear hW6 h6 hkf hrun hway hmarks hg0 hseen hb2 hb4 hT hO hdist hB hown5 hg5 hat5 hk5 hw5 hpop htn F1 F2 F3 F4 F5 F6 F7 F7b F8 F9 F10 hn1 hn4 hk6 hot
        refine range_law_c (gf := 59) (lb := #[.pointer (some ⟨w5.heap.size, 0, none⟩)]) rfl (enters_of Tryd.func59 (by kernel_rfl) rfl) (encs := encB) (fun _ => rfl) (S := fun xs => xs = backs (fun i => (argsOf G q).getD i 0) na) (Sp := fun pre => pre <+: backs (fun i => (argsOf G q).getD i 0) na) (R := fun pre x => pre ++ [x] <+: backs (fun i => (argsOf G q).getD i 0) na)
          (M := fun k => k = w.heap.size + 4 ∨ k = tg ∨ W6.heap.size + 2 ≤ k) (fun k hk => by omega) ?iter
          (fun pre B => ∃ vt, B.heap[w.heap.size + 1 + 1 + 1 + 1]? = some (.cells #[vt] 32) ∧ B.ownsRow (w.heap.size + 3) 3 1 vt (tdL order t q pre).length (nums (tdL order t q pre)) ∧ (∀ p, vt.ownBlock = some p → p = tg ∨ W6.heap.size + 2 ≤ p) ∧ Free (fun k => k = w.heap.size + 4 ∨ k = tg) W6 B)
          (fun _ _ => False) ?hI (fun _ _ _ h _ => h.elim) ?start (fun x => { tmps := #[.agg #[.slice (some ⟨gg, og, none⟩) n cg, .int .i64 (r : Int)], .pointer (some ⟨w.heap.size, 0, none⟩), .slice none 0 0, v5, .pointer (some ⟨w.heap.size + 1 + 1, 0, none⟩), .pointer (some ⟨w.heap.size + 1 + 1 + 1 + 1, 0, none⟩), .int .i64 (q : Int), u7, .int .i64 (x.2 : Int), u9, u10, u11, u12, u13, u14, u15, .slice (some ⟨tg, 0, none⟩) (tn + 1) ct, .int .i64 ((tn : Int) + 1), .bool true, .slice (some ⟨tg, 0, none⟩) (tn + 1) ct, .slice (some ⟨tg, 0, none⟩) (tn + 1) ct, .int .i64 ((tn : Int) + 1), .int .i64 (tn : Int), .pointer (some ⟨tg, tn, none⟩), .int .i64 (q : Int), .slice (some ⟨tg, 0, none⟩) (tn + 1) ct, .slice (some ⟨tg, 0, none⟩) (tn + 1) ct, .int .i64 ((tn : Int) + 1), .int .i64 (tn : Int), .slice (some ⟨tg, 0, none⟩) tn ct, .slice (some ⟨w.heap.size + 1, 0, none⟩) n n, .int .i64 (q : Int), .pointer (some ⟨w.heap.size + 1, q, none⟩), .bool false, .slice (some ⟨w.heap.size + 1, 0, none⟩) n n, .int .i64 (q : Int), .pointer (some ⟨w.heap.size + 1, q, none⟩), .slice xo order.length co, .int .i64 (q : Int), .slice (some ⟨wr.heap.size, 0, none⟩) 1 1, v5, .pointer (some ⟨w.heap.size, 0, none⟩), .slice (some ⟨gg, og, none⟩) n cg, .int .i64 (q : Int), .pointer (some ⟨gg, og + q * 5, none⟩), .pointer (some ⟨gg, og + q * 5 + 2, none⟩), .slice xa na ca, .func (.func 59) #[] #[.pointer (some ⟨w5.heap.size, 0, none⟩)], .int .i64 (x.1 : Int), .int .i64 (x.2 : Int), u50, u51, u52, u53, u54, u55, u56, u57, u58, u59], defers := [] }) ?assign ?body ?done (fun _ _ _ h _ => h.elim)
        case iter =>
          intro A hA hBA
          refine back_iter _ _ w5.heap.size ag ao ca na xa (fun i => (argsOf G q).getD i 0) _ A ?_ (fun h0 => ?_) ⟨by omega, by omega⟩ (fun i hi => ?_) (by omega) _ (fun pre x h => h)
          · rw [Lib.cell_of_heap ((hBA.block _ (by omega)).trans hBn)]; rfl
          · obtain ⟨h1, h2, h3, h4⟩ := HA.out.2.1 h0
            have := hS ag h4
            exact ⟨h1, h2, h3, by omega, by omega⟩
          · obtain ⟨h1, h2, h3, h4⟩ := HA.out.2.1 (by omega)
            have hag := hS ag h4
            rw [← HA.out.1 i hi]
            exact World.cell?_of_block ((hBA.block ag (by omega)).trans (FF.out.2.2.2.2.2.2.2.2.2.1.block ag hag))
        case hI =>
          rintro pre B B' ⟨vt, h1, h2, h3, h4⟩ hF
          have s4 := h4.size
          refine ⟨vt, (hF.block _ (Array.getElem?_eq_some_iff.1 h1).1 (by omega)).trans h1, own_same h2 fun p hp => hF.block p (h2.lt p hp).2 (by have := h3 p hp; omega), h3, ⟨hF.os.trans h4.os, hF.tape.trans h4.tape, hF.output.trans h4.output, Nat.le_trans h4.size hF.size, fun k hk hn => (hF.block k (by omega) (by omega)).trans (h4.block k hk hn)⟩⟩
        case start =>
          refine ⟨_, FF.out.2.2.2.1, ?_, fun p hp => .inl (by simpa [Value.ownBlock] using hp.symm), Free.refl _ _⟩
          rw [tdL_nil, HIK.out.2.2.2]
          exact FF.out.2.2.2.2.1
        case assign =>
          intro x B K' hK'
          unfold encB
          gi_wp2
          exact hK'
        case body =>
          rintro pre x B ⟨vt, h4, hT, hd, hF⟩ hR hBs
          have s4 := hF.size
          have hx2 : x.2 < n := by
            have hm : x ∈ backs (fun i => (argsOf G q).getD i 0) na := hR.subset (by simp)
            unfold backs at hm
            obtain ⟨i, hi, rfl⟩ := List.mem_map.1 hm
            have hi' : i < (argsOf G q).length := by rw [hnl]; simpa using hi
            simp only [List.getD_eq_getElem?_getD, List.getElem?_eq_getElem hi', Option.getD_some]
            exact hal _ (List.getElem_mem hi')
          have hx2' : (x.2 : Int) < (n : Int) := by omega
          have hpl : pre.length ≤ na := by
            have := hR.length_le
            rw [backs_length] at this
            simp at this; omega
          have htl := tdL_len order t q pre
          rw [HIK.out.2.2.2] at htl
          have htb : tn ≤ 5000000 := by
            have h1 := HIK.out.1
            unfold Gu.left at h1
            rw [HP.out.2.2] at h1
            omega
          obtain ⟨m, hm⟩ : ∃ m, (tdL order t q pre).length = m := ⟨_, rfl⟩
          rw [hm] at hT htl
          obtain ⟨xt, ct', rfl⟩ := own_shape hT
          have hse := FF.out.2.1.of_block (hF.block (w.heap.size + 1) (by omega) (by omega))
          have c1 := hse.cell hx2
          have b2 : B.cell? ⟨w.heap.size + 1 + 1, 0, none⟩ = some (.slice (some ⟨w.heap.size + 1, 0, none⟩) n n) := by rw [Lib.cell_of_heap ((hF.block (w.heap.size + 1 + 1) (by omega) (by omega)).trans FF.out.2.2.1)]; rfl
          have b4 : B.cell? ⟨w.heap.size + 1 + 1 + 1 + 1, 0, none⟩ = some (.slice xt m ct') := by rw [Lib.cell_of_heap h4]; rfl
          have f4 := Lib.frozen_of_heap h4 0
          have zB1 : w.heap.size + 1 < B.heap.size := by omega
          have zB2 : w.heap.size + 1 + 1 < B.heap.size := by omega
          have zB4 : w.heap.size + 1 + 1 + 1 + 1 < B.heap.size := by omega
          obtain ⟨bx, hbx⟩ : ∃ b, (order ++ [q]).contains x.2 = b := ⟨_, rfl⟩
          simp only [hbx] at c1
          have HB := Lib.hid (And.intro h4 (And.intro hT (And.intro hd (And.intro hF (And.intro hbx hm)))))
          clear h4 hT hd hF hbx hm hR hse
          have HS6 := Lib.hid hs6
          clear hs6
          cases bx with
          | true =>
            gi_wp2
            obtain ⟨h4, hT, hd, hF, hbx, hm⟩ := HB.out
            refine ⟨Free.refl _ _, _, h4, ?_, hd, hF⟩
            rw [tdL_yes hbx, hm]
            exact hT
          | false =>
            have HTA := Lib.hid (HB.out.2.1.alloc (.cells #[.int .i64 (x.2 : Int)] 3))
            have HNB := Lib.hid (new_cells B [.int .i64 (x.2 : Int)] 3)
            have H1B : Hid (∀ u ∈ ([.int .i64 (x.2 : Int)] : List Value), u.oneCell' = true) := Lib.hid fun u hu => by rw [List.mem_singleton.1 hu]; rfl
            have hn4 : (Value.slice xt m ct').ownBlock ≠ some (w.heap.size + 1 + 1 + 1 + 1) := fun h => by
              have h1 := HB.out.2.2.1 _ h
              have h2 := HS6.out
              omega
            have HN4 := Lib.hid hn4
            clear hn4
            gi_wp2_with (gi_at_builtin; (refine wpListIn_append_own_at _ rfl (.tmp 55) (.tmp 57) _ rfl (w.heap.size + 3) 3 i0 _ 1 8 Tryd.underlying32 hi hz0 hz1 hz2 rfl (by decide) (.slice xt m ct') m (nums (tdL order t q pre)) rfl HTA.out ⟨B.heap.size, 0, none⟩ 1 1 [.int .i64 (x.2 : Int)] rfl rfl HNB.out H1B.out (by unfold maxLen; omega) (by omega) (by simp; omega) ?_); (intro v7 w7 hown7 hg7 _ hat7); (obtain ⟨y7, d7, rfl⟩ := own_shape hown7); (have hs7 := hg7.size); (simp only [World.size_alloc] at hs7); (have h47 := (hg7.block (w.heap.size + 1 + 1 + 1 + 1) (by simp; omega) (fun h => HN4.out h.symm)).trans ((heap_old zB4).trans HB.out.1)); (have f47 := Lib.frozen_of_heap h47 0); (have z47 : w.heap.size + 1 + 1 + 1 + 1 < w7.heap.size := by omega); (have c47 : w7.cell? ⟨w.heap.size + 1 + 1 + 1 + 1, 0, none⟩ = some (.slice xt m ct') := by rw [Lib.cell_of_heap h47]; rfl); (have H7 := Lib.hid (And.intro hown7 (And.intro hg7 (And.intro hat7 h47)))); clear hown7 hg7 hat7 h47)
            obtain ⟨h4, hT, hd, hF, hbx, hm⟩ := HB.out
            obtain ⟨hown7, hg7, hat7, h47⟩ := H7.out
            have hs6 := HS6.out
            have h47' := heap_setCell_same _ _ 0 _ _ (.slice y7 (m + 1) d7) h47
            simp only [List.setIfInBounds_toArray, List.set_cons_zero] at h47'
            have hd7 : ∀ p, (Value.slice y7 (m + 1) d7).ownBlock = some p → p = tg ∨ W6.heap.size + 2 ≤ p := fun p hp => by
              rcases hat7 with h | h
              · exact hd p (h.symm.trans hp)
              · rw [h] at hp
                simp only [World.size_alloc, Option.some.injEq] at hp
                omega
            have hBw : ∀ k, k < B.heap.size → k ≠ w.heap.size + 4 → (Value.slice xt m ct').ownBlock ≠ some k → (w7.setCell ⟨w.heap.size + 1 + 1 + 1 + 1, 0, none⟩ (.slice y7 (m + 1) d7)).heap[k]? = B.heap[k]? := fun k h1 h2 h3 => by
              rw [RowKit.Below.heap_setCell _ _ _ _ (show k ≠ w.heap.size + 1 + 1 + 1 + 1 from h2), hg7.block k (by simp; omega) (fun h => h3 h.symm)]
              exact heap_old h1
            have hz0 := (((Below.refl 0 B).alloc (Nat.zero_le _) (.cells #[.int .i64 (x.2 : Int)] 3)).grown hg7 (Nat.zero_le _) (fun _ _ => Nat.zero_le _)).setCell (p := ⟨w.heap.size + 1 + 1 + 1 + 1, 0, none⟩) (Nat.zero_le _) (.slice y7 (m + 1) d7)
            refine ⟨⟨hz0.os, hz0.tape, hz0.output, hz0.size, fun k hk hn => hBw k hk (by omega) (fun h => by have := hd k h; omega)⟩, .slice y7 (m + 1) d7, h47', ?_, hd7, ⟨hz0.os.trans hF.os, hz0.tape.trans hF.tape, hz0.output.trans hF.output, Nat.le_trans hF.size hz0.size, fun k hk hn => (hBw k (by omega) (by omega) (fun h => by have := hd k h; omega)).trans (hF.block k hk hn)⟩⟩
            · rw [tdL_no hbx, List.length_append, hm, nums_append]
              exact own_same hown7 fun p hp => by
                have := hd7 p hp
                rw [RowKit.Below.heap_setCell _ _ _ _ (show p ≠ w.heap.size + 1 + 1 + 1 + 1 by omega)]
        case done =>
          rintro xs B rfl ⟨vt, h4, hT, hd, hF⟩ hD
          have s4 := hF.size
          have hl := hnl ▸ tdL_all order t q (argsOf G q)
          rw [hl] at hT
          obtain ⟨hkf, hrun, hway, htn⟩ := HIK.out
          obtain ⟨F1, F2, F3, F4, F5, F6, F7, F7b, F8, F9, F10⟩ := FF.out
          have hnq : q ∉ order := by have := HBQ.out; simpa using this
          have hst := Gu.left_step hway hnq (show (argsOf G q).length ≤ 2000 by omega)
          obtain ⟨kf', rfl⟩ : ∃ k', kf = k' + 1 := ⟨kf - 1, by have := hkf.1; omega⟩
          have hot : ∀ k, k < W6.heap.size → k ≠ w.heap.size + 4 → k ≠ tg → B.heap[k]? = W6.heap[k]? := fun k h1 h2 h3 => hF.block k h1 (by omega)
          refine HK.out _ _ ⟨_, hst, order ++ [q], t ++ Gu.fresh (order ++ [q]) (argsOf G q), v5, vt, { target := .collected W6.heap.size, args := #[] } :: ds, kf', _, _, _, _, _, _, _, _, _, _, _, _, _, _, _, _, _, _, _, _, _, _, _, _, _, _, _, _, _, _, _, _, _, _, _, _, _, _, _, _, _, _, _, _, _, _, _, _, _, _, _, _, _, _, rfl, rfl, ⟨by have := hkf.1; omega, by have := hkf.2; omega⟩, by rw [← hrun, runR_step HBQ.out], hway.step hnq hal, ?_, (hot _ (by omega) (by omega) (by omega)).trans F1, F2.of_block (hot _ (by omega) (by omega) (by omega)), (hot _ (by omega) (by omega) (by omega)).trans F3, h4, hT, ?_, ?_, ?_⟩
          · refine Marks.push F8 (fun D h1 h2 => hot D (Array.getElem?_eq_some_iff.1 h2).1 (by omega) (fun e => F10 _ (e ▸ h2))) (by omega) (Nat.le_refl _) hD
          · exact own_same F6 fun p hp => hot p (by have := F7b p hp; omega) (by have := (F6.lt p hp).1; omega) (fun e => F7 (e ▸ hp))
          · refine fun p hp => ⟨?_, fun h => ?_⟩
            · have := hd p hp; omega
            · have h7 := F7b p h
              rcases hd p hp with h | h
              · subst h; exact F7 ‹_›
              · omega
          · exact F9.trans (free_below hF (by omega) (fun k hk => by omega))
end Go.Proofs.YtkbmkmpoapafaaaDoor
