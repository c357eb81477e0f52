/- graph.Free told. -/
import Derived.Test.YtkbmkmpoapafaaaDoorRg
namespace Go.Proofs.YtkbmkmpoapafaaaDoor
open Go.ChangeShapes Go.WideShapes Go.ChangeAt Go.RowKit

/-- Is that node free? -/
def freeAt (G : List GN) (n : Nat) : Bool := (G[n]?.map (·.freeB)).getD false
noncomputable def freeG (G : List GN) (r : Int) : List Nat := (reachG G r).filter (freeAt G)
theorem reachL_lt {G : List GN} {r : Nat} (hok : checkG G (r : Int) = 0) : (reachL G r).Nodup ∧ ∀ x ∈ reachL G r, x < G.length := by
  have hin := inside_iff.1 (checkG_ok.1 hok).2.1
  have key : ∀ (k : Nat) (order todo : List Nat), Gu.Way (argsOf G) G.length r order todo → (Gu.runR (argsOf G) k order todo).Nodup ∧ ∀ x ∈ Gu.runR (argsOf G) k order todo, x < G.length := by
    intro k
    induction k with
    | zero => exact fun order todo h => ⟨h.nd, fun x hx => h.lt x (.inl hx)⟩
    | succ k ih =>
      intro order todo h
      rcases List.eq_nil_or_concat todo with rfl | ⟨t, q, hq⟩
      · exact ⟨h.nd, fun x hx => h.lt x (.inl hx)⟩
      · rw [List.concat_eq_append] at hq
        subst hq
        obtain ⟨b, hb⟩ : ∃ b, order.contains q = b := ⟨_, rfl⟩
        cases b with
        | true =>
          rw [runR_skip hb]
          exact ih _ _ (h.skip (by simpa using hb))
        | false =>
          rw [runR_step hb]
          have hqn : q < G.length := h.lt q (.inr (by simp))
          exact ih _ _ (h.step (by simpa using hb) (args_lt hok hqn))
  exact key _ _ _ (Gu.way_start (by omega))
theorem reachG_lt {G : List GN} {r : Int} : (reachG G r).Nodup ∧ ∀ x ∈ reachG G r, x < G.length := by
  unfold reachG
  split
  · rename_i h
    have hin := inside_iff.1 (checkG_ok.1 h).2.1
    obtain ⟨rn, rfl⟩ : ∃ rn : Nat, r = (rn : Int) := ⟨r.toNat, by omega⟩
    exact reachL_lt h
  · exact ⟨List.nodup_nil, fun x hx => by cases hx⟩

set_option maxHeartbeats 1000000 in
set_option maxRecDepth 100000 in
theorem free_any (S : Nat → Prop) (vg : Value) (r : Int) (G : List GN) (w : World) (T : TypeId) (ev : Value) (hg : w.cell? ⟨0, 0, none⟩ = some (.iface T ev)) (hgl : 0 < w.heap.size) (hG : GrAt w S vg G) (hS : ∀ b, S b → b < w.heap.size) (sG : Sized G) (lG : G.length ≤ 2000) (aG : ∀ x ∈ G, x.args.length ≤ 2000) :
    Calls Tryd.prog 12 #[.agg #[vg, .int .i64 r]] w fun e w' => ∃ v, e = .returned v ∧ w'.ownsRow w.heap.size 3 1 v (freeG G r).length (nums (freeG G r)) ∧ Below w.heap.size w w' := by
  obtain ⟨xg, cg, gg, og, rfl, hxg, hng⟩ := hG.open_
  obtain ⟨n, en⟩ : ∃ n, G.length = n := ⟨_, rfl⟩
  have HN := Lib.hid (And.intro hxg (And.intro hng en))
  clear hxg hng
  rw [en] at hG ⊢
  have B0 : Below w.heap.size w (w.alloc (.cells #[.slice xg n cg, .int .i64 r] 24)) := (Below.refl _ _).alloc (Nat.le_refl _) _
  have hXG : ∀ V, Below w.heap.size w V → GrAt V S (.slice xg n cg) G ∧ (∀ b, S b → b < V.heap.size) ∧ V.cell? ⟨0, 0, none⟩ = some (.iface T ev) ∧ 0 < V.heap.size := fun V hV =>
    ⟨hG.carry (keeps_of hV hS) fun _ h => h, fun b hb => Nat.lt_of_lt_of_le (hS b hb) hV.size, (hV.cell (p := ⟨_, 0, none⟩) hgl).trans hg, Nat.lt_of_lt_of_le hgl hV.size⟩
  have h1 := hXG _ B0
  have C1 := Lib.hid (reach_any S (.slice xg n cg) r G _ T ev h1.2.2.1 h1.2.2.2 h1.1 h1.2.1 sG (by omega) aG)
  have H := Lib.hid (And.intro hXG (And.intro hS B0))
  have hb1 : Hid ((w.alloc (.cells #[.slice xg n cg, .int .i64 r] 24)).heap[w.heap.size]? = some (.cells #[.slice xg n cg, .int .i64 r] 24)) := Lib.hid (heap_last rfl)
  clear hg hgl hG hS sG aG hXG h1 B0
  have HLT : Hid (∀ x ∈ reachG G r, x < G.length) := Lib.hid reachG_lt.2
  have hLL : (reachG G r).length ≤ 2000 := by
    have := Gu.nodup_le reachG_lt.1 (reachG_lt (G := G) (r := r)).2
    omega
  unfold freeG
  obtain ⟨L, hL⟩ : ∃ L, reachG G r = L := ⟨_, rfl⟩
  rw [hL] at C1 HLT hLL ⊢
  clear hL
  go_enter Tryd.func12, Tryd.ntmps12
  go_wp2_with fail
  refine C1.out.mono ?_
  rintro e1 W1 ⟨v1, rfl, ho1, hB1⟩
  have hs1 := hB1.size
  simp only [World.size_alloc] at hs1
  have hb2 := (hB1.block w.heap.size (by simp)).trans hb1.out
  have c0 := Lib.cell_of_heap hb2 0
  simp only [List.getElem?_toArray, List.getElem?_cons_zero] at c0
  have hB2 := H.out.2.2.trans (hB1.mono (by simp))
  obtain ⟨x1, d1, rfl⟩ := own_shape ho1
  have H1 := Lib.hid (And.intro hB2 (And.intro hb2 ho1))
  clear hB1 hB2 hb2 ho1
  obtain ⟨i0, hi, hz0, hz1, hz2⟩ := info_parts intInfo
  obtain ⟨N, hN⟩ : ∃ N, L.length = N := ⟨_, rfl⟩
  rw [hN] at H1 hLL ⊢
  have HLN := Lib.hid hN
  clear hN
  go_wp2_with fail
  go_loopg [3, 9] N (fun gk v i wr => ∃ j : Nat, ∃ f : List Nat, gk = N - j ∧ i = .int .i64 (j : Int) ∧ j ≤ N ∧ f = (L.take j).filter (freeAt G) ∧ f.length ≤ j ∧ wr.ownsRow W1.heap.size 3 1 v f.length (nums f) ∧ Below W1.heap.size W1 wr)
  case atStart => exact ⟨0, [], by simp, by first | rfl | simp, Nat.zero_le _, by simp, Nat.le_refl _, World.ownsRow_nil _ _ _ _, Below.refl _ _⟩
  case round =>
    obtain ⟨j, f, rfl, rfl, hj, hf, hfl, hof, hB⟩ := hrel
    have sr := hB.size
    obtain ⟨xf, cf, rfl⟩ := own_shape hof
    by_cases hlt : j < N
    · have hi' : (j : Int) < (N : Int) := by omega
      obtain ⟨g1, rfl⟩ : ∃ g, x1 = some ⟨g, 0, none⟩ := by
        rcases H1.out.2.2.2 with ⟨_, h0⟩ | ⟨g, cap, cur, hv, _⟩
        · omega
        · cases hv; exact ⟨g, rfl⟩
      have hg1 := H1.out.2.2.lt g1 (by simp [Value.ownBlock])
      obtain ⟨q, hq⟩ : ∃ q, L[j]? = some q := ⟨_, List.getElem?_eq_getElem (by have := HLN.out; omega)⟩
      have hqG : q < G.length := HLT.out q (List.mem_of_getElem? hq)
      have e1 : wr.cell? ⟨g1, j, none⟩ = some (.int .i64 (q : Int)) := by
        refine (World.cell?_of_block (hB.block g1 hg1.2)).trans ?_
        rw [H1.out.2.2.cellAt _ (by omega)]
        unfold nums
        rw [List.getElem?_map, hq]; rfl
      obtain ⟨rfl, hgc, hgx, hSg⟩ := HN.out.1 (by omega)
      obtain ⟨va, vl, hgn⟩ := HN.out.2.1 q hqG
      have hBw := H1.out.1.trans (hB.mono (by omega))
      have CF := Lib.hid (isFree_any S gg (og + q * 5) va vl G[q] wr (hgn.carry (keeps_of hBw H.out.2.1) fun _ h => h))
      have b0 : wr.cell? ⟨w.heap.size, 0, none⟩ = some (.slice (some ⟨gg, og, none⟩) n cg) := (World.cell?_of_block (hB.block w.heap.size (by omega))).trans c0
      have hqn : (q : Int) < (n : Int) := by omega
      have hgw : gg < wr.heap.size := by have := H.out.2.1 gg hSg; omega
      have hg1w : g1 < wr.heap.size := by omega
      have hww : w.heap.size < wr.heap.size := by omega
      rw [en] at hgc
      unfold maxLen at hgx
      have hfa : freeAt G q = (G[q]).freeB := by unfold freeAt; rw [List.getElem?_eq_getElem hqG]; rfl
      obtain ⟨fb, hfb⟩ : ∃ fb, (G[q]).freeB = fb := ⟨_, rfl⟩
      rw [hfb] at CF hfa
      have htk : L.take (j + 1) = L.take j ++ [q] := by rw [List.take_add_one, hq]; rfl
      have HF := Lib.hid (And.intro hf (And.intro hof (And.intro hB (And.intro hfa htk))))
      have HOA := Lib.hid (hof.alloc (.cells #[.int .i64 (q : Int)] 3))
      have HNA := Lib.hid (new_cells wr [.int .i64 (q : Int)] 3)
      have H1A : Hid (∀ u ∈ ([.int .i64 (q : Int)] : List Value), u.oneCell' = true) := Lib.hid fun u hu => by rw [List.mem_singleton.1 hu]; rfl
      clear hf hof hB hfa htk hq hgn hBw hfb
      go_wp2_with fail
      refine CF.out.mono ?_
      rintro e2 W2 ⟨rfl, rfl⟩
      cases fb with
      | true =>
        go_wp2_with (at_builtin; (refine wpList_append_own_at _ rfl (.tmp 18) (.tmp 20) _ rfl W1.heap.size 3 i0 _ 1 8 Tryd.underlying32 hi hz0 hz1 hz2 rfl (by decide) (.slice xf f.length cf) f.length (nums f) rfl HOA.out ⟨wr.heap.size, 0, none⟩ 1 1 [.int .i64 (q : Int)] rfl rfl HNA.out H1A.out (by unfold maxLen; omega) (by omega) (by simp; omega) ?_); (intro v5 w5 hown5 hg5 _ _); (obtain ⟨y5, d5, rfl⟩ := own_shape hown5); (have H5 := Lib.hid (And.intro hown5 hg5)); clear hown5 hg5)
        go_roundg (N - (j + 1))
        case measure => omega
        case rel =>
          obtain ⟨hf, hof, hB, hfa, htk⟩ := HF.out
          refine ⟨j + 1, f ++ [q], rfl, by first | rfl | simp, hlt, ?_, by simp; omega, ?_, ?_⟩
          · rw [htk, List.filter_append, ← hf, List.filter_cons, hfa]; rfl
          · rw [nums_append, List.length_append]
            exact H5.out.1
          · exact (hB.alloc (by omega) _).grown H5.out.2 (by simp; omega) (fun k hk => (hof.lt k hk).1)
      | false =>
        go_wp2_with fail
        go_roundg (N - (j + 1))
        case measure => omega
        case rel =>
          obtain ⟨hf, hof, hB, hfa, htk⟩ := HF.out
          refine ⟨j + 1, f, rfl, by first | rfl | simp, hlt, ?_, by omega, hof, hB⟩
          rw [htk, List.filter_append, ← hf, List.filter_cons, hfa]; simp
    · have hi' : ¬ (j : Int) < (N : Int) := by omega
      obtain rfl : j = N := by omega
      have HF := Lib.hid (And.intro hf (And.intro hof hB))
      clear hf hof hB
      go_wp2_with fail
      go_ret
      obtain ⟨hf, hof, hB⟩ := HF.out
      have hall : L.take j = L := List.take_of_length_le (by have := HLN.out; omega)
      rw [hall] at hf
      rw [← hf]
      exact ⟨_, rfl, own_base hof (by omega), H1.out.1.trans (hB.mono (by omega))⟩
end Go.Proofs.YtkbmkmpoapafaaaDoor
