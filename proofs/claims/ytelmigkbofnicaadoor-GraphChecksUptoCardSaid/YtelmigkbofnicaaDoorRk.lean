/- trefoilref06.Check. -/
import Derived.Test.YtelmigkbofnicaaDoorRm
namespace Go.Proofs.YtelmigkbofnicaaDoor
open Go.ChangeShapes Go.WideShapes Go.ChangeAt Go.RowKit

set_option linter.unusedSimpArgs false in
set_option maxHeartbeats 4000000 in
set_option maxRecDepth 100000 in
theorem refcheck_any (S : Nat → Prop) (vg : Value) (r : Int) (G : List GN) (w : World) (hG : GrAt w S vg G) (hS : ∀ b, S b → b < w.heap.size) (sG : Sized G) :
    Calls Tryd.prog 14 #[.agg #[vg, .int .i64 r]] w fun e w' => e = .returned (.int .i64 (checkG G r)) ∧ Below w.heap.size w w' := by
  have hlen := hG.len
  obtain ⟨xg, cg, gg, og, rfl, hxg, hng⟩ := hG.open_
  obtain ⟨n, hn⟩ : ∃ n, G.length = n := ⟨_, rfl⟩
  have hn2 : n ≤ 9223372036854775807 := by unfold maxLen at hlen; omega
  rw [hn] at hxg ⊢
  obtain ⟨V, hV⟩ : ∃ V, w.alloc (.cells #[.slice xg n cg, .int .i64 r] 24) = V := ⟨_, rfl⟩
  have BV : Below w.heap.size w V := by rw [← hV]; exact (Below.refl _ _).alloc (Nat.le_refl _) _
  have sV : V.heap.size = w.heap.size + 1 := by rw [← hV]; simp
  have fV : V.heap[w.heap.size]? = some (.cells #[.slice xg n cg, .int .i64 r] 24) := by rw [← hV]; exact heap_last rfl
  have HV := Lib.hid hV
  have H := Lib.hid (And.intro hn (And.intro hxg (And.intro hng (And.intro hS (And.intro sG (And.intro BV (And.intro sV fV)))))))
  have e1 : ¬ 1048576 < n → ¬ 1048576 < G.length := by omega
  by_cases h1 : 1048576 < n
  · have hc : checkG G r = 3 := checkG_long (by omega)
    rw [hc]
    have h1' : (1048576 : Int) < (n : Int) := by omega
    clear hV BV sV fV hG hxg hng hS sG hlen hn hc e1
    go_enter Tryd.func14, Tryd.ntmps14
    go_wp2_with fail
    rw [HV.out]
    go_ret
    exact ⟨rfl, H.out.2.2.2.2.2.1⟩
  have h1' : ¬ (1048576 : Int) < (n : Int) := by omega
  by_cases h2 : insideB r n = true
  rotate_left
  · have hc : checkG G r = 2 := checkG_out (e1 h1) (by rw [hn]; simpa using h2)
    rw [hc]
    have h3 : r < 0 ∨ (0 ≤ r ∧ ¬ r < 0 ∧ (n : Int) ≤ r) := by
      have : ¬ (0 ≤ r ∧ r < n) := fun h => h2 (inside_iff.2 h)
      omega
    clear hV BV sV fV hG hxg hng hS sG hlen hn hc e1 h2
    rcases h3 with h3 | ⟨h3, h4, h5⟩
    all_goals
      go_enter Tryd.func14, Tryd.ntmps14
      go_wp2_with fail
      rw [HV.out]
      go_ret
      exact ⟨rfl, H.out.2.2.2.2.2.1⟩
  have h2' := inside_iff.1 h2
  have h3 : ¬ r < 0 := by omega
  have h4 : ¬ (n : Int) ≤ r := by omega
  have h5 := h2'.1
  have h6 := h2'.2
  have HI := Lib.hid h2
  clear h2 h2' hV BV sV fV hG hxg hng hS sG hlen hn e1
  go_enter Tryd.func14, Tryd.ntmps14
  go_wp2_with fail
  rw [HV.out]
  go_loopg [23] n (fun gk i wr => ∃ j : Nat, gk = n - j ∧ i = .int .i64 (j : Int) ∧ j ≤ n ∧ Below V.heap.size V wr ∧ ∀ k (h : k < G.length), k < j → fitG G[k] n = true)
  case atStart => exact ⟨0, by simp, by first | rfl | simp, Nat.zero_le _, Below.refl _ _, fun _ _ h => absurd h (by omega)⟩
  case round =>
    obtain ⟨j, rfl, rfl, hj, hB, hfit⟩ := hrel
    have sr := hB.size
    by_cases hlt : j < n
    · have hi' : (j : Int) < (n : Int) := by omega
      obtain ⟨hn, hxg, hng, hS, sG, BV, sV, fV⟩ := H.out
      obtain ⟨rfl, q1, q2, q3⟩ := hxg (by omega)
      have hjG : j < G.length := by omega
      obtain ⟨va, vl, hgn⟩ := hng j hjG
      have hBw : Below w.heap.size w wr := BV.trans (hB.mono BV.size)
      have gn := hgn.carry (keeps_of hBw hS) fun _ h => h
      have tS : ∀ b, S b → b < wr.heap.size := fun b hb => Nat.lt_of_lt_of_le (hS b hb) hBw.size
      have CM : Hid (∀ U, Below wr.heap.size wr U → Calls Tryd.prog 27 #[.agg #[.int .i64 G[j].k, .string G[j].nm, va, vl, .bool G[j].op], .int .i64 (n : Int)] U fun e w' => e = .returned (.bool (fitG G[j] n)) ∧ Below wr.heap.size wr w') := Lib.hid fun U hU =>
        (may_any S G[j] va vl n U (gn.ha.carry (keeps_of hU tS) fun _ h => h) (gn.hl.carry (keeps_of hU tS) fun _ h => h) (fun b hb => Nat.lt_of_lt_of_le (tS b hb) hU.size) (sG _ (List.getElem_mem hjG))).mono fun e w' h => ⟨h.1, hU.trans (h.2.mono hU.size)⟩
      have b0 : wr.heap[w.heap.size]? = some (.cells #[.slice (some ⟨gg, og, none⟩) n cg, .int .i64 r] 24) := (hB.block _ (by omega)).trans fV
      have a0 := Lib.cell_of_heap b0 0
      simp only [List.getElem?_toArray, List.getElem?_cons_zero, List.getElem?_cons_succ] at a0
      obtain ⟨xa, ca, ga, oa, rfl, -, -⟩ := gn.ha.open_
      obtain ⟨xl, cl, gl, ol, rfl, -, -⟩ := gn.hl.open_
      obtain ⟨xo, hxo⟩ : ∃ o, og + j * 5 = o := ⟨_, rfl⟩
      have c0 := gn.c0
      have c1 := gn.c1
      have c2 := gn.c2
      have c3 := gn.c3
      have c4 := gn.c4
      obtain ⟨f, hf⟩ : ∃ f, fitG G[j] n = f := ⟨_, rfl⟩
      obtain ⟨k0, hk0⟩ : ∃ f, G[j].k = f := ⟨_, rfl⟩
      obtain ⟨k1, hk1⟩ : ∃ f, G[j].nm = f := ⟨_, rfl⟩
      obtain ⟨k4, hk4⟩ : ∃ f, G[j].op = f := ⟨_, rfl⟩
      obtain ⟨na, hna⟩ : ∃ f, G[j].args.length = f := ⟨_, rfl⟩
      obtain ⟨nl, hnl⟩ : ∃ f, G[j].labels.length = f := ⟨_, rfl⟩
      rw [hf, hk0, hk1, hk4, hna, hnl] at CM
      rw [hxo] at c0 c1 c2 c3 c4
      rw [hk0] at c0
      rw [hk1] at c1
      rw [hna] at c2
      rw [hnl] at c3
      rw [hk4] at c4
      have lw : w.heap.size < wr.heap.size := by omega
      have lg := tS gg q3
      unfold maxLen at q2
      have HF := Lib.hid (And.intro hf (And.intro hfit (And.intro hB hjG)))
      clear hf hfit hB hn hxg hng hS sG BV sV fV q3 hgn hBw gn tS b0 hk0 hk1 hk4 hna hnl
      have hBB : Below wr.heap.size wr (wr.alloc (.cells #[.int .i64 k0, .string k1, .slice xa na ca, .slice xl nl cl, .bool k4] 36)) := (Below.refl _ _).alloc (Nat.le_refl _) _
      have CM2 := Lib.hid (CM.out _ hBB)
      clear hBB CM
      cases f with
      | true =>
        go_wp2_with (go_at_call 27; (with_reducible refine CM2.out.mono ?_); (rintro e9 w9 ⟨rfl, hB9⟩))
        go_roundg (n - (j + 1))
        case measure => omega
        case rel =>
          obtain ⟨hf, hfit, hB, hjG⟩ := HF.out
          refine ⟨j + 1, rfl, by first | rfl | simp, hlt, hB.trans (hB9.mono hB.size), fun i h hi => ?_⟩
          by_cases e : i = j
          · subst e; exact hf
          · exact hfit i h (by omega)
      | false =>
        have hc : checkG G r = 2 := checkG_bad (by have := H.out.1; omega) HF.out.2.2.2 (by have h := HF.out.1; rw [← H.out.1] at h; exact h)
        have HC := Lib.hid hc
        clear hc
        go_wp2_with (go_at_call 27; (with_reducible refine CM2.out.mono ?_); (rintro e9 w9 ⟨rfl, hB9⟩))
        go_ret
        obtain ⟨hf, hfit, hB, hjG⟩ := HF.out
        exact ⟨by rw [HC.out]; rfl, H.out.2.2.2.2.2.1.trans ((hB.trans (hB9.mono hB.size)).mono H.out.2.2.2.2.2.1.size)⟩
    · have hi' : ¬ (j : Int) < (n : Int) := by omega
      have hc : checkG G r = 0 := checkG_ok.2 ⟨by have := H.out.1; omega, by rw [H.out.1]; exact HI.out, fun x hx => by
        obtain ⟨i, hi, rfl⟩ := List.mem_iff_getElem.1 hx
        have h := hfit i hi (by have := H.out.1; omega)
        rw [← H.out.1] at h
        exact h⟩
      have HC := Lib.hid (And.intro hc hB)
      clear hc hB hfit
      go_wp2_with fail
      go_ret
      exact ⟨by rw [HC.out.1]; rfl, H.out.2.2.2.2.2.1.trans (HC.out.2.mono H.out.2.2.2.2.2.1.size)⟩
end Go.Proofs.YtelmigkbofnicaaDoor
