/- trefoilref06.may: whether a node of a graph of so many nodes may be. -/
import Derived.Test.YtelmigkbofnicaaDoorGp
import Derived.Test.YtelmigkbofnicaaDoorRn
namespace Go.Proofs.YtelmigkbofnicaaDoor
open Go.ChangeShapes Go.WideShapes Go.ChangeAt Go.RowKit

theorem riseD_iff {l : List ByteArray} : riseD l = true ↔ Rise l l.length := by simp [riseD]
theorem bytes_eq_iff (a b : ByteArray) : a = b ↔ a.toList = b.toList := by
  refine ⟨fun h => by rw [h], fun h => ?_⟩
  by_cases e : a = b
  · exact e
  · have := (Lib.bytes_beq_false_iff a b).2 e
    rw [h] at this
    simp at this
theorem arity_list (nm : ByteArray) : arityI nm = if nm.toList = [105, 110, 116] ∨ nm.toList = [98, 111, 111, 108] ∨ nm.toList = [115, 116, 114, 105, 110, 103] ∨ nm.toList = [117, 110, 105, 116] then 0 else if nm.toList = [45, 62] ∨ nm.toList = [42] then 2 else -1 := by
  have e1 : sInt.toList = [105, 110, 116] := by kernel_rfl
  have e2 : sBool.toList = [98, 111, 111, 108] := by kernel_rfl
  have e3 : sString.toList = [115, 116, 114, 105, 110, 103] := by kernel_rfl
  have e4 : sUnit.toList = [117, 110, 105, 116] := by kernel_rfl
  have e5 : sArrow.toList = [45, 62] := by kernel_rfl
  have e6 : sStar.toList = [42] := by kernel_rfl
  unfold arityI
  simp only [bytes_eq_iff, e1, e2, e3, e4, e5, e6]
set_option linter.unusedSimpArgs false in
set_option maxHeartbeats 4000000 in
set_option maxRecDepth 100000 in
theorem may_any (S : Nat → Prop) (x : GN) (va vl : Value) (n : Int) (w : World) (ha : Nums w S va x.args) (hl : Strs w S vl x.labels) (hS : ∀ b, S b → b < w.heap.size) (hs : ∀ s ∈ x.labels, s.size ≤ maxLen) :
    Calls Tryd.prog 27 #[.agg #[.int .i64 x.k, .string x.nm, va, vl, .bool x.op], .int .i64 n] w fun e w' => e = .returned (.bool (fitG x n)) ∧ Below w.heap.size w w' := by
  obtain ⟨xa, ca, ga, oa, rfl, hxa, hna⟩ := ha.open_
  obtain ⟨xl, cl, gl, ol, rfl, hxl, hnl⟩ := hl.open_
  obtain ⟨k, nm, args, labels, op⟩ := x
  simp only at hxa hna hxl hnl hs ha hl ⊢
  obtain ⟨na, ena⟩ : ∃ na, args.length = na := ⟨_, rfl⟩
  obtain ⟨nl, enl⟩ : ∃ nl, labels.length = nl := ⟨_, rfl⟩
  obtain ⟨V, hV⟩ : ∃ V, w.alloc (.cells #[.int .i64 k, .string nm, .slice xa args.length ca, .slice xl labels.length cl, .bool op] 36) = V := ⟨_, rfl⟩
  have BV : Below w.heap.size w V := by rw [← hV]; exact (Below.refl _ _).alloc (Nat.le_refl _) _
  have sV : V.heap.size = w.heap.size + 1 := by rw [← hV]; simp
  have fV : V.heap[w.heap.size]? = some (.cells #[.int .i64 k, .string nm, .slice xa args.length ca, .slice xl labels.length cl, .bool op] 36) := by rw [← hV]; exact heap_last rfl
  have hlna := ha.len
  have hlnl := hl.len
  rw [ena] at hV fV hxa hlna ⊢
  rw [enl] at hV fV hxl hlnl ⊢
  unfold maxLen at hlna hlnl
  have HV := Lib.hid hV
  have H := Lib.hid (And.intro ena (And.intro enl (And.intro hxa (And.intro hna (And.intro hxl (And.intro hnl (And.intro hS (And.intro hs (And.intro BV (And.intro sV fV))))))))))
  obtain ⟨R, hR⟩ : ∃ R, fitG ⟨k, nm, args, labels, op⟩ n = R := ⟨_, rfl⟩
  rw [hR]
  have HR := Lib.hid hR
  clear ha hl ena enl hxa hna hxl hnl hS hs BV sV fV hR hV
  go_enter Tryd.func27, Tryd.ntmps27
  go_wp2_with fail
  rw [HV.out]
  go_loopg [12] na (fun gk i wr => ∃ j : Nat, gk = na - j ∧ j ≤ na ∧ i = .int .i64 (j : Int) ∧ wr = V ∧ ∀ k (h : k < args.length), k < j → insideB args[k] n = true)
  case atStart => exact ⟨0, by first | rfl | simp, Nat.zero_le _, by first | rfl | simp, rfl, fun _ _ h => absurd h (by omega)⟩
  case round =>
    obtain ⟨j, rfl, hj, rfl, hw, hin⟩ := hrel
    rw [hw]
    clear hw
    by_cases hlt : j < na
    · have hi : (j : Int) < (na : Int) := by omega
      obtain ⟨ena, enl, hxa, hna, hxl, hnl, hS, hs, BV, sV, fV⟩ := H.out
      obtain ⟨rfl, h1, h2, h3⟩ := hxa (by omega)
      have hja : j < args.length := by omega
      have e1 := (BV.cell (p := ⟨ga, oa + j, none⟩) (hS ga h3)).trans (hna j hja)
      obtain ⟨a, hav⟩ : ∃ a, args[j] = a := ⟨_, rfl⟩
      rw [hav] at e1
      have hgV : ga < V.heap.size := by have := hS ga h3; omega
      unfold maxLen at h2
      have HA := Lib.hid (And.intro hin hav)
      clear hin hav ena enl hxa hna hxl hnl hS hs BV sV fV h3
      by_cases hb : insideB a n = true
      · have hb2 := inside_iff.1 hb
        have p1 : ¬ a < 0 := by omega
        have p2 : ¬ n ≤ a := by omega
        have p3 := hb2.1
        have p4 := hb2.2
        clear hb2
        go_wp2_with fail
        go_roundg (na - (j + 1))
        case measure => omega
        case rel =>
          refine ⟨j + 1, by first | rfl | simp, hlt, by first | rfl | simp, rfl, fun i h hi => ?_⟩
          by_cases e : i = j
          · subst e; rw [HA.out.2]; exact hb
          · exact HA.out.1 i h (by omega)
      · have hR0 : R = false := by
          rw [← HR.out]
          unfold fitG
          have : argsIn args n = false := by
            cases hz : argsIn args n with
            | false => rfl
            | true =>
              unfold argsIn at hz
              have h := List.all_eq_true.1 hz args[j] (List.getElem_mem hja)
              rw [HA.out.2] at h
              exact absurd h hb
          show (argsIn args n && _) = false
          rw [this]; rfl
        have H0 := Lib.hid hR0
        have hc : a < 0 ∨ (¬ a < 0 ∧ n ≤ a) := by
          have : ¬ (0 ≤ a ∧ a < n) := fun h => hb (inside_iff.2 h)
          omega
        clear hR0 hb
        rcases hc with hc | ⟨hc1, hc2⟩
        · go_wp2_with fail
          go_ret
          exact ⟨by rw [H0.out]; rfl, H.out.2.2.2.2.2.2.2.2.1⟩
        · have hc3 : 0 ≤ a := by omega
          go_wp2_with fail
          go_ret
          exact ⟨by rw [H0.out]; rfl, H.out.2.2.2.2.2.2.2.2.1⟩
    · have hi : ¬ (j : Int) < (na : Int) := by omega
      obtain ⟨ena, enl, hxa, hna, hxl, hnl, hS, hs, BV, sV, fV⟩ := H.out
      have hRH : R = headB ⟨k, nm, args, labels, op⟩ := by
        rw [← HR.out]
        unfold fitG
        have : argsIn args n = true := by
          unfold argsIn
          rw [List.all_eq_true]
          intro a hm
          obtain ⟨i, hi2, rfl⟩ := List.mem_iff_getElem.1 hm
          exact hin i hi2 (by omega)
        show (argsIn args n && _) = _
        rw [this, Bool.true_and]
      unfold headB at hRH
      simp only [ena, enl] at hRH
      have HRH := Lib.hid hRH
      have c0 := Lib.cell_of_heap fV 0
      have c1 := Lib.cell_of_heap fV 1
      have c2 := Lib.cell_of_heap fV 2
      have c3 := Lib.cell_of_heap fV 3
      have c4 := Lib.cell_of_heap fV 4
      simp only [List.getElem?_toArray, List.getElem?_cons_zero, List.getElem?_cons_succ] at c0 c1 c2 c3 c4
      have hwV : w.heap.size < V.heap.size := by omega
      clear ena enl hxa hna hxl hnl hS hs BV sV fV hRH hin
      by_cases k1 : k = 1
      · subst k1
        have hq : R = (nm.toList == [] && (na == 0 && (nl == 0 && !op))) := by
          rw [HRH.out, if_neg (by decide)]
          split
          · rename_i h
            rcases h with h | h
            · rw [h]; simp
            · have : (nl == 0) = false := by rw [beq_eq_false_iff_ne]; omega
              rw [this]; simp
          · rename_i h
            simp only [not_or] at h
            have h1 : op = false := by simpa using h.1
            have h2 : nl = 0 := by omega
            rw [h1, h2]
            simp
        have HQ := Lib.hid hq
        clear hq
        go_wp2_with fail
        all_goals
          go_ret
          go_light
          refine ⟨?_, H.out.2.2.2.2.2.2.2.2.1⟩
          rw [HQ.out]
          simp [*]
      by_cases k2 : k = 2
      · subst k2
        have hq : R = (!(op || decide (0 < nl)) && (if nm.toList = [45, 62] ∨ nm.toList = [42] then na == 2 else na == 0 && decide (nm.toList = [105, 110, 116] ∨ nm.toList = [98, 111, 111, 108] ∨ nm.toList = [115, 116, 114, 105, 110, 103] ∨ nm.toList = [117, 110, 105, 116]))) := by
          rw [HRH.out, if_neg (by decide)]
          split
          · rename_i h
            rcases h with h | h
            · rw [h]; simp
            · simp [h]
          · rename_i h
            simp only [not_or] at h
            have h1 : op = false := by simpa using h.1
            rw [h1, decide_eq_false h.2, if_pos (show (2 : Int) = 2 from rfl), arity_list]
            simp only [Bool.or_self, Bool.not_false, Bool.true_and]
            split
            · rename_i h4
              have n1 : ¬ (nm.toList = [45, 62] ∨ nm.toList = [42]) := fun hn => by rcases hn with e | e <;> rw [e] at h4 <;> revert h4 <;> decide
              rw [if_neg n1, decide_eq_true h4, Bool.and_true]
              rw [Bool.eq_iff_iff, beq_iff_eq, beq_iff_eq]
              omega
            · rename_i h4
              split
              · rename_i h5
                rw [Bool.eq_iff_iff, beq_iff_eq, beq_iff_eq]
                omega
              · rename_i h5
                rw [decide_eq_false h4, Bool.and_false]
                rw [beq_eq_false_iff_ne]
                omega
        have HQ := Lib.hid hq
        clear hq k1
        go_wp2_with fail
        all_goals
          go_ret
          go_light
          refine ⟨?_, H.out.2.2.2.2.2.2.2.2.1⟩
          rw [HQ.out]
          first
            | (simp_all; done)
            | (simp_all; rw [Bool.eq_iff_iff, beq_iff_eq, beq_iff_eq]; omega)
            | (simp_all; rw [Bool.eq_iff_iff]; simp only [Bool.or_eq_true, beq_iff_eq, decide_eq_true_eq]; simp [*]; done)
      by_cases k3 : k = 3
      · subst k3
        have hq : R = (nm.toList == [] && (nl == na && riseD labels)) := by rw [HRH.out, if_pos rfl]
        have HQ := Lib.hid hq
        clear hq k1 k2
        go_wp2_with fail
        go_loopg [99] nl (fun gk i wz => ∃ j : Nat, gk = nl - j ∧ j ≤ nl ∧ i = .int .i64 (j : Int) ∧ wz = V ∧ Rise labels j)
        case atStart => exact ⟨0, by first | rfl | simp, Nat.zero_le _, by first | rfl | simp, rfl, fun i _ h => absurd h (Nat.not_lt_zero _)⟩
        case round =>
          obtain ⟨j, rfl, hj2, rfl, hw, hRi⟩ := hrel
          rw [hw]
          clear hw
          have HRi := Lib.hid hRi
          clear hRi
          by_cases hlt2 : j < nl
          · have hi' : (j : Int) < (nl : Int) := by omega
            obtain ⟨ena, enl, hxa, hna, hxl, hnl, hS, hs, BV, sV, fV⟩ := H.out
            obtain ⟨rfl, hc1, hc2, hSl⟩ := hxl (by omega)
            unfold maxLen at hc2
            have hjl : j < labels.length := by omega
            have hgl : gl < V.heap.size := by have := hS gl hSl; omega
            have d1 := (BV.cell (p := ⟨gl, ol + j, none⟩) (hS gl hSl)).trans (hnl j hjl)
            have CN : Hid (Calls Tryd.prog 38 #[.string labels[j]] V fun e w' => e = .returned (.bool (nameB labels[j])) ∧ V = w') := Lib.hid (refName_any _ V (hs _ (List.getElem_mem hjl)))
            obtain ⟨a, ha⟩ : ∃ a, labels[j] = a := ⟨_, rfl⟩
            rw [ha] at d1 CN
            obtain ⟨r, hr⟩ : ∃ r, nameB a = r := ⟨_, rfl⟩
            rw [hr] at CN
            have HA := Lib.hid (And.intro ha hr)
            have no : Hid (r = false → R = false) := Lib.hid fun h => by
              rw [HQ.out]
              cases hz : riseD labels with
              | false => simp
              | true =>
                have := (riseD_iff.1 hz j hjl hjl).1
                rw [ha, hr, h] at this
                cases this
            rcases Nat.eq_zero_or_pos j with rfl | hj0
            · rw [Nat.add_zero] at d1
              clear ena enl hxa hna hxl hnl hS hs BV sV fV hSl ha hr
              cases r with
              | true =>
                go_wp2_with (go_at_call 38; (with_reducible refine CN.out.mono ?_); (rintro e9 w9 ⟨rfl, rfl⟩))
                go_roundg (nl - (0 + 1))
                case measure => omega
                case rel => exact ⟨1, rfl, hlt2, by first | rfl | simp, rfl, fun i hi h => by
                  obtain rfl : i = 0 := by omega
                  exact ⟨by rw [HA.out.1, HA.out.2], fun h => absurd h (Nat.lt_irrefl _)⟩⟩
              | false =>
                go_wp2_with (go_at_call 38; (with_reducible refine CN.out.mono ?_); (rintro e9 w9 ⟨rfl, rfl⟩))
                go_ret
                exact ⟨by rw [no.out (by first | rfl | trivial)]; rfl, H.out.2.2.2.2.2.2.2.2.1⟩
            · have hjl1 : j - 1 < labels.length := by omega
              have d2 := (BV.cell (p := ⟨gl, ol + (j - 1), none⟩) (hS gl hSl)).trans (hnl (j - 1) hjl1)
              obtain ⟨b, hb⟩ : ∃ b, labels[j - 1] = b := ⟨_, rfl⟩
              rw [hb] at d2
              have HB := Lib.hid hb
              clear hb
              have hi0 : (0 : Int) < (j : Int) := by omega
              have hw : IntKind.i64.wrap ((j : Int) - 1) = ((j - 1 : Nat) : Int) := by rw [IntKind.wrap_i64]; omega
              obtain ⟨i1, hi1⟩ : ∃ i1, j - 1 = i1 := ⟨_, rfl⟩
              rw [hi1] at d2 hw
              have hi2 : i1 < nl := by omega
              have hi3 : (i1 : Int) < (nl : Int) := by omega
              have hi4 : 1 ≤ (j : Int) := by omega
              have hi5 : (j : Int) - 1 = (i1 : Int) := by omega
              have HI := Lib.hid hi1
              clear hi1
              obtain ⟨z, hz⟩ : ∃ z, Op.bytesLess b.toList a.toList = z := ⟨_, rfl⟩
              have HZ := Lib.hid hz
              have no2 : Hid (z = false → R = false) := Lib.hid fun h => by
                rw [HQ.out]
                cases hz2 : riseD labels with
                | false => simp
                | true =>
                  have := (riseD_iff.1 hz2 j hjl hjl).2 hj0
                  rw [ha, HB.out, HZ.out, h] at this
                  cases this
              clear ena enl hxa hna hxl hnl hS hs BV sV fV hSl ha hr
              cases r with
              | false =>
                go_wp2_with (go_at_call 38; (with_reducible refine CN.out.mono ?_); (rintro e9 w9 ⟨rfl, rfl⟩))
                go_ret
                exact ⟨by rw [no.out (by first | rfl | trivial)]; rfl, H.out.2.2.2.2.2.2.2.2.1⟩
              | true =>
                cases z with
                | false =>
                  go_wp2_with (go_at_call 38; (with_reducible refine CN.out.mono ?_); (rintro e9 w9 ⟨rfl, rfl⟩))
                  go_ret
                  exact ⟨by rw [no2.out (by first | rfl | trivial)]; rfl, H.out.2.2.2.2.2.2.2.2.1⟩
                | true =>
                  go_wp2_with (go_at_call 38; (with_reducible refine CN.out.mono ?_); (rintro e9 w9 ⟨rfl, rfl⟩))
                  go_roundg (nl - (j + 1))
                  case measure => omega
                  case rel =>
                    refine ⟨j + 1, rfl, hlt2, by first | rfl | simp, rfl, fun i hi h => ?_⟩
                    by_cases e : i = j
                    · subst e
                      refine ⟨by rw [HA.out.1, HA.out.2], fun _ => ?_⟩
                      rw [HA.out.1, HB.out]
                      exact HZ.out
                    · exact HRi.out i hi (by omega)
          · have hi' : ¬ (j : Int) < (nl : Int) := by omega
            have hq2 : R = (nm.toList == [] && nl == na) := by
              rw [HQ.out]
              have : riseD labels = true := by
                refine riseD_iff.2 fun i hi h => HRi.out i hi ?_
                have := H.out.2.1
                omega
              rw [this, Bool.and_true]
            have HQ2 := Lib.hid hq2
            clear hq2
            go_wp2_with fail
            all_goals
              go_ret
              go_light
              refine ⟨?_, H.out.2.2.2.2.2.2.2.2.1⟩
              rw [HQ2.out]
              first
                | (simp_all; done)
                | (simp_all; rw [Bool.eq_iff_iff, beq_iff_eq, beq_iff_eq]; omega)
      · have hq : R = false := by
          rw [HRH.out, if_neg k3, if_neg k1, if_neg k2]
          split <;> rfl
        have HQ := Lib.hid hq
        clear hq
        go_wp2_with fail
        all_goals
          go_ret
          go_light
          refine ⟨?_, H.out.2.2.2.2.2.2.2.2.1⟩
          rw [HQ.out]
          rfl
end Go.Proofs.YtelmigkbofnicaaDoor
