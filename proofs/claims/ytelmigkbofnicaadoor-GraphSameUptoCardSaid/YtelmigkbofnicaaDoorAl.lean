/- trefoilref06's Labels and Alike, in general. -/
import Derived.Test.YtelmigkbofnicaaDoorRe
import Derived.Test.YtelmigkbofnicaaDoorRm
import Derived.Test.YtelmigkbofnicaaDoorSp
namespace Go.Proofs.YtelmigkbofnicaaDoor
open Go.ChangeShapes Go.WideShapes Go.ChangeAt Go.RowKit

set_option linter.unusedSimpArgs false in
set_option maxHeartbeats 1000000 in
set_option maxRecDepth 100000 in
theorem labels_any (S S' : Nat → Prop) (v u : Value) (l m : List ByteArray) (w : World) (hv : Strs w S v l) (hu : Strs w S' u m) (hS : ∀ b, S b → b < w.heap.size) (hS' : ∀ b, S' b → b < w.heap.size) :
    Calls Tryd.prog 40 #[v, u] w fun e w' => e = .returned (.bool (same l m)) ∧ Below w.heap.size w w' := by
  obtain ⟨x, c, g, o, rfl, hx, hl⟩ := hv.open_
  obtain ⟨x', c', g', o', rfl, hx', hl'⟩ := hu.open_
  obtain ⟨n, hn⟩ : ∃ n, l.length = n := ⟨_, rfl⟩
  obtain ⟨n', hn'⟩ : ∃ n, m.length = n := ⟨_, rfl⟩
  have H := Lib.hid (And.intro hn (And.intro hn' (And.intro hx (And.intro hl (And.intro hx' (And.intro hl' (And.intro hS hS')))))))
  have hn2 : n ≤ 9223372036854775807 := by have := hv.len; unfold maxLen at this; omega
  have hn2' : n' ≤ 9223372036854775807 := by have := hu.len; unfold maxLen at this; omega
  obtain ⟨R, hR⟩ : ∃ R, same l m = R := ⟨_, rfl⟩
  have HR := Lib.hid hR
  rw [hn, hn', hR]
  clear hv hu hx hl hx' hl' hS hS' hR
  by_cases hnn : n = n'
  rotate_left
  · have h0 : R = false := by rw [← HR.out]; exact same_no fun h => hnn (by rw [← hn, ← hn', h])
    have e1 : ((n : Int) != (n' : Int)) = true := by simp; omega
    rw [h0]
    clear hn hn' HR h0
    go_enter Tryd.func40, Tryd.ntmps40
    go_wp2_with fail
    go_ret
    exact ⟨rfl, Below.refl _ _⟩
  subst hnn
  clear hn hn' hn2'
  go_enter Tryd.func40, Tryd.ntmps40
  go_wp2_with fail
  go_loopg [13] n (fun gk i wr => ∃ j : Nat, gk = n - j ∧ i = .int .i64 (j : Int) ∧ j ≤ n ∧ Below w.heap.size w wr ∧ l.take j = m.take j)
  case atStart => exact ⟨0, by simp, by first | rfl | simp, Nat.zero_le _, Below.refl _ _, rfl⟩
  case round =>
    obtain ⟨j, rfl, rfl, hj, hB, htk⟩ := hrel
    have sr := hB.size
    by_cases hlt : j < n
    · have hi' : (j : Int) < (n : Int) := by omega
      obtain ⟨hn, hn', hx, hl, hx', hl', hS, hS'⟩ := H.out
      obtain ⟨rfl, h1, h2, h3⟩ := hx (by omega)
      obtain ⟨rfl, h1', h2', h3'⟩ := hx' (by omega)
      have k := hS g h3
      have k' := hS' g' h3'
      have hjl : j < l.length := by omega
      have hjm : j < m.length := by omega
      have e1 := (World.cell?_of_block (a := ⟨g, o + j, none⟩) (hB.block g k)).trans (hl j hjl)
      have e2 := (World.cell?_of_block (a := ⟨g', o' + j, none⟩) (hB.block g' k')).trans (hl' j hjm)
      obtain ⟨t, ht⟩ : ∃ t, l[j] = t := ⟨_, rfl⟩
      obtain ⟨t', ht'⟩ : ∃ t, m[j] = t := ⟨_, rfl⟩
      rw [ht] at e1
      rw [ht'] at e2
      have k1 : g < wr.heap.size := by omega
      have k2 : g' < wr.heap.size := by omega
      rw [hn] at h1
      rw [hn'] at h1'
      unfold maxLen at h2 h2'
      by_cases htt : t = t'
      · subst htt
        have z : (t.toList != t.toList) = false := by simp
        have HB := Lib.hid (And.intro hB (take_step hjl hjm htk (by rw [ht, ht'])))
        clear hB hn hn' hx hl hx' hl' hS hS' h3 h3' k k' ht ht' htk
        go_wp2_with fail
        go_region
        go_wp2_with fail
        go_roundg (n - (j + 1))
        case measure => omega
        case rel => exact ⟨j + 1, rfl, by first | rfl | simp, hlt, HB.out.1.drew, HB.out.2⟩
      · have z0 : (t.toList == t'.toList) = false := by
          rw [beq_eq_false_iff_ne]
          exact fun h => htt ((bytes_eq_iff _ _).2 h)
        have z : (t.toList != t'.toList) = true := by
          unfold bne; rw [z0]; rfl
        have h0 : R = false := by rw [← HR.out]; exact same_no fun h => htt (by rw [← ht, ← ht']; simp only [h])
        have HB := Lib.hid hB
        have H0 := Lib.hid h0
        clear hB hn hn' hx hl hx' hl' hS hS' h3 h3' k k' ht ht' htk h0 htt
        go_wp2_with fail
        go_region
        go_wp2_with fail
        go_ret
        exact ⟨by rw [H0.out]; rfl, HB.out.drew⟩
    · have hi' : ¬ (j : Int) < (n : Int) := by omega
      have h1 : R = true := by
        rw [← HR.out]
        refine same_yes ?_
        rw [List.take_of_length_le (by have := H.out.1; omega), List.take_of_length_le (by have := H.out.2.1; omega)] at htk
        exact htk
      have HB := Lib.hid (And.intro hB h1)
      clear hB htk h1
      go_wp2_with fail
      go_ret
      exact ⟨by rw [HB.out.2]; rfl, HB.out.1⟩

set_option linter.unusedSimpArgs false in
set_option maxHeartbeats 1000000 in
set_option maxRecDepth 100000 in
theorem alike_any (S S' : Nat → Prop) (x y : GN) (va vl va' vl' : Value) (w : World) (ha : Nums w S va x.args) (ha' : Nums w S' va' y.args) (hl : Strs w S vl x.labels) (hl' : Strs w S' vl' y.labels) (hS : ∀ b, S b → b < w.heap.size) (hS' : ∀ b, S' b → b < w.heap.size) :
    Calls Tryd.prog 32 #[.agg #[.int .i64 x.k, .string x.nm, va, vl, .bool x.op], .agg #[.int .i64 y.k, .string y.nm, va', vl', .bool y.op]] w fun e w' => e = .returned (.bool (alikeB x y)) ∧ Below w.heap.size w w' := by
  obtain ⟨R, hR⟩ : ∃ R, alikeB x y = R := ⟨_, rfl⟩
  rw [hR]
  obtain ⟨k, nm, al, ls, op⟩ := x
  obtain ⟨k', nm', al', ls', op'⟩ := y
  unfold alikeB at hR
  simp only at hR ha ha' hl hl' ⊢
  have B2 : Below w.heap.size w ((w.alloc (.cells #[.int .i64 k, .string nm, va, vl, .bool op] 36)).alloc (.cells #[.int .i64 k', .string nm', va', vl', .bool op'] 36)) := ((Below.refl _ _).alloc (Nat.le_refl _) _).alloc (by simp) _
  obtain ⟨V, hV⟩ : ∃ V, (w.alloc (.cells #[.int .i64 k, .string nm, va, vl, .bool op] 36)).alloc (.cells #[.int .i64 k', .string nm', va', vl', .bool op'] 36) = V := ⟨_, rfl⟩
  rw [hV] at B2
  have s2 := B2.size
  have CL := Lib.hid (labels_any S S' vl vl' ls ls' V (hl.carry (keeps_of B2 hS) fun _ h => h) (hl'.carry (keeps_of B2 hS') fun _ h => h) (fun b hb => by have := hS b hb; omega) (fun b hb => by have := hS' b hb; omega))
  obtain ⟨xa, ca, ga, oa, rfl, _, _⟩ := ha.open_
  obtain ⟨ya, da, ga', oa', rfl, _, _⟩ := ha'.open_
  obtain ⟨xl, cl, gl, ol, rfl, _, _⟩ := hl.open_
  obtain ⟨yl, dl, gl', ol', rfl, _, _⟩ := hl'.open_
  obtain ⟨na, hna⟩ : ∃ n, al.length = n := ⟨_, rfl⟩
  obtain ⟨nl, hnl⟩ : ∃ n, ls.length = n := ⟨_, rfl⟩
  obtain ⟨ma, hma⟩ : ∃ n, al'.length = n := ⟨_, rfl⟩
  obtain ⟨ml, hml⟩ : ∃ n, ls'.length = n := ⟨_, rfl⟩
  obtain ⟨b4, hb4⟩ : ∃ b, same ls ls' = b := ⟨_, rfl⟩
  rw [hna, hma] at hV hR ⊢
  rw [hnl, hml] at CL hV ⊢
  rw [hb4] at CL hR
  have HV := Lib.hid hV
  have HB2 := Lib.hid B2
  have HR := Lib.hid hR
  clear ha ha' hl hl' hS hS' B2 hna hnl hma hml hV s2 hb4 hR
  by_cases e1 : k = k'
  rotate_left
  · have z1 : (k == k') = false := by simpa using e1
    have h0 : R = false := by rw [← HR.out, z1]; rfl
    rw [h0]
    clear e1 HR CL h0
    go_enter Tryd.func32, Tryd.ntmps32
    go_wp2_with fail
    rw [HV.out]
    go_ret
    exact ⟨rfl, HB2.out⟩
  subst e1
  by_cases e2 : nm = nm'
  rotate_left
  · have z2 : (nm.toList == nm'.toList) = false := by
      rw [beq_eq_false_iff_ne]; exact fun h => e2 ((bytes_eq_iff _ _).2 h)
    have h0 : R = false := by rw [← HR.out, same_no e2]; simp
    rw [h0]
    clear e2 HR CL h0
    go_enter Tryd.func32, Tryd.ntmps32
    go_wp2_with fail
    rw [HV.out]
    go_ret
    exact ⟨rfl, HB2.out⟩
  subst e2
  have z : (nm.toList == nm.toList) = true := by simp
  by_cases e3 : op = op'
  rotate_left
  · have h0 : R = false := by rw [← HR.out, (show (op == op') = false by simpa using e3)]; simp
    rw [h0]
    clear HR CL h0
    cases op <;> cases op' <;> first | exact absurd rfl e3 | skip
    all_goals
      clear e3
      go_enter Tryd.func32, Tryd.ntmps32
      go_wp2_with fail
      rw [HV.out]
      go_ret
      exact ⟨rfl, HB2.out⟩
  subst e3
  by_cases e4 : na = ma
  rotate_left
  · have z4 : ((na : Int) == (ma : Int)) = false := by simp; omega
    have h0 : R = false := by rw [← HR.out, (show (na == ma) = false by simpa using e4)]; simp
    rw [h0]
    clear HR CL h0
    cases op
    all_goals
      go_enter Tryd.func32, Tryd.ntmps32
      go_wp2_with fail
      rw [HV.out]
      go_ret
      exact ⟨rfl, HB2.out⟩
  subst e4
  have hRb : R = b4 := by rw [← HR.out]; simp [same_self]
  rw [hRb]
  clear HR hRb
  go_enter Tryd.func32, Tryd.ntmps32
  go_wp2_with fail
  rw [HV.out]
  refine CL.out.mono ?_
  rintro e1 W1 ⟨rfl, hB1⟩
  have HB1 := Lib.hid (HB2.out.trans (hB1.mono HB2.out.size))
  clear hB1 CL HV
  go_wp2_with fail
  go_ret
  exact ⟨rfl, HB1.out⟩
end Go.Proofs.YtelmigkbofnicaaDoor
