/- tree.alike, told whole. -/
import Derived.Test.YtoopndgdaiblpaaDoorEqM
import Derived.Test.YtoopndgdaiblpaaDoorEqB
import Derived.Test.YtoopndgdaiblpaaDoorEqC
import Derived.Test.YtoopndgdaiblpaaDoorEqD
namespace Go.Proofs.YtoopndgdaiblpaaDoor
open Go.ChangeShapes Go.WideShapes Go.ChangeAt Go.RowKit

/-- An expression without what its parts are. -/
def exKey : Nd → Option (Int × ByteArray × Int × Nat × List ByteArray × List Ty × List (Option (Int × ByteArray × ByteArray × Nat × List Ty)))
  | .ex k s n names types args mems => some (k, s, n, args.length, names, types, mems.map meKey)
  | .me .. => none

set_option maxHeartbeats 1000000 in
theorem alike_any (S : Nat → Prop) (b o b' o' : Nat) (w : World) (t u : Nd) (hS : ∀ b, S b → b < w.heap.size) (ht : NdAt w S b o t) (hu : NdAt w S b' o' u) (hxt : isEx t = true) (hxu : isEx u = true)
    (hsz : ∀ k s n ns ts ags ms, t = .ex k s n ns ts ags ms → tySum ts ≤ 900000 ∧ memsOk ms) :
    Calls Tryd.prog 23 #[.pointer (some ⟨b, o, none⟩), .pointer (some ⟨b', o', none⟩)] w fun e w' => e = .returned (.bool (same (exKey t) (exKey u))) ∧ Below w.heap.size w w' := by
  obtain ⟨hb, h0, h1, h2, h3, h4, h5, h6, ha, hnn, htt, hm, q1, r1, r2, r3, q2, r4⟩ | _ := ht
  rotate_left
  · cases hxt
  rename_i k s n nms ts ags ms va vn vt vm ga oa gn on gt ot gm om
  obtain ⟨hb', g0, g1, g2, g3, g4, g5, g6, ha', hnn', htt', hm', q1', r1', r2', r3', q2', r4'⟩ | _ := hu
  rotate_left
  · cases hxu
  rename_i k' s' n' nms' ts' ags' ms' va' vn' vt' vm' ga' oa' gn' on' gt' ot' gm' om'
  obtain ⟨hsz1, hsz2⟩ := hsz _ _ _ _ _ _ _ rfl
  obtain ⟨x3, c3, rfl, _⟩ := ha.shape
  obtain ⟨y3, d3, rfl, _⟩ := ha'.shape
  have CE : Hid (∀ V, Below w.heap.size w V → Calls Tryd.prog 27 #[vn, vn'] V fun e w' => e = .returned (.bool (same nms nms')) ∧ ∃ q, w' = V.drewN q) := Lib.hid fun V hV =>
    eqs_any S nms nms' vn vn' gn on gn' on' V hnn hnn' (fun i h => (hV.cell (p := ⟨gn, on + i, none⟩) (hS _ (hnn.lt (by omega)))).trans (r1 i h)) (fun i h => (hV.cell (p := ⟨gn', on' + i, none⟩) (hS _ (hnn'.lt (by omega)))).trans (r1' i h))
  have CT : Hid (∀ V, Below w.heap.size w V → Calls Tryd.prog 33 #[vt, vt', .func (.func 14) #[] #[]] V fun e w' => e = .returned (.bool (same ts ts')) ∧ Below w.heap.size w w') := Lib.hid fun V hV => by
    have hv := hV.size
    refine (eqt_any S ts ts' vt vt' gt ot gt' ot' V (fun b hb => by have := hS b hb; omega) hsz1 htt htt' (fun i hi => (r2 i hi).carry (keeps_of hV hS) fun _ h => h) (fun i hi => (r2' i hi).carry (keeps_of hV hS) fun _ h => h)).mono ?_
    rintro e w' ⟨rfl, hB⟩
    exact ⟨rfl, hV.trans (hB.mono hv)⟩
  have CM : Hid (∀ V, Below w.heap.size w V → Calls Tryd.prog 34 #[vm, vm', .func (.func 35) #[] #[]] V fun e w' => e = .returned (.bool (same (ms.map meKey) (ms'.map meKey))) ∧ Below w.heap.size w w') := Lib.hid fun V hV => by
    have hv := hV.size
    refine (eqm_any S ms ms' vm vm' gm om gm' om' V (fun b hb => by have := hS b hb; omega) hsz2 hm hm' (fun i hi => (r3 i hi).carry (keeps_of hV hS) fun _ h => h) (fun i hi => (r3' i hi).carry (keeps_of hV hS) fun _ h => h) r4 r4').mono ?_
    rintro e w' ⟨rfl, hB⟩
    exact ⟨rfl, hV.trans (hB.mono hv)⟩
  obtain ⟨x4, c4, rfl, _⟩ := hnn.shape
  obtain ⟨y4, d4, rfl, _⟩ := hnn'.shape
  obtain ⟨x5, c5, rfl, _⟩ := htt.shape
  obtain ⟨y5, d5, rfl, _⟩ := htt'.shape
  obtain ⟨x6, c6, rfl, _⟩ := hm.shape
  obtain ⟨y6, d6, rfl, _⟩ := hm'.shape
  have hbl := hS b hb
  have hbl' := hS b' hb'
  have KK : same (exKey (.ex k s n nms ts ags ms)) (exKey (.ex k' s' n' nms' ts' ags' ms')) = same (k, s, n, ags.length, nms, ts, ms.map meKey) (k', s', n', ags'.length, nms', ts', ms'.map meKey) :=
    same_congr (by simp only [exKey, Option.some.injEq])
  rw [KK]
  have z1f (h : k ≠ k') : (k == k') = false := by simpa using h
  have z1t (h : k = k') : (k == k') = true := by simpa using h
  have z2f (h : s ≠ s') : (s.toList == s'.toList) = false := (Lib.bytes_beq_false_iff s s').2 h
  have z2t (h : s = s') : (s.toList == s'.toList) = true := (Lib.bytes_beq_iff s s').2 h
  have z3f (h : n ≠ n') : (n == n') = false := by simpa using h
  have z3t (h : n = n') : (n == n') = true := by simpa using h
  have z4f (h : ags.length ≠ ags'.length) : ((ags.length : Int) == (ags'.length : Int)) = false := by simp; omega
  have z4t (h : ags.length = ags'.length) : ((ags.length : Int) == (ags'.length : Int)) = true := by rw [h]; exact beq_self_eq_true _
  by_cases e1 : k = k'
  rotate_left
  · rw [same_no (fun h => e1 (congrArg (·.1) h))]
    exact alike_h0 b o b' o' k n k' n' s s' x3 x4 x5 x6 y3 y4 y5 y6 _ _ _ _ _ _ _ _ c3 c4 c5 c6 d3 d4 d5 d6 w h0 h1 h2 h3 h4 h5 h6 g0 g1 g2 g3 g4 g5 g6 (z1f e1) hbl hbl'
  by_cases e2 : s = s'
  rotate_left
  · rw [same_no (fun h => e2 (congrArg (·.2.1) h))]
    exact alike_h1 b o b' o' k n k' n' s s' x3 x4 x5 x6 y3 y4 y5 y6 _ _ _ _ _ _ _ _ c3 c4 c5 c6 d3 d4 d5 d6 w h0 h1 h2 h3 h4 h5 h6 g0 g1 g2 g3 g4 g5 g6 (z1t e1) (z2f e2) hbl hbl'
  by_cases e3 : n = n'
  rotate_left
  · rw [same_no (fun h => e3 (congrArg (·.2.2.1) h))]
    exact alike_h2 b o b' o' k n k' n' s s' x3 x4 x5 x6 y3 y4 y5 y6 _ _ _ _ _ _ _ _ c3 c4 c5 c6 d3 d4 d5 d6 w h0 h1 h2 h3 h4 h5 h6 g0 g1 g2 g3 g4 g5 g6 (z1t e1) (z2t e2) (z3f e3) hbl hbl'
  by_cases e4 : ags.length = ags'.length
  rotate_left
  · rw [same_no (fun h => e4 (congrArg (·.2.2.2.1) h))]
    exact alike_h3 b o b' o' k n k' n' s s' x3 x4 x5 x6 y3 y4 y5 y6 _ _ _ _ _ _ _ _ c3 c4 c5 c6 d3 d4 d5 d6 w h0 h1 h2 h3 h4 h5 h6 g0 g1 g2 g3 g4 g5 g6 (z1t e1) (z2t e2) (z3t e3) (z4f e4) hbl hbl'
  by_cases e5 : nms = nms'
  rotate_left
  · rw [same_no e5] at CE
    rw [same_no (fun h => e5 (congrArg (·.2.2.2.2.1) h))]
    exact alike_h4 b o b' o' k n k' n' s s' x3 x4 x5 x6 y3 y4 y5 y6 _ _ _ _ _ _ _ _ c3 c4 c5 c6 d3 d4 d5 d6 w h0 h1 h2 h3 h4 h5 h6 g0 g1 g2 g3 g4 g5 g6 (z1t e1) (z2t e2) (z3t e3) (z4t e4) hbl hbl' CE
  rw [same_yes e5] at CE
  by_cases e6 : ts = ts'
  rotate_left
  · rw [same_no e6] at CT
    rw [same_no (fun h => e6 (congrArg (·.2.2.2.2.2.1) h))]
    exact alike_h5 b o b' o' k n k' n' s s' x3 x4 x5 x6 y3 y4 y5 y6 _ _ _ _ _ _ _ _ c3 c4 c5 c6 d3 d4 d5 d6 w h0 h1 h2 h3 h4 h5 h6 g0 g1 g2 g3 g4 g5 g6 (z1t e1) (z2t e2) (z3t e3) (z4t e4) hbl hbl' CE CT
  rw [same_yes e6] at CT
  rw [same_congr (c := ms.map meKey) (d := ms'.map meKey) (by rw [e1, e2, e3, e4, e5, e6]; simp)]
  exact alike_h6 b o b' o' k n k' n' s s' x3 x4 x5 x6 y3 y4 y5 y6 _ _ _ _ _ _ _ _ c3 c4 c5 c6 d3 d4 d5 d6 w h0 h1 h2 h3 h4 h5 h6 g0 g1 g2 g3 g4 g5 g6 (z1t e1) (z2t e2) (z3t e3) (z4t e4) hbl hbl' CE CT _ CM
end Go.Proofs.YtoopndgdaiblpaaDoor
