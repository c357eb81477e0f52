/- tree.Value: whether an expression is one that is done already. -/
import Derived.Test.YtoopndgdaiblpaaDoorTree
namespace Go.Proofs.YtoopndgdaiblpaaDoor
open Go.ChangeShapes Go.WideShapes Go.ChangeAt Go.RowKit

theorem ptrInfo : (Tryd.prog.info? 55).map (fun i => (i.zero, i.size, i.bytes)) = some (some (.pointer none), 1, 8) := by kernel_rfl

/-- The stack's places and the trees that lie there. -/
def Stack (W : World) (B : Nat → Prop) : List (Nat × Nat) → List Nd → Prop
  | [], [] => True
  | p :: ps, t :: ts => (NdAt W B p.1 p.2 t ∧ isEx t = true) ∧ Stack W B ps ts
  | _, _ => False
theorem Stack.snoc {W : World} {B : Nat → Prop} : ∀ {ps : List (Nat × Nat)} {ts : List Nd} {p : Nat × Nat} {t : Nd}, Stack W B ps ts → NdAt W B p.1 p.2 t → isEx t = true → Stack W B (ps ++ [p]) (ts ++ [t])
  | [], [], _, _, _, h, he => ⟨⟨h, he⟩, trivial⟩
  | _ :: _, _ :: _, _, _, h, h2, he => ⟨h.1, h.2.snoc h2 he⟩
  | [], _ :: _, _, _, h, _, _ => h.elim
  | _ :: _, [], _, _, h, _, _ => h.elim
theorem Stack.len {W : World} {B : Nat → Prop} : ∀ {ps : List (Nat × Nat)} {ts : List Nd}, Stack W B ps ts → ps.length = ts.length
  | [], [], _ => rfl
  | _ :: _, _ :: _, h => by simp [h.2.len]
  | [], _ :: _, h => h.elim
  | _ :: _, [], h => h.elim
/-- A stack that isn't empty: its last one. -/
theorem Stack.last {W : World} {B : Nat → Prop} : ∀ {ps : List (Nat × Nat)} {ts : List Nd}, Stack W B ps ts → ts ≠ [] → ∃ ps' p ts' t, ps = ps' ++ [p] ∧ ts = ts' ++ [t] ∧ Stack W B ps' ts' ∧ NdAt W B p.1 p.2 t ∧ isEx t = true
  | [], [], _, h => absurd rfl h
  | [p], [t], h, _ => ⟨[], p, [], t, rfl, rfl, trivial, h.1.1, h.1.2⟩
  | p :: q :: ps, t :: u :: ts, h, _ => by
    obtain ⟨ps', p', ts', t', e1, e2, h1, h2⟩ := Stack.last (ps := q :: ps) (ts := u :: ts) h.2 (by simp)
    exact ⟨p :: ps', p', t :: ts', t', by rw [e1]; rfl, by rw [e2]; rfl, ⟨h.1, h1⟩, h2⟩
  | [_], _ :: _ :: _, h, _ => h.2.elim
  | _ :: _ :: _, [_], h, _ => h.2.elim
  | [], _ :: _, h, _ => h.elim
  | _ :: _, [], h, _ => h.elim
theorem Stack.carry {W W' : World} {B : Nat → Prop} (hB : Keeps B W W') : ∀ {ps : List (Nat × Nat)} {ts : List Nd}, Stack W B ps ts → Stack W' B ps ts
  | [], [], _ => trivial
  | _ :: _, _ :: _, h => ⟨⟨h.1.1.carry hB (fun _ h => h), h.1.2⟩, h.2.carry hB⟩
  | [], _ :: _, h => h.elim
  | _ :: _, [], h => h.elim

/-- All of them are done already. -/
def allDone (l : List Nd) : Bool := l.all valueB
theorem allDone_snoc (l : List Nd) (t : Nd) : allDone (l ++ [t]) = (allDone l && valueB t) := by unfold allDone; simp

/-- New pointers, laid in a block of their own. -/
theorem new_ptrs (w : World) (l : List (Nat × Nat)) : ∀ j u, (ptrs l)[j]? = some u → (w.alloc (.cells (ptrs l).toArray 55)).cell? ((⟨w.heap.size, 0, none⟩ : Addr).add j) = some u := by
  intro j u hu
  have e : (⟨w.heap.size, 0, none⟩ : Addr).add j = ⟨w.heap.size, j, none⟩ := by unfold Addr.add; split <;> simp_all
  rw [e, Lib.cell_of_heap (heap_alloc_new w _) j]
  simpa using hu
theorem ptrs_one (l : List (Nat × Nat)) : ∀ u ∈ ptrs l, u.oneCell' = true := by
  intro u hu
  obtain ⟨p, _, rfl⟩ := List.mem_map.1 hu
  rfl

theorem two_of {α : Type} {l : List α} (h : l.length = 2) : ∃ a b, l = [a, b] := by
  match l, h with
  | [a, b], _ => exact ⟨a, b, rfl⟩
theorem ndSize_pos (t : Nd) : 1 ≤ ndSize t := by
  cases t with
  | ex => rw [ndSize_ex]; omega
  | me => rw [ndSize_me]; omega
theorem ndSum_len : ∀ l : List Nd, l.length ≤ ndSum l
  | [] => by simp [ndSum]
  | t :: r => by
    have h1 := ndSize_pos t
    have h2 := ndSum_len r
    unfold ndSum at h2 ⊢
    simp only [List.length_cons, List.map_cons, List.sum_cons]
    omega

theorem value_leaf {k : Int} {s : ByteArray} {n : Int} {a : List ByteArray} {b : List Ty} {c d : List Nd} (h : 1 ≤ k ∧ k ≤ 6) : valueB (.ex k s n a b c d) = true := by
  unfold valueB; rw [if_pos h]
theorem value_pair {s : ByteArray} {n : Int} {a : List ByteArray} {b : List Ty} {d : List Nd} (x y : Nd) : valueB (.ex 10 s n a b [x, y] d) = (valueB x && valueB y) := by
  rw [valueB]; simp
theorem value_pair_no {s : ByteArray} {n : Int} {a : List ByteArray} {b : List Ty} {c d : List Nd} (h : c.length ≠ 2) : valueB (.ex 10 s n a b c d) = false := by
  unfold valueB
  rw [if_neg (by omega), if_pos rfl]
  split
  · simp at h
  · rfl
theorem value_note {s : ByteArray} {n : Int} {a : List ByteArray} {b : List Ty} {d : List Nd} (x : Nd) : valueB (.ex 19 s n a b [x] d) = valueB x := by
  rw [valueB]; simp
theorem value_note_no {s : ByteArray} {n : Int} {a : List ByteArray} {b : List Ty} {c d : List Nd} (h : c.length ≠ 1) : valueB (.ex 19 s n a b c d) = false := by
  unfold valueB
  rw [if_neg (by omega), if_neg (by omega), if_pos rfl]
  split
  · simp at h
  · rfl
theorem value_no {k : Int} {s : ByteArray} {n : Int} {a : List ByteArray} {b : List Ty} {c d : List Nd} (h : ¬ (1 ≤ k ∧ k ≤ 6)) (h2 : k ≠ 10) (h3 : k ≠ 19) : valueB (.ex k s n a b c d) = false := by
  unfold valueB; rw [if_neg h, if_neg h2, if_neg h3]

/-- The length that a slice tells. -/
theorem Sl.shape {B : Nat → Prop} {v : Value} {n g o : Nat} (h : Sl B v n g o) : ∃ x cap, v = .slice x n cap ∧ (0 < n → x = some ⟨g, o, none⟩ ∧ n ≤ cap ∧ cap ≤ maxLen ∧ B g) := by
  rcases h with ⟨rfl, rfl⟩ | ⟨cap, rfl, h1, h2, h3⟩
  · exact ⟨none, 0, rfl, fun h => by omega⟩
  · exact ⟨_, cap, rfl, fun _ => ⟨rfl, h1, h2, h3⟩⟩

set_option maxHeartbeats 4000000 in
set_option maxRecDepth 100000 in
theorem val_any (k : Int) (s : ByteArray) (n : Int) (va vn vt vm : Value) (w : World) (t : Nd)
    (hsz : ndSize t ≤ 1000000) (ht : NdAt (w.alloc (.cells #[.int .i64 k, .string s, .int .i64 n, va, vn, vt, vm] 33)) (fun b => b < w.heap.size + 1) w.heap.size 0 t) (he : isEx t = true) :
    Calls Tryd.prog 21 #[.agg #[.int .i64 k, .string s, .int .i64 n, va, vn, vt, vm]] w fun e w' => e = .returned (.bool (valueB t)) ∧ Below w.heap.size w w' := by
  obtain ⟨i0, hi, hz0, hz1, hz2⟩ := info_parts ptrInfo
  have HT := Lib.hid (And.intro ht he)
  clear ht he
  go_enter Tryd.func21, Tryd.ntmps21
  go_wp2_with fail
  go_loopg [3] (ndSize t + 1) (fun g v wr => ∃ (ps : List (Nat × Nat)) (ts : List Nd), g = ndSum ts + 1 ∧ ndSum ts ≤ ndSize t ∧ wr.ownsRow (w.heap.size + 1) 55 1 v ps.length (ptrs ps) ∧ Stack wr (fun b => b < w.heap.size + 1) ps ts ∧ allDone ts = valueB t ∧ Below (w.heap.size + 1) (w.alloc (.cells #[.int .i64 k, .string s, .int .i64 n, va, vn, vt, vm] 33)) wr)
  case atStart =>
    have hb : Below (w.heap.size + 1) (w.alloc (.cells #[.int .i64 k, .string s, .int .i64 n, va, vn, vt, vm] 33)) ((w.alloc (.cells #[.int .i64 k, .string s, .int .i64 n, va, vn, vt, vm] 33)).alloc (.cells #[.pointer (some ⟨w.heap.size, 0, none⟩)] 55)) := (Below.refl _ _).alloc (by simp) _
    refine ⟨[(w.heap.size, 0)], [t], by simp [ndSum], by simp [ndSum], ?_, ⟨⟨HT.out.1.carry (keeps_of hb fun _ h => h) (fun _ h => h), HT.out.2⟩, trivial⟩, by simp [allDone], hb⟩
    have := World.ownsRow_lit (base := w.heap.size + 1) (e := 55) (size := 1) (w.alloc (.cells #[.int .i64 k, .string s, .int .i64 n, va, vn, vt, vm] 33)) #[.pointer (some ⟨w.heap.size, 0, none⟩)] 1 (by simp) (by unfold maxLen; omega) (by simp)
    simpa [ptrs] using this
  case round =>
    obtain ⟨ps, ts, rfl, hle, hown, hst, hdone, hB⟩ := hrel
    have hlen := hst.len
    have hls := ndSum_len ts
    have HD := Lib.hid hdone
    have hfin : Below w.heap.size w wr := ((Below.refl w.heap.size w).alloc (Nat.le_refl _) _).trans (hB.mono (Nat.le_succ _))
    clear hdone
    by_cases hnil : ts = []
    · subst hnil
      have hps : ps = [] := List.length_eq_zero_iff.1 (by rw [hst.len]; rfl)
      subst hps
      have hv : ∃ x c, u3 = .slice x 0 c := by
        rcases hown.2 with ⟨h, _⟩ | ⟨g, cap, cur, h, _⟩
        · exact ⟨_, _, h⟩
        · exact ⟨_, _, h⟩
      obtain ⟨x, c, rfl⟩ := hv
      clear hown hst hlen hls
      go_wp2_with fail
      go_ret
      exact ⟨by rw [← HD.out]; rfl, hfin⟩
    · obtain ⟨ps', ⟨b, o⟩, ts', t', rfl, rfl, hst', hnd, hex⟩ := hst.last hnil
      obtain ⟨k', s', n', nms, tys, ags, ms, rfl⟩ := isEx_is hex
      simp only [List.length_append, List.length_singleton] at hlen hls
      have hb5 : ps'.length ≤ 1000000 := by omega
      clear hlen hls
      rw [ptrs_snoc, List.length_append, List.length_singleton] at hown
      obtain ⟨g, cap, hv, hg1, hg2⟩ := hown.form (by omega)
      subst hv
      have hpop := own_pop hown
      have hcell := hown.cellAt ps'.length (by omega)
      rw [List.getElem?_append_right (by rw [ptrs_length]; omega), ptrs_length, Nat.sub_self, List.getElem?_cons_zero] at hcell
      have hdone2 : (allDone ts' && valueB (.ex k' s' n' nms tys ags ms)) = valueB t := by rw [← allDone_snoc]; exact HD.out
      have hsum : ndSum (ts' ++ [.ex k' s' n' nms tys ags ms]) = ndSum ts' + (1 + ndSum ags + ndSum ms) := by
        rw [ndSum_append]; unfold ndSum; simp only [List.map_cons, List.map_nil, List.sum_cons, List.sum_nil, Nat.add_zero]; rw [ndSize_ex]; rfl
      have HD2 := Lib.hid hdone2
      have HS := Lib.hid hsum
      have HST := Lib.hid hst'
      have HP := Lib.hid hpop
      obtain ⟨bh, h0, h1, h2, h3, h4, h5, h6, ha, hn, htt, hm, hs, q1, q2, q3, hax, q4⟩ := hnd
      rename_i va' vn' vt' vm' ga oa gn on gt ot gm om
      clear q1 q2 q3 q4
      have HSS := Lib.hid hs
      have HAX := Lib.hid hax
      obtain ⟨xa, ca, rfl, hsh⟩ := ha.shape
      have HSH := Lib.hid hsh
      have hcap : ps'.length + 1 ≤ cap ∧ cap ≤ maxLen := by
        rcases hown.2 with ⟨h, _⟩ | ⟨g2, cap2, cur, hv, _, _, hx, hy, _⟩
        · cases h
        · cases hv; exact ⟨hx, hy⟩
      unfold maxLen at hcap
      obtain ⟨hc1, hc2⟩ := hcap
      clear hax hex hst hst' hdone2 hsum hpop hown hs hsh h1 h2 h4 h5 h6 hn htt hm ha hnil
      by_cases hleaf : 1 ≤ k' ∧ k' ≤ 6
      · have hk : k' = 1 ∨ k' = 2 ∨ k' = 3 ∨ k' = 4 ∨ k' = 5 ∨ k' = 6 := by omega
        have hv := value_leaf (s := s') (n := n') (a := nms) (b := tys) (c := ags) (d := ms) hleaf
        have HV := Lib.hid hv
        clear hleaf hv
        rcases hk with rfl | rfl | rfl | rfl | rfl | rfl
        all_goals
          go_wp2_with fail
          go_roundg (ndSum ts' + 1)
          case rel => exact ⟨ps', ts', rfl, by rw [HS.out] at hle; omega, HP.out, HST.out, by have := HD2.out; rw [HV.out, Bool.and_true] at this; exact this, hB⟩
          case measure => rw [HS.out]; omega
      · by_cases hp10 : k' = 10
        · subst hp10
          by_cases hl2 : ags.length = 2
          · obtain ⟨x, y, rfl⟩ := two_of hl2
            obtain ⟨rfl, hca1, hca2, hgaB⟩ := HSH.out (by simp)
            have hv := value_pair (s := s') (n := n') (a := nms) (b := tys) (d := ms) x y
            have HV := Lib.hid hv
            have hx := HSS.out 0 (by simp)
            have hy := HSS.out 1 (by simp)
            simp only [List.getElem_cons_zero, List.getElem_cons_succ, Nat.zero_mul, Nat.add_zero, Nat.one_mul] at hx hy
            have HX := Lib.hid (And.intro hx (HAX.out x (by simp)))
            have HY := Lib.hid (And.intro hy (HAX.out y (by simp)))
            simp only [List.length_cons, List.length_nil, Nat.zero_add, Nat.reduceAdd] at hca1 h3
            unfold maxLen at hca2
            have hnew : ∀ j u, (ptrs [(ga, oa), (ga, oa + 7)])[j]? = some u → ((wr.alloc (.cells #[.pointer (some ⟨ga, oa, none⟩), .pointer (some ⟨ga, oa + 7, none⟩)] 55)).drew).cell? ((⟨wr.heap.size, 0, none⟩ : Addr).add j) = some u := new_ptrs wr [(ga, oa), (ga, oa + 7)]
            have HN := Lib.hid hnew
            have HO := Lib.hid (World.ownsRow.drew (HP.out.alloc (.cells #[.pointer (some ⟨ga, oa, none⟩), .pointer (some ⟨ga, oa + 7, none⟩)] 55)))
            have hsw := hB.size
            simp only [World.size_alloc] at hsw
            clear hv hx hy hl2 hleaf hnew
            go_wp2_with fail
            go_region_law (first | (refine step_append_lies _ rfl (.tmp 39) (.tmp 50) 79 rfl (w.heap.size + 1) 55 i0 _ 1 8 Tryd.underlying79 hi hz0 hz1 hz2 rfl (by decide) (.slice (some ⟨g, 0, none⟩) ps'.length cap) ps'.length (ptrs ps') (by simp [Act.eval]) HO.out ⟨wr.heap.size, 0, none⟩ 2 2 (ptrs [(ga, oa), (ga, oa + 7)]) (by simp [Act.eval]) rfl HN.out (ptrs_one _) (by decide) (by unfold maxLen; omega) (by omega) (by simp; omega) _ rfl ?_; intro g2 cap2 w5 hown5 hg5 hat5 hlt5))
            all_goals
              have hB6 : Below (w.heap.size + 1) wr w5 := (((Below.refl _ wr).alloc hsw _).drew).grown hg5 (by simp; omega) (fun q hq => (HO.out.lt q hq).1)
              have hsx := HS.out
              rw [hsx] at hle
              go_wp2_with fail
              go_roundg (ndSum ts' + (ndSize x + ndSize y) + 1)
              case rel =>
                refine ⟨ps' ++ [(ga, oa)] ++ [(ga, oa + 7)], ts' ++ [x] ++ [y], by rw [ndSum_append, ndSum_append]; simp only [ndSum, List.map_cons, List.map_nil, List.sum_cons, List.sum_nil]; omega, by rw [ndSum_append, ndSum_append]; simp only [ndSum, List.map_cons, List.map_nil, List.sum_cons, List.sum_nil] at hle ⊢; omega, ?_,
                  ((HST.out.carry (keeps_of hB6 fun _ h => h)).snoc (HX.out.1.carry (keeps_of hB6 fun _ h => h) (fun _ h => h)) HX.out.2).snoc (HY.out.1.carry (keeps_of hB6 fun _ h => h) (fun _ h => h)) HY.out.2, ?_, hB.trans hB6⟩
                · have e1 : ptrs (ps' ++ [(ga, oa)] ++ [(ga, oa + 7)]) = ptrs ps' ++ ptrs [(ga, oa), (ga, oa + 7)] := by simp [ptrs]
                  have e2 : (ps' ++ [(ga, oa)] ++ [(ga, oa + 7)]).length = ps'.length + 2 := by simp
                  rw [e1, e2]; exact hown5
                · rw [allDone_snoc, allDone_snoc, ← HD2.out, HV.out, Bool.and_assoc]
              case measure => rw [hsx]; simp only [ndSum, List.map_cons, List.map_nil, List.sum_cons, List.sum_nil]; omega
          · have hv := value_pair_no (s := s') (n := n') (a := nms) (b := tys) (c := ags) (d := ms) hl2
            have hz : ((ags.length : Int) != 2) = true := by simp; omega
            have HV := Lib.hid hv
            clear hv hl2 hleaf
            go_wp2_with fail
            go_ret
            exact ⟨by have := HD2.out; rw [HV.out, Bool.and_false] at this; rw [← this]; rfl, hfin⟩
        · by_cases hp19 : k' = 19
          · subst hp19
            by_cases hl1 : ags.length = 1
            · obtain ⟨x, rfl⟩ := List.length_eq_one_iff.1 hl1
              obtain ⟨rfl, hca1, hca2, hgaB⟩ := HSH.out (by simp)
              have hv := value_note (s := s') (n := n') (a := nms) (b := tys) (d := ms) x
              have HV := Lib.hid hv
              have hchild := HSS.out 0 (by simp)
              simp only [List.getElem_cons_zero, Nat.zero_mul, Nat.add_zero] at hchild
              have HC := Lib.hid (And.intro hchild (HAX.out x (by simp)))
              simp only [List.length_singleton] at hca1 h3 ⊢
              unfold maxLen at hca2
              clear hv hchild hl1 hp10 hleaf
              have hnew := new_ptrs wr [(ga, oa)]
              have HN := Lib.hid hnew
              have HO := Lib.hid (HP.out.alloc (.cells #[.pointer (some ⟨ga, oa, none⟩)] 55))
              have hsw := hB.size
              simp only [World.size_alloc] at hsw
              clear hnew
              go_wp2_with (at_builtin; refine wpList_append_own _ rfl (.tmp 60) (.tmp 66) _ rfl (w.heap.size + 1) 55 i0 _ 1 8 Tryd.underlying79 hi hz0 hz1 hz2 rfl (by omega) (.slice (some ⟨g, 0, none⟩) ps'.length cap) ps'.length (ptrs ps') rfl HO.out ⟨wr.heap.size, 0, none⟩ 1 1 (ptrs [(ga, oa)]) rfl rfl HN.out (ptrs_one _) (by unfold maxLen; omega) (by omega) (by simp; omega) ?_; intro v' w5 hown5 hg5 _)
              have hB6 : Below (w.heap.size + 1) wr w5 := ((Below.refl _ wr).alloc hsw _).grown hg5 (by simp; omega) (fun q hq => (HO.out.lt q hq).1)
              have hsx := HS.out
              rw [hsx] at hle
              go_roundg (ndSum ts' + ndSize x + 1)
              case rel =>
                refine ⟨ps' ++ [(ga, oa)], ts' ++ [x], by rw [ndSum_append]; simp [ndSum], by rw [ndSum_append]; simp only [ndSum, List.map_cons, List.map_nil, List.sum_cons, List.sum_nil] at hle ⊢; omega, ?_, (HST.out.carry (keeps_of hB6 fun _ h => h)).snoc (HC.out.1.carry (keeps_of hB6 fun _ h => h) (fun _ h => h)) HC.out.2, ?_, hB.trans hB6⟩
                · rw [ptrs_snoc, List.length_append]; exact hown5
                · rw [allDone_snoc, ← HD2.out, HV.out]
              case measure => rw [hsx]; simp only [ndSum, List.map_cons, List.map_nil, List.sum_cons, List.sum_nil]; omega
            · have hv := value_note_no (s := s') (n := n') (a := nms) (b := tys) (c := ags) (d := ms) hl1
              have hz : ((ags.length : Int) != 1) = true := by simp; omega
              have HV := Lib.hid hv
              clear hv hl1 hleaf hp10
              go_wp2_with fail
              go_ret
              exact ⟨by have := HD2.out; rw [HV.out, Bool.and_false] at this; rw [← this]; rfl, hfin⟩
          · have hv := value_no (s := s') (n := n') (a := nms) (b := tys) (c := ags) (d := ms) hleaf hp10 hp19
            have HV := Lib.hid hv
            have z1 : (k' == 1) = false := by simp; omega
            have z2 : (k' == 2) = false := by simp; omega
            have z3 : (k' == 3) = false := by simp; omega
            have z4 : (k' == 4) = false := by simp; omega
            have z5 : (k' == 5) = false := by simp; omega
            have z6 : (k' == 6) = false := by simp; omega
            have z10 : (k' == 10) = false := by simpa using hp10
            have z19 : (k' == 19) = false := by simpa using hp19
            clear hv hleaf hp10 hp19
            go_wp2_with fail
            go_ret
            exact ⟨by have := HD2.out; rw [HV.out, Bool.and_false] at this; rw [← this]; rfl, hfin⟩
end Go.Proofs.YtoopndgdaiblpaaDoor
