/- tree.Same at a tree of variables and applications and itself: walked. -/
import Derived.Test.YtoopndgdaiblpaaDoorSame2
import Derived.Test.YtoopndgdaiblpaaDoorParts
import Derived.WalkSmall
namespace Go.Proofs.YtoopndgdaiblpaaDoor
open Go.ChangeShapes Go.WideShapes Go.ChangeAt Go.RowKit

/-- A tree of variables and applications. -/
inductive OkT : Nd → Prop
  | var (s : ByteArray) (hn : nameB s = true) (hs : s.size ≤ maxLen) : OkT (.ex 1 s 0 [] [] [] [])
  | app (x y : Nd) (hx : OkT x) (hy : OkT y) : OkT (.ex 7 ⟨#[]⟩ 0 [] [] [x, y] [])

theorem OkT.form {t : Nd} (h : OkT t) : ∃ k s args, t = .ex k s 0 [] [] args [] ∧ (∀ x ∈ args, OkT x) ∧ args.length ≤ 2 := by
  cases h with
  | var s hn hs => exact ⟨1, s, [], rfl, fun _ h => (by cases h), by simp⟩
  | app x y hx hy =>
    refine ⟨7, ⟨#[]⟩, [x, y], rfl, fun z hz => ?_, by simp⟩
    simp only [List.mem_cons, List.not_mem_nil, or_false] at hz
    rcases hz with rfl | rfl <;> assumption

/-- Two places where one tree lies. -/
structure Pr where
  b : Nat
  o : Nat
  b' : Nat
  o' : Nat
  t : Nd
def prc (x : Pr) : List Value := [.pointer (some ⟨x.b, x.o, none⟩), .pointer (some ⟨x.b', x.o', none⟩)]
def prcs (l : List Pr) : List Value := (l.map prc).flatten
theorem prcs_append (l m : List Pr) : prcs (l ++ m) = prcs l ++ prcs m := by simp [prcs]
theorem prcs_length (l : List Pr) : (prcs l).length = l.length * 2 := by
  induction l with
  | nil => rfl
  | cons a r ih =>
    have : prcs (a :: r) = prc a ++ prcs r := rfl
    rw [this, List.length_append, ih]; simp [prc]; omega
def prow (g g' : Nat) : Nat → Nat → List Nd → List Pr
  | _, _, [] => []
  | o, o', t :: r => ⟨g, o, g', o', t⟩ :: prow g g' (o + 7) (o' + 7) r
theorem prow_snoc (g g' : Nat) : ∀ (o o' : Nat) (l : List Nd) (t : Nd), prow g g' o o' (l ++ [t]) = prow g g' o o' l ++ [⟨g, o + l.length * 7, g', o' + l.length * 7, t⟩]
  | o, o', [], t => by simp [prow]
  | o, o', a :: r, t => by
    rw [List.cons_append, prow, prow, prow_snoc g g' (o + 7) (o' + 7) r t, List.length_cons, List.cons_append]
    rw [show o + 7 + r.length * 7 = o + (r.length + 1) * 7 by omega, show o' + 7 + r.length * 7 = o' + (r.length + 1) * 7 by omega]
theorem prow_length (g g' : Nat) : ∀ (o o' : Nat) (l : List Nd), (prow g g' o o' l).length = l.length
  | _, _, [] => rfl
  | o, o', _ :: r => by rw [prow, List.length_cons, List.length_cons, prow_length g g' (o + 7) (o' + 7) r]
theorem prow_mem (g g' : Nat) : ∀ (o o' : Nat) (l : List Nd) (x : Pr), x ∈ prow g g' o o' l → ∃ i, ∃ h : i < l.length, x = ⟨g, o + i * 7, g', o' + i * 7, l[i]⟩
  | _, _, [], _, h => by cases h
  | o, o', t :: r, x, h => by
    rw [prow] at h
    rcases List.mem_cons.1 h with rfl | h
    · exact ⟨0, by simp, by simp⟩
    · obtain ⟨i, hi, rfl⟩ := prow_mem g g' (o + 7) (o' + 7) r x h
      exact ⟨i + 1, by simpa using hi, by simp [Nat.add_mul]; omega⟩
def prSum (l : List Pr) : Nat := (l.map fun x => ndSize x.t).sum
theorem prSum_append (l m : List Pr) : prSum (l ++ m) = prSum l + prSum m := by simp [prSum]
theorem prSum_row (g g' : Nat) : ∀ (o o' : Nat) (l : List Nd), prSum (prow g g' o o' l) = ndSum l
  | _, _, [] => rfl
  | o, o', t :: r => by
    have := prSum_row g g' (o + 7) (o' + 7) r
    rw [prow]
    simp only [prSum, ndSum, List.map_cons, List.sum_cons] at this ⊢
    omega
theorem prSum_ge : ∀ l : List Pr, l.length ≤ prSum l
  | [] => Nat.le_refl _
  | x :: r => by
    have h1 := prSum_ge r
    have : 1 ≤ ndSize x.t := by cases x.t <;> simp [ndSize_ex, ndSize_me] <;> omega
    simp only [prSum, List.map_cons, List.sum_cons, List.length_cons] at h1 ⊢
    omega

theorem prInfo : (Tryd.prog.info? 56).map (fun i => (i.zero, i.size, i.bytes)) = some (some (.agg #[.pointer none, .pointer none]), 2, 16) := by kernel_rfl

set_option maxHeartbeats 2000000 in
set_option maxRecDepth 100000 in
theorem same_ok (k : Int) (s : ByteArray) (n : Int) (va vn vt vm : Value) (w : World) (t : Nd) (hsz : ndSize t ≤ 900000) (hok : OkT t)
    (ht : NdAt ((w.alloc (.cells #[.int .i64 k, .string s, .int .i64 n, va, vn, vt, vm] 33)).alloc (.cells #[.int .i64 k, .string s, .int .i64 n, va, vn, vt, vm] 33)) (fun b => b < w.heap.size + 2) w.heap.size 0 t)
    (ht' : NdAt ((w.alloc (.cells #[.int .i64 k, .string s, .int .i64 n, va, vn, vt, vm] 33)).alloc (.cells #[.int .i64 k, .string s, .int .i64 n, va, vn, vt, vm] 33)) (fun b => b < w.heap.size + 2) (w.heap.size + 1) 0 t) :
    Calls Tryd.prog 12 #[.agg #[.int .i64 k, .string s, .int .i64 n, va, vn, vt, vm], .agg #[.int .i64 k, .string s, .int .i64 n, va, vn, vt, vm]] w fun e w' => e = .returned (.bool true) ∧ Below w.heap.size w w' := by
  obtain ⟨i0, hi, hz0, hz1, hz2⟩ := info_parts prInfo
  have HT := Lib.hid (And.intro ht (And.intro ht' hok))
  clear ht ht' hok
  go_enter Tryd.func12, Tryd.ntmps12
  go_wp2_with fail
  obtain ⟨W1, hW1⟩ : ∃ W1, (w.alloc (.cells #[.int .i64 k, .string s, .int .i64 n, va, vn, vt, vm] 33)).alloc (.cells #[.int .i64 k, .string s, .int .i64 n, va, vn, vt, vm] 33) = W1 := ⟨_, rfl⟩
  rw [hW1]
  have hs1 : W1.heap.size = w.heap.size + 2 := by rw [← hW1]; simp
  have hBw1 : Below w.heap.size w W1 := by rw [← hW1]; exact ((Below.refl _ w).alloc (Nat.le_refl _) _).alloc (by simp) _
  have HW := HT.out
  rw [hW1] at HW
  have HT1 := Lib.hid HW
  clear HW HT hW1
  go_loopg [5] (ndSize t) (fun gk v wr => ∃ st : List Pr, gk = prSum st ∧ gk ≤ 900000 ∧ wr.ownsRow (w.heap.size + 2) 56 2 v st.length (prcs st) ∧ (∀ x ∈ st, OkT x.t ∧ NdAt W1 (fun b => b < w.heap.size + 2) x.b x.o x.t ∧ NdAt W1 (fun b => b < w.heap.size + 2) x.b' x.o' x.t) ∧ Below (w.heap.size + 2) W1 wr)
  case atStart =>
    refine ⟨[⟨w.heap.size, 0, w.heap.size + 1, 0, t⟩], by simp [prSum], hsz, ?_, fun x hx => by rw [List.mem_singleton.1 hx]; exact ⟨HT1.out.2.2, HT1.out.1, HT1.out.2.1⟩, (Below.refl _ _).alloc (by omega) _⟩
    have := World.ownsRow_lit (base := w.heap.size + 2) (e := 56) (size := 2) W1 #[.pointer (some ⟨w.heap.size, 0, none⟩), .pointer (some ⟨w.heap.size + 1, 0, none⟩)] 1 (by omega) (by decide) rfl
    rw [hs1] at this
    simpa [prcs, prc] using this
  case round =>
    obtain ⟨st, rfl, hle, hown, hnd, hB⟩ := hrel
    have hbw := hB.size
    have HND := Lib.hid hnd
    clear hnd
    rcases List.eq_nil_or_concat st with rfl | ⟨st', x, hcc⟩
    · obtain ⟨x0, c0, rfl⟩ : ∃ x c, u5 = .slice x 0 c := by
        rcases hown.2 with ⟨h, _⟩ | ⟨g, cap, cur, h, _⟩
        · exact ⟨_, _, h⟩
        · exact ⟨_, _, h⟩
      clear hown
      go_wp2_with fail
      go_ret
      exact ⟨rfl, hBw1.trans (hB.mono (by omega))⟩
    · rw [List.concat_eq_append] at hcc
      subst hcc
      have hge := prSum_ge st'
      have hxs : 1 ≤ ndSize x.t := by cases x.t <;> simp [ndSize_ex, ndSize_me] <;> omega
      have hsum : prSum (st' ++ [x]) = prSum st' + ndSize x.t := by simp [prSum]
      rw [hsum] at hle
      rw [List.length_append, List.length_singleton, prcs_append] at hown
      obtain ⟨g, cap, hv, hg1, hg2⟩ := hown.form (by omega)
      subst hv
      have hpop := ownsRow_pop (last := prcs [x]) (prcs_length st') hown
      have hcap : st'.length + 1 ≤ cap ∧ cap ≤ maxLen := by
        rcases hown.2 with ⟨h, _⟩ | ⟨g2, cap2, cur, hv, _, _, hx, hy, _⟩
        · cases h
        · cases hv; exact ⟨hx, hy⟩
      unfold maxLen at hcap
      obtain ⟨hc1, hc2⟩ := hcap
      have hcl : ∀ j, j < 2 → wr.cell? ⟨g, st'.length * 2 + j, none⟩ = (prc x)[j]? := fun j hj => by
        rw [hown.cellAt (st'.length * 2 + j) (by omega), List.getElem?_append_right (by rw [prcs_length]; omega), prcs_length, show st'.length * 2 + j - st'.length * 2 = j from by omega]
        simp [prcs]
      have c0 := hcl 0 (by omega)
      have c1 := hcl 1 (by omega)
      rw [Nat.add_zero] at c0
      obtain ⟨hox, hn1, hn2⟩ := HND.out x (by simp)
      obtain ⟨xb, xo, xb', xo', xt⟩ := x
      simp only at hox hn1 hn2 hle hsum hxs
      simp only [prc, List.getElem?_cons_zero, List.getElem?_cons_succ] at c0 c1
      have hst5 : st'.length ≤ 900000 := by omega
      have HP := Lib.hid (And.intro hpop (And.intro hle hsum))
      clear hcl hown hpop hle hsum hge
      obtain ⟨k', s', ags, rfl, hoa, hal⟩ := hox.form
      obtain ⟨hb, h0, h1, h2, h3, h4, h5, h6, ha, hnn, htt, hm, hs, r1, r2, r3, hax, r4⟩ := hn1
      rename_i va1 vn1 vt1 vm1 ga oa gn on gt ot gm om
      obtain ⟨hb', g0, g1, g2, g3, g4, g5, g6, ha', hnn', htt', hm', hs', r1', r2', r3', hax', r4'⟩ := hn2
      rename_i va2 vn2 vt2 vm2 ga' oa' gn' on' gt' ot' gm' om'
      clear r1 r2 r3 r4 r1' r2' r3' r4'
      obtain ⟨x3, e3, rfl, hsh⟩ := ha.shape
      obtain ⟨x4, e4, rfl, _⟩ := hnn.shape
      obtain ⟨x5, e5, rfl, _⟩ := htt.shape
      obtain ⟨x6, e6, rfl, _⟩ := hm.shape
      obtain ⟨y3, f3, rfl, hsh'⟩ := ha'.shape
      obtain ⟨y4, f4, rfl, _⟩ := hnn'.shape
      obtain ⟨y5, f5, rfl, _⟩ := htt'.shape
      obtain ⟨y6, f6, rfl, _⟩ := hm'.shape
      obtain ⟨na, hna⟩ : ∃ na, ags.length = na := ⟨_, rfl⟩
      have HA := Lib.hid (And.intro hna (And.intro hsh (And.intro hsh' (And.intro hs (And.intro hs' hoa)))))
      rw [hna] at h3 g3 hal
      have w0 := (hB.cell (p := ⟨xb, xo, none⟩) hb).trans h0
      have w1 := (hB.cell (p := ⟨xb, xo + 1, none⟩) hb).trans h1
      have w2 := (hB.cell (p := ⟨xb, xo + 2, none⟩) hb).trans h2
      have w3 := (hB.cell (p := ⟨xb, xo + 3, none⟩) hb).trans h3
      have w4 := (hB.cell (p := ⟨xb, xo + 4, none⟩) hb).trans h4
      have w5 := (hB.cell (p := ⟨xb, xo + 5, none⟩) hb).trans h5
      have w6 := (hB.cell (p := ⟨xb, xo + 6, none⟩) hb).trans h6
      have v0 := (hB.cell (p := ⟨xb', xo', none⟩) hb').trans g0
      have v1 := (hB.cell (p := ⟨xb', xo' + 1, none⟩) hb').trans g1
      have v2 := (hB.cell (p := ⟨xb', xo' + 2, none⟩) hb').trans g2
      have v3 := (hB.cell (p := ⟨xb', xo' + 3, none⟩) hb').trans g3
      have v4 := (hB.cell (p := ⟨xb', xo' + 4, none⟩) hb').trans g4
      have v5 := (hB.cell (p := ⟨xb', xo' + 5, none⟩) hb').trans g5
      have v6 := (hB.cell (p := ⟨xb', xo' + 6, none⟩) hb').trans g6
      have CA : Hid (∀ q, Calls Tryd.prog 23 #[.pointer (some ⟨xb, xo, none⟩), .pointer (some ⟨xb', xo', none⟩)] (wr.drewN q) fun e w' => e = .returned (.bool true) ∧ ∃ m, w' = (wr.drewN q).drewN m) := Lib.hid fun q =>
        alike_ok xb xo xb' xo' k' s' na x3 x4 x5 x6 y3 y4 y5 y6 e3 e4 e5 e6 f3 f4 f5 f6 (wr.drewN q) w0 w1 w2 w3 w4 w5 w6 v0 v1 v2 v3 v4 v5 v6
      clear hax hax' hs hs' hsh hsh' hna hoa hox ha ha' hnn hnn' htt htt' hm hm' h0 h1 h2 h4 h5 g0 g1 g2 g4 g5 w0 w1 w2 w4 w5 v0 v1 v2 v4 v5 v6
      have hw : IntKind.i64.wrap ((st'.length : Int) + 1 - 1) = (st'.length : Int) := by rw [IntKind.wrap_i64]; omega
      go_wp2_with fail
      go_quiet (fail)
      clear hw
      go_wp2_with (go_at_call 23; refine (CA.out _).mono ?_; rintro e w2 ⟨rfl, m2, rfl⟩)
      obtain ⟨wo, rfl⟩ : ∃ wo, wo = wr := ⟨_, rfl⟩
      go_loopg [5, 46] na (fun gk v i wq => ∃ j, gk = na - j ∧ j ≤ na ∧ i = .int .i64 j ∧ wq.ownsRow (w.heap.size + 2) 56 2 v (st'.length + j) (prcs (st' ++ prow ga ga' oa oa' (ags.take j))) ∧ Below (w.heap.size + 2) wo wq)
      case atStart =>
        have hr : (wo.drewN (nq + m2)).ownsRow (w.heap.size + 2) 56 2 (.slice (some ⟨g, 0, none⟩) st'.length cap) st'.length (prcs st') := HP.out.1
        exact ⟨0, rfl, Nat.zero_le _, rfl, by simpa [prow] using hr, dN_below (Below.refl _ _) _⟩
      case round =>
        obtain ⟨j, rfl, hj, rfl, hownq, hBq⟩ := hrel
        obtain ⟨x0, cc0, hv⟩ : ∃ x c, u5 = .slice x (st'.length + j) c := by
          rcases hownq.2 with ⟨h, h0⟩ | ⟨gx, cx, cur, h, _⟩
          · exact ⟨none, 0, by rw [h, h0]⟩
          · exact ⟨_, _, h⟩
        subst hv
        have HOWN := Lib.hid hownq
        clear hownq
        have hbq := hBq.size
        have q3 := (hBq.cell (p := ⟨xb, xo + 3, none⟩) hb).trans w3
        have p3 := (hBq.cell (p := ⟨xb', xo' + 3, none⟩) hb').trans v3
        have q6 := (hBq.cell (p := ⟨xb, xo + 6, none⟩) hb).trans w6
        by_cases hlt : j < na
        · have hi' : (j : Int) < (na : Int) := by omega
          obtain ⟨rfl, _, hm3, _⟩ := HA.out.2.1 (by have := HA.out.1; omega)
          obtain ⟨rfl, _, hm3', _⟩ := HA.out.2.2.1 (by have := HA.out.1; omega)
          have HOA := Lib.hid (World.ownsRow.drew (HOWN.out.alloc (.cells #[.pointer (some ⟨ga, oa + j * 7, none⟩), .pointer (some ⟨ga', oa' + j * 7, none⟩)] 56)))
          have HN : Hid (∀ i u, ([.pointer (some ⟨ga, oa + j * 7, none⟩), .pointer (some ⟨ga', oa' + j * 7, none⟩)] : List Value)[i]? = some u → ((wr.alloc (.cells #[.pointer (some ⟨ga, oa + j * 7, none⟩), .pointer (some ⟨ga', oa' + j * 7, none⟩)] 56)).drew).cell? ((⟨wr.heap.size, 0, none⟩ : Addr).add i) = some u) := Lib.hid (new_cells wr [.pointer (some ⟨ga, oa + j * 7, none⟩), .pointer (some ⟨ga', oa' + j * 7, none⟩)] 56)
          have H1 : Hid (∀ u ∈ ([.pointer (some ⟨ga, oa + j * 7, none⟩), .pointer (some ⟨ga', oa' + j * 7, none⟩)] : List Value), u.oneCell' = true) := Lib.hid fun u hu => by
            simp only [List.mem_cons, List.not_mem_nil, or_false] at hu
            rcases hu with rfl | rfl <;> rfl
          go_wp2_with fail
          go_region_law (first | (refine step_append_lies _ rfl (.tmp 49) (.tmp 63) 57 rfl (w.heap.size + 2) 56 i0 _ 2 16 Tryd.underlying57 hi hz0 hz1 hz2 rfl (by decide) (.slice x0 (st'.length + j) cc0) (st'.length + j) (prcs (st' ++ prow ga ga' oa oa' (ags.take j))) (by simp [Act.eval]) HOA.out ⟨wr.heap.size, 0, none⟩ 1 1 [.pointer (some ⟨ga, oa + j * 7, none⟩), .pointer (some ⟨ga', oa' + j * 7, none⟩)] (by simp [Act.eval]) rfl HN.out H1.out (by decide) (by unfold maxLen; omega) (by omega) (by simp; omega) _ rfl ?_; intro g2' cap2 w5 hown5 hg5 hat5 hlt5))
          all_goals
            go_wp2_with fail
            go_roundg (na - (j + 1))
            case measure => omega
            case rel =>
              have hB6 : Below (w.heap.size + 2) wr w5 := (((Below.refl (w.heap.size + 2) wr).alloc (by omega) _).drew).grown hg5 (by simp; omega) (fun q hq => (HOA.out.lt q hq).1)
              refine ⟨j + 1, rfl, hlt, by first | rfl | simp, ?_, hBq.trans hB6⟩
              have hjl : j < ags.length := by have := HA.out.1; omega
              have ht : ags.take (j + 1) = ags.take j ++ [ags[j]] := by simp
              have hlen' : (ags.take j).length = j := by rw [List.length_take]; omega
              rw [ht, prow_snoc, hlen', ← List.append_assoc, prcs_append]
              have e : prcs [⟨ga, oa + j * 7, ga', oa' + j * 7, ags[j]⟩] = [.pointer (some ⟨ga, oa + j * 7, none⟩), .pointer (some ⟨ga', oa' + j * 7, none⟩)] := by simp [prcs, prc]
              rw [e]; exact hown5
        · have hi' : ¬ (j : Int) < (na : Int) := by omega
          have hjn : j = na := by omega
          have he : ags.take j = ags := by rw [hjn, ← HA.out.1, List.take_length]
          have HE := Lib.hid (And.intro hjn he)
          clear hjn he
          obtain ⟨wp, rfl⟩ : ∃ wp, wp = wr := ⟨_, rfl⟩
          go_wp2_with fail
          go_loopw [5, 71] (fun v i wq => v = .slice x0 (st'.length + j) cc0 ∧ i = .int .i64 0 ∧ wq = wp) (fun _ _ _ => 0)
          case atStart => exact ⟨rfl, rfl, rfl⟩
          case round =>
            obtain ⟨rfl, rfl, rfl⟩ := hrel
            go_wp2_with fail
            have hps : prSum (st' ++ prow ga ga' oa oa' ags) = prSum st' + ndSum ags := by rw [prSum_append, prSum_row]
            have hnd9 : ndSize (.ex k' s' 0 [] [] ags []) = 1 + ndSum ags := by rw [ndSize_ex]; simp [ndSum]
            go_roundg (prSum (st' ++ prow ga ga' oa oa' ags))
            case measure => rw [HP.out.2.2, hps, hnd9]; omega
            case rel =>
              refine ⟨st' ++ prow ga ga' oa oa' ags, rfl, by have := HP.out.2.1; rw [hps]; omega, ?_, fun y hy => ?_, hB.trans hBq⟩
              · have h := HOWN.out
                rw [HE.out.2] at h
                have hl : (st' ++ prow ga ga' oa oa' ags).length = st'.length + j := by rw [List.length_append, prow_length, HA.out.1, HE.out.1]
                rw [hl]; exact h
              · rcases List.mem_append.1 hy with h | h
                · exact HND.out y (List.mem_append_left _ h)
                · obtain ⟨i, hi, rfl⟩ := prow_mem ga ga' oa oa' ags y h
                  exact ⟨HA.out.2.2.2.2.2 _ (List.getElem_mem hi), HA.out.2.2.2.1 i hi, HA.out.2.2.2.2.1 i hi⟩
end Go.Proofs.YtoopndgdaiblpaaDoor
