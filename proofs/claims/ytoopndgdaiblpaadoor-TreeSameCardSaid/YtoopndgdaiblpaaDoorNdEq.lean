/- tree.Same, told whole: whether two expressions are the same tree. -/
import Derived.Test.YtoopndgdaiblpaaDoorEqA
namespace Go.Proofs.YtoopndgdaiblpaaDoor
open Go.ChangeShapes Go.WideShapes Go.ChangeAt Go.RowKit


theorem keys_eq {ms ns : List Nd} (hm : ∀ x ∈ ms, isEx x = false) (hn : ∀ x ∈ ns, isEx x = false) (hk : ms.map meKey = ns.map meKey) : ms = ns ↔ ms.map meArgs = ns.map meArgs := by
  constructor
  · rintro rfl; rfl
  · intro h
    induction ms generalizing ns with
    | nil =>
      cases ns with
      | nil => rfl
      | cons => simp at hk
    | cons a r ih =>
      cases ns with
      | nil => simp at hk
      | cons b q =>
        simp only [List.map_cons, List.cons.injEq] at hk h
        have e : a = b := by
          have x1 := hm a (by simp)
          have x2 := hn b (by simp)
          cases a with
          | ex => cases x1
          | me k1 n1 a1 t1 g1 =>
            cases b with
            | ex => cases x2
            | me k2 n2 a2 t2 g2 =>
              have h1 := hk.1
              have h2 := h.1
              simp only [meKey, meArgs, Option.some.injEq, Prod.mk.injEq] at h1 h2
              obtain ⟨rfl, rfl, rfl, -, rfl⟩ := h1
              rw [h2]
        rw [e, ih (fun x hx => hm x (by simp [hx])) (fun x hx => hn x (by simp [hx])) hk.2 h.2]

/-- A tree all of whose types are small. -/
inductive TyFine : Nd → Prop
  | ex {k : Int} {s : ByteArray} {n : Int} {names : List ByteArray} {types : List Ty} {args mems : List Nd} (h : tySum types ≤ 900000) (ha : ∀ x ∈ args, TyFine x) (hm : ∀ x ∈ mems, TyFine x) : TyFine (.ex k s n names types args mems)
  | me {k : Int} {nm a : ByteArray} {types : List Ty} {args : List Nd} (h : tySum types ≤ 900000) (ha : ∀ x ∈ args, TyFine x) : TyFine (.me k nm a types args)

/-- Two places where expressions lie. -/
def Ok2 (W : World) (S : Nat → Prop) (x : Pq Nd) : Prop := TyFine x.t ∧ isEx x.t = true ∧ isEx x.u = true ∧ NdAt W S x.b x.o x.t ∧ NdAt W S x.b' x.o' x.u

def argSum (l : List Nd) : Nat := (l.map fun x => ndSum (meArgs x)).sum
theorem argSum_le : ∀ l : List Nd, argSum l ≤ ndSum l
  | [] => Nat.le_refl _
  | x :: r => by
    have h := argSum_le r
    have : ndSum (meArgs x) ≤ ndSize x := by cases x <;> simp [meArgs, ndSize_me, ndSum]
    simp only [argSum, ndSum, List.map_cons, List.sum_cons] at h this ⊢
    omega
theorem argSum_take {l : List Nd} {j : Nat} (h : j < l.length) : argSum (l.take (j + 1)) = argSum (l.take j) + ndSum (meArgs l[j]) := by
  unfold argSum; rw [List.take_succ_eq_append_getElem h, List.map_append, List.sum_append]; simp
theorem argSum_takes (l : List Nd) (j : Nat) : argSum (l.take j) ≤ ndSum l := by
  have h1 := argSum_le (l.take j)
  have h2 : ndSum l = ndSum (l.take j) + ndSum (l.drop j) := by rw [← ndSum_append, List.take_append_drop]
  omega
theorem map_take {l : List Nd} {j : Nat} (h : j < l.length) : (l.take (j + 1)).map meArgs = (l.take j).map meArgs ++ [meArgs l[j]] := by
  rw [List.take_succ_eq_append_getElem h, List.map_append]; rfl
theorem snoc_eq {α : Type} {a b : List α} {x y : α} (h : a.length = b.length) : a ++ [x] = b ++ [y] ↔ a = b ∧ x = y := by
  constructor
  · intro e
    have := List.append_inj e h
    simpa using this
  · rintro ⟨rfl, rfl⟩; rfl

/-- What a member has, opened. -/
theorem NdAt.mem {W : World} {S : Nat → Prop} {b o : Nat} {t : Nd} (h : NdAt W S b o t) (hx : isEx t = false) : ∃ (va : Value) (ga oa : Nat), S b ∧ W.cell? ⟨b, o + 3, none⟩ = some va ∧ Sl S va (meArgs t).length ga oa ∧ (∀ i (h : i < (meArgs t).length), NdAt W S ga (oa + i * 7) (meArgs t)[i]) ∧ (∀ x ∈ meArgs t, isEx x = true) := by
  cases h with
  | ex => cases hx
  | me hb h0 h1 h2 h3 h4 ha ht hs hts hax => exact ⟨_, _, _, hb, h3, ha, hs, hax⟩
theorem meKey_len {t u : Nd} (h : meKey t = meKey u) : (meArgs t).length = (meArgs u).length := by
  cases t <;> cases u <;> simp [meKey, meArgs] at h ⊢
  exact h.2.2.2.1
theorem TyFine.mem {t : Nd} (h : TyFine t) (hx : isEx t = false) : ∀ x ∈ meArgs t, TyFine x := by
  cases h with
  | ex => cases hx
  | me h ha => exact ha

theorem epInfo : (Tryd.prog.info? 56).map (fun i => (i.zero, i.size, i.bytes)) = some (some (.agg #[.pointer none, .pointer none]), 2, 16) := by kernel_rfl

def ndGives (w : World) (t u : Nd) (e : Ending) (w' : World) : Prop := e = .returned (.bool (same t u)) ∧ Below w.heap.size w w'

theorem TyFine.head {t : Nd} (h : TyFine t) (k : Int) (s : ByteArray) (n : Int) (ns : List ByteArray) (ts : List Ty) (ags ms : List Nd) (e : t = .ex k s n ns ts ags ms) : tySum ts ≤ 900000 ∧ memsOk ms := by
  subst e
  cases h with
  | ex h ha hm => exact ⟨h, fun x hx k s a ts ags e => by
      have := hm x hx
      subst e
      cases this with
      | me h _ => exact h⟩

set_option maxHeartbeats 8000000 in
set_option maxRecDepth 100000 in
theorem sameNd_any (k k' : Int) (s s' : ByteArray) (n n' : Int) (va vn vt vm va' vn' vt' vm' : Value) (w : World) (t u : Nd) (hsz : ndSize t ≤ 900000) (hfine : TyFine t) (hxt : isEx t = true) (hxu : isEx u = true)
    (ht : NdAt ((w.alloc (.cells #[.int .i64 k, .string s, .int .i64 n, va, vn, vt, vm] 33)).alloc (.cells #[.int .i64 k', .string s', .int .i64 n', va', vn', vt', vm'] 33)) (fun b => b < w.heap.size + 2) w.heap.size 0 t)
    (hu : NdAt ((w.alloc (.cells #[.int .i64 k, .string s, .int .i64 n, va, vn, vt, vm] 33)).alloc (.cells #[.int .i64 k', .string s', .int .i64 n', va', vn', vt', vm'] 33)) (fun b => b < w.heap.size + 2) (w.heap.size + 1) 0 u) :
    Calls Tryd.prog 12 #[.agg #[.int .i64 k, .string s, .int .i64 n, va, vn, vt, vm], .agg #[.int .i64 k', .string s', .int .i64 n', va', vn', vt', vm']] w (ndGives w t u) := by
  obtain ⟨i0, hi, hz0, hz1, hz2⟩ := info_parts epInfo
  have HT := Lib.hid (And.intro ht (And.intro hu (And.intro hfine (And.intro hxt hxu))))
  clear ht hu hfine hxt hxu
  go_enter Tryd.func12, Tryd.ntmps12
  go_wp2_with fail
  obtain ⟨W1, hW1⟩ : ∃ W1, (w.alloc (.cells #[.int .i64 k, .string s, .int .i64 n, va, vn, vt, vm] 33)).alloc (.cells #[.int .i64 k', .string s', .int .i64 n', va', vn', vt', vm'] 33) = W1 := ⟨_, rfl⟩
  rw [hW1]
  have hs1 : W1.heap.size = w.heap.size + 2 := by rw [← hW1]; simp
  have hBw1 : Below w.heap.size w W1 := by rw [← hW1]; exact ((Below.refl _ w).alloc (Nat.le_refl _) _).alloc (by simp) _
  have HW := HT.out
  rw [hW1] at HW
  have HT1 := Lib.hid HW
  clear HW HT hW1
  go_loopg [5] (ndSize t) (fun gk v wr => ∃ st : List (Pq Nd), gk = pqSum ndSize st ∧ gk ≤ 900000 ∧ wr.ownsRow (w.heap.size + 2) 56 2 v st.length (pqcs st) ∧ (∀ x ∈ st, Ok2 W1 (fun b => b < w.heap.size + 2) x) ∧ (t = u ↔ pqEq st) ∧ Below (w.heap.size + 2) W1 wr)
  case atStart =>
    refine ⟨[⟨w.heap.size, 0, t, w.heap.size + 1, 0, u⟩], by simp [pqSum], hsz, ?_, fun x hx => by rw [List.mem_singleton.1 hx]; exact ⟨HT1.out.2.2.1, HT1.out.2.2.2.1, HT1.out.2.2.2.2, HT1.out.1, HT1.out.2.1⟩, (pqEq_one (⟨w.heap.size, 0, t, w.heap.size + 1, 0, u⟩ : Pq Nd)).symm, (Below.refl _ _).alloc (by omega) _⟩
    have := World.ownsRow_lit (base := w.heap.size + 2) (e := 56) (size := 2) W1 #[.pointer (some ⟨w.heap.size, 0, none⟩), .pointer (some ⟨w.heap.size + 1, 0, none⟩)] 1 (by omega) (by decide) rfl
    rw [hs1] at this
    simpa [pqcs, pqc] using this
  case round =>
    obtain ⟨st, rfl, hle, hown, hnd, heq, hB⟩ := hrel
    have hbw := hB.size
    have HND := Lib.hid (And.intro hnd heq)
    clear hnd heq
    rcases List.eq_nil_or_concat st with rfl | ⟨st', x, hcc⟩
    · obtain ⟨x0, c0, rfl⟩ : ∃ x c, u5 = .slice x 0 c := by
        rcases hown.2 with ⟨h, _⟩ | ⟨g, cap, cur, h, _⟩
        · exact ⟨_, _, h⟩
        · exact ⟨_, _, h⟩
      clear hown
      go_wp2_with fail
      go_ret
      exact ⟨by rw [same_yes (HND.out.2.2 (fun _ h => by cases h))]; rfl, hBw1.trans (hB.mono (by omega))⟩
    · rw [List.concat_eq_append] at hcc
      subst hcc
      have hge := pqSum_ge ndSize_pos st'
      have hxs := ndSize_pos x.t
      have hsum : pqSum ndSize (st' ++ [x]) = pqSum ndSize st' + ndSize x.t := by rw [pqSum_append, pqSum_one]
      rw [hsum] at hle
      rw [List.length_append, List.length_singleton, pqcs_append] at hown
      obtain ⟨g, cap, hv, hg1, hg2⟩ := hown.form (by omega)
      subst hv
      have hpop := ownsRow_pop (last := pqcs [x]) (pqcs_length st') hown
      have hcap : st'.length + 1 ≤ cap ∧ cap ≤ maxLen := by
        rcases hown.2 with ⟨h, _⟩ | ⟨g2, cap2, cur, hv, _, _, hx, hy, _⟩
        · cases h
        · cases hv; exact ⟨hx, hy⟩
      unfold maxLen at hcap
      obtain ⟨hc1, hc2⟩ := hcap
      have hcl : ∀ j, j < 2 → wr.cell? ⟨g, st'.length * 2 + j, none⟩ = (pqc x)[j]? := fun j hj => by
        rw [hown.cellAt (st'.length * 2 + j) (by omega), List.getElem?_append_right (by rw [pqcs_length]; omega), pqcs_length, show st'.length * 2 + j - st'.length * 2 = j from by omega]
        simp [pqcs]
      have c0 := hcl 0 (by omega)
      have c1 := hcl 1 (by omega)
      rw [Nat.add_zero] at c0
      obtain ⟨hf0, hx1, hx2, hn1, hn2⟩ := HND.out.1 x (by simp)
      obtain ⟨xb, xo, xt, xb', xo', xu⟩ := x
      simp only at hf0 hx1 hx2 hn1 hn2 hle hsum hxs
      simp only [pqc, List.getElem?_cons_zero, List.getElem?_cons_succ] at c0 c1
      have hst5 : st'.length ≤ 900000 := by omega
      have CA : Hid (∀ V, Below (w.heap.size + 2) W1 V → Calls Tryd.prog 23 #[.pointer (some ⟨xb, xo, none⟩), .pointer (some ⟨xb', xo', none⟩)] V fun e w' => e = .returned (.bool (same (exKey xt) (exKey xu))) ∧ Below V.heap.size V w') := Lib.hid fun V hV => by
        have hv := hV.size
        exact alike_any (fun b => b < w.heap.size + 2) xb xo xb' xo' V xt xu (fun b hb => by omega) (hn1.carry (keeps_of hV fun _ h => h) fun _ h => h) (hn2.carry (keeps_of hV fun _ h => h) fun _ h => h) hx1 hx2 hf0.head
      have HP := Lib.hid (And.intro hpop (And.intro hle hsum))
      clear hcl hown hpop hle hsum hge
      have hw : IntKind.i64.wrap ((st'.length : Int) + 1 - 1) = (st'.length : Int) := by rw [IntKind.wrap_i64]; omega
      by_cases hk : exKey xt = exKey xu
      rotate_left
      · rw [same_no hk] at CA
        have HN := Lib.hid (same_no (a := t) (b := u) fun he => hk (congrArg exKey ((pqEq_one _).1 ((pqEq_append _ _).1 (HND.out.2.1 he)).2)))
        clear hk hn1 hn2
        go_wp2_with fail
        go_quiet (fail)
        clear hw
        go_wp2_with (go_at_call 23; refine (CA.out _ (dN_below hB _)).mono ?_; rintro e9 w9 ⟨rfl, hB9⟩)
        go_ret
        exact ⟨by rw [HN.out]; rfl, hBw1.trans (((dN_below hB _).trans (hB9.mono (by simp; omega))).mono (by omega))⟩
      rw [same_yes hk] at CA
      obtain ⟨hb, h0, h1, h2, h3, h4, h5, h6, ha, hnn, htt, hm, hs, r1, r2, hms, hax, hmx⟩ | _ := hn1
      rotate_left
      · cases hx1
      rename_i k1 s1 n1 nms tys ags ms va1 vn1 vt1 vm1 ga oa gn on gt ot gm om hJ1
      obtain ⟨hb', g0, g1, g2, g3, g4, g5, g6, ha', hnn', htt', hm', hs', r1', r2', hms', hax', hmx'⟩ | _ := hn2
      rotate_left
      · cases hx2
      rename_i k2 s2 n2 nms' tys' ags' ms' va2 vn2 vt2 vm2 ga' oa' gn' on' gt' ot' gm' om'
      have hk' := hk
      simp only [exKey, Option.some.injEq, Prod.mk.injEq] at hk'
      obtain ⟨e1, e2, e3, e4, e5, e6, e7⟩ := hk'
      have hfm : (∀ x ∈ ags, TyFine x) ∧ (∀ x ∈ ms, TyFine x) := by
        cases hf0 with
        | ex _ ha hm => exact ⟨ha, hm⟩
      have HEQ : Hid (t = u ↔ (pqEq st' ∧ ags = ags') ∧ ms.map meArgs = ms'.map meArgs) := Lib.hid (by
        rw [HND.out.2, pqEq_append, pqEq_one]
        simp only [Nd.ex.injEq, e1, e2, e3, e5, e6, true_and]
        rw [keys_eq hmx hmx' e7, and_assoc])
      have hml : ms.length = ms'.length := by simpa using congrArg List.length e7
      obtain ⟨x3, c3, rfl, hsh⟩ := ha.shape
      obtain ⟨y3, d3, rfl, hsh'⟩ := ha'.shape
      obtain ⟨x6, c6, rfl, hmh⟩ := hm.shape
      obtain ⟨y6, d6, rfl, hmh'⟩ := hm'.shape
      obtain ⟨na, hna⟩ : ∃ na, ags.length = na := ⟨_, rfl⟩
      obtain ⟨nm, hnm⟩ : ∃ nm, ms.length = nm := ⟨_, rfl⟩
      have hna' : ags'.length = na := by rw [← e4, hna]
      have hnm' : ms'.length = nm := by rw [← hml, hnm]
      have hsA : ndSize (.ex k1 s1 n1 nms tys ags ms) = 1 + ndSum ags + ndSum ms := ndSize_ex ..
      have HA := Lib.hid (And.intro hna (And.intro hsh (And.intro hs (And.intro hna' (And.intro hsh' hs')))))
      have HM := Lib.hid (And.intro hnm (And.intro hmh (And.intro hms (And.intro hnm' (And.intro hmh' hms')))))
      have HX := Lib.hid (And.intro hax (And.intro hax' (And.intro hmx (And.intro hmx' (And.intro hfm e7)))))
      have HSZ := Lib.hid hsA
      rw [hna] at h3
      rw [hna'] at g3
      rw [hnm] at h6
      rw [hnm'] at g6
      clear hs hs' hsh hsh' hna hna' hax hax' ha ha' hnn hnn' htt htt' hm hm' hmh hmh' hms hms' hnm hnm' hmx hmx' hfm e1 e2 e3 e4 e5 e6 e7 hml hsA hk r1 r2 r1' r2' h0 h1 h2 h4 h5 g0 g1 g2 g4 g5 hf0
      go_wp2_with fail
      go_quiet (fail)
      clear hw
      go_wp2_with (go_at_call 23; refine (CA.out _ (dN_below hB _)).mono ?_; (rintro e9 wo ⟨rfl, hB9⟩); (have hBo : Below (w.heap.size + 2) W1 wo := (dN_below hB _).trans (hB9.mono (by simp; omega))); (have w3 := (hBo.cell (p := ⟨xb, xo + 3, none⟩) hb).trans h3))
      have hown0 : wo.ownsRow (w.heap.size + 2) 56 2 (.slice (some ⟨g, 0, none⟩) st'.length cap) st'.length (pqcs st') := own_below (W := wr.drewN _) HP.out.1 hB9
      have HO0 := Lib.hid hown0
      have HBO := Lib.hid hBo
      have hna5 : na ≤ 900000 := by
        have h1 := HP.out.2.1
        have h2 := HA.out.1
        have h3 := ndSum_len ags
        have h4 := HSZ.out
        omega
      have hnm5 : nm ≤ 900000 := by
        have h1 := HP.out.2.1
        have h2 := HM.out.1
        have h3 := ndSum_len ms
        have h4 := HSZ.out
        omega
      clear hown0 hBo hB9
      go_loopg [5, 46] na (fun gk v i wq => ∃ j, gk = na - j ∧ j ≤ na ∧ i = .int .i64 j ∧ wq.ownsRow (w.heap.size + 2) 56 2 v (st'.length + j) (pqcs (st' ++ pqrow 7 ga oa ags ga' oa' ags' unitN j)) ∧ Below (w.heap.size + 2) W1 wq)
      case atStart =>
        refine ⟨0, rfl, Nat.zero_le _, rfl, ?_, HBO.out⟩
        rw [pqrow_zero, List.append_nil]
        exact HO0.out
      case round =>
        obtain ⟨j, rfl, hj, rfl, hownq, hBq⟩ := hrel
        obtain ⟨x0, cc0, hv⟩ : ∃ x c, u5 = .slice x (st'.length + j) c := by
          rcases hownq.2 with ⟨h, h0⟩ | ⟨gx, cx, cur, h, _⟩
          · exact ⟨none, 0, by rw [h, h0]⟩
          · exact ⟨_, _, h⟩
        subst hv
        have HOWN := Lib.hid hownq
        clear hownq
        have hbq := hBq.size
        have q3 := (hBq.cell (p := ⟨xb, xo + 3, none⟩) hb).trans h3
        have p3 := (hBq.cell (p := ⟨xb', xo' + 3, none⟩) hb').trans g3
        have q6 := (hBq.cell (p := ⟨xb, xo + 6, none⟩) hb).trans h6
        by_cases hlt : j < na
        · have hi' : (j : Int) < (na : Int) := by omega
          obtain ⟨rfl, _, hm3, _⟩ := HA.out.2.1 (by have := HA.out.1; omega)
          obtain ⟨rfl, _, hm3', _⟩ := HA.out.2.2.2.2.1 (by have := HA.out.2.2.2.1; omega)
          have HOA := Lib.hid (World.ownsRow.drew (HOWN.out.alloc (.cells #[.pointer (some ⟨ga, oa + j * 7, none⟩), .pointer (some ⟨ga', oa' + j * 7, none⟩)] 56)))
          have HN : Hid (∀ i u, ([.pointer (some ⟨ga, oa + j * 7, none⟩), .pointer (some ⟨ga', oa' + j * 7, none⟩)] : List Value)[i]? = some u → ((wr.alloc (.cells #[.pointer (some ⟨ga, oa + j * 7, none⟩), .pointer (some ⟨ga', oa' + j * 7, none⟩)] 56)).drew).cell? ((⟨wr.heap.size, 0, none⟩ : Addr).add i) = some u) := Lib.hid (new_cells wr [.pointer (some ⟨ga, oa + j * 7, none⟩), .pointer (some ⟨ga', oa' + j * 7, none⟩)] 56)
          have H1 : Hid (∀ u ∈ ([.pointer (some ⟨ga, oa + j * 7, none⟩), .pointer (some ⟨ga', oa' + j * 7, none⟩)] : List Value), u.oneCell' = true) := Lib.hid fun u hu => by
            simp only [List.mem_cons, List.not_mem_nil, or_false] at hu
            rcases hu with rfl | rfl <;> rfl
          go_wp2_with fail
          go_region_law (first | (refine step_append_lies _ rfl (.tmp 49) (.tmp 63) 57 rfl (w.heap.size + 2) 56 i0 _ 2 16 Tryd.underlying57 hi hz0 hz1 hz2 rfl (by decide) (.slice x0 (st'.length + j) cc0) (st'.length + j) (pqcs (st' ++ pqrow 7 ga oa ags ga' oa' ags' unitN j)) (by simp [Act.eval]) HOA.out ⟨wr.heap.size, 0, none⟩ 1 1 [.pointer (some ⟨ga, oa + j * 7, none⟩), .pointer (some ⟨ga', oa' + j * 7, none⟩)] (by simp [Act.eval]) rfl HN.out H1.out (by decide) (by unfold maxLen; omega) (by omega) (by simp; omega) _ rfl ?_; intro g2' cap2 w5 hown5 hg5 hat5 hlt5))
          all_goals
            go_wp2_with fail
            go_roundg (na - (j + 1))
            case measure => omega
            case rel =>
              have hB6 : Below (w.heap.size + 2) wr w5 := (((Below.refl (w.heap.size + 2) wr).alloc (by omega) _).drew).grown hg5 (by simp; omega) (fun q hq => (HOA.out.lt q hq).1)
              refine ⟨j + 1, rfl, hlt, by first | rfl | simp, ?_, hBq.trans hB6⟩
              rw [pqrow_succ, ← List.append_assoc, pqcs_append]
              exact hown5
        · have hi' : ¬ (j : Int) < (na : Int) := by omega
          obtain rfl : na = j := by omega
          go_wp2_with fail
          go_loopg [5, 71] nm (fun gk v i wz => ∃ (j2 : Nat) (ext : List (Pq Nd)), gk = nm - j2 ∧ j2 ≤ nm ∧ i = .int .i64 j2 ∧ wz.ownsRow (w.heap.size + 2) 56 2 v (st'.length + na + ext.length) (pqcs (st' ++ pqrow 7 ga oa ags ga' oa' ags' unitN na ++ ext)) ∧ (∀ y ∈ ext, Ok2 W1 (fun b => b < w.heap.size + 2) y) ∧ pqSum ndSize ext = argSum (ms.take j2) ∧ (pqEq ext ↔ (ms.take j2).map meArgs = (ms'.take j2).map meArgs) ∧ Below (w.heap.size + 2) W1 wz)
          case atStart =>
            refine ⟨0, [], rfl, Nat.zero_le _, rfl, ?_, (fun _ h => by cases h), (by simp [pqSum, argSum]), (by simp [pqEq]), hBq⟩
            rw [List.append_nil, List.length_nil, Nat.add_zero]
            exact HOWN.out
          case round =>
            obtain ⟨j2, ext, rfl, hj2, rfl, hownz, hext, hesum, heeq, hBz⟩ := hrel
            obtain ⟨x0, cc0, hv⟩ : ∃ x c, u5 = .slice x (st'.length + na + ext.length) c := by
              rcases hownz.2 with ⟨h, h0⟩ | ⟨gx, cx, cur, h, _⟩
              · exact ⟨none, 0, by rw [h, h0]⟩
              · exact ⟨_, _, h⟩
            subst hv
            have hext5 : ext.length ≤ 900000 := by
              have h1 := pqSum_ge ndSize_pos ext
              have h2 := argSum_takes ms j2
              have h3 := HP.out.2.1
              have h4 := HSZ.out
              omega
            have HOZ := Lib.hid hownz
            have HEX := Lib.hid (And.intro hext (And.intro hesum heeq))
            clear hownz hext hesum heeq
            have hbz := hBz.size
            have z6 := (hBz.cell (p := ⟨xb, xo + 6, none⟩) hb).trans h6
            have y6' := (hBz.cell (p := ⟨xb', xo' + 6, none⟩) hb').trans g6
            by_cases hlt2 : j2 < nm
            · have hi2 : (j2 : Int) < (nm : Int) := by omega
              have hml : j2 < ms.length := by have := HM.out.1; omega
              have hml' : j2 < ms'.length := by have := HM.out.2.2.2.1; omega
              obtain ⟨rfl, _, hm6, _⟩ := HM.out.2.1 (by omega)
              obtain ⟨rfl, _, hm6', _⟩ := HM.out.2.2.2.2.1 (by omega)
              obtain ⟨vma, ga4, oa4, hb4, hc4, hsl4, hnd4, hax4⟩ := (HM.out.2.2.1 j2 hml).mem (HX.out.2.2.1 _ (List.getElem_mem hml))
              obtain ⟨vma', ga5, oa5, hb5, hc5, hsl5, hnd5, hax5⟩ := (HM.out.2.2.2.2.2 j2 hml').mem (HX.out.2.2.2.1 _ (List.getElem_mem hml'))
              have hlen4 : (meArgs ms[j2]).length = (meArgs ms'[j2]).length := meKey_len (by
                have := List.getElem_of_eq HX.out.2.2.2.2.2 (i := j2) (by simpa using hml)
                simpa using this)
              obtain ⟨x7, c7, rfl, hsh7⟩ := hsl4.shape
              obtain ⟨y7, d7, rfl, hsh8⟩ := hsl5.shape
              have hn45 : (meArgs ms[j2]).length ≤ 900000 := by
                have h1 := argSum_take hml
                have h2 := argSum_takes ms (j2 + 1)
                have h3 := ndSum_len (meArgs ms[j2])
                have h4 := HP.out.2.1
                have h5 := HSZ.out
                omega
              obtain ⟨n4, hn4⟩ : ∃ n4, (meArgs ms[j2]).length = n4 := ⟨_, rfl⟩
              have hn4' : (meArgs ms'[j2]).length = n4 := by rw [← hlen4, hn4]
              rw [hn4] at hc4 hn45
              rw [hn4'] at hc5
              have H4 := Lib.hid (And.intro hn4 (And.intro hn4' (And.intro hsh7 (And.intro hsh8 (And.intro hnd4 (And.intro hnd5 (And.intro hax4 hax5)))))))
              have q4 := (hBz.cell (p := ⟨gm, om + j2 * 5 + 3, none⟩) hb4).trans hc4
              have q5 := (hBz.cell (p := ⟨gm', om' + j2 * 5 + 3, none⟩) hb5).trans hc5
              clear hlen4 hn4 hn4' hsh7 hsh8 hnd4 hnd5 hax4 hax5 hsl4 hsl5
              go_wp2_with fail
              go_quiet (fail)
              go_wp2_with fail
              obtain ⟨wz, rfl⟩ : ∃ wz, wz = wr := ⟨_, rfl⟩
              go_loopg [5, 91] n4 (fun gk v i wq => ∃ i4, gk = n4 - i4 ∧ i4 ≤ n4 ∧ i = .int .i64 i4 ∧ wq.ownsRow (w.heap.size + 2) 56 2 v (st'.length + na + ext.length + i4) (pqcs (st' ++ pqrow 7 ga oa ags ga' oa' ags' unitN na ++ ext ++ pqrow 7 ga4 oa4 (meArgs ms[j2]) ga5 oa5 (meArgs ms'[j2]) unitN i4)) ∧ Below (w.heap.size + 2) W1 wq)
              case atStart =>
                refine ⟨0, rfl, Nat.zero_le _, rfl, ?_, dN_below hBz _⟩
                rw [pqrow_zero, List.append_nil]
                exact HOZ.out
              case round =>
                obtain ⟨i4, rfl, hi4, rfl, hownq, hBy⟩ := hrel
                obtain ⟨x0, cc0, hv⟩ : ∃ x c, u5 = .slice x (st'.length + na + ext.length + i4) c := by
                  rcases hownq.2 with ⟨h, h0⟩ | ⟨gx, cx, cur, h, _⟩
                  · exact ⟨none, 0, by rw [h, h0]⟩
                  · exact ⟨_, _, h⟩
                subst hv
                have HOWN := Lib.hid hownq
                clear hownq
                have hby := hBy.size
                have r4 := (hBy.cell (p := ⟨gm, om + j2 * 5 + 3, none⟩) hb4).trans hc4
                have r5 := (hBy.cell (p := ⟨gm', om' + j2 * 5 + 3, none⟩) hb5).trans hc5
                by_cases hlt4 : i4 < n4
                · have hi4' : (i4 : Int) < (n4 : Int) := by omega
                  obtain ⟨rfl, _, hm7, _⟩ := H4.out.2.2.1 (by have := H4.out.1; omega)
                  obtain ⟨rfl, _, hm8, _⟩ := H4.out.2.2.2.1 (by have := H4.out.2.1; omega)
                  have HOA := Lib.hid (World.ownsRow.drew (HOWN.out.alloc (.cells #[.pointer (some ⟨ga4, oa4 + i4 * 7, none⟩), .pointer (some ⟨ga5, oa5 + i4 * 7, none⟩)] 56)))
                  have HN : Hid (∀ i u, ([.pointer (some ⟨ga4, oa4 + i4 * 7, none⟩), .pointer (some ⟨ga5, oa5 + i4 * 7, none⟩)] : List Value)[i]? = some u → ((wr.alloc (.cells #[.pointer (some ⟨ga4, oa4 + i4 * 7, none⟩), .pointer (some ⟨ga5, oa5 + i4 * 7, none⟩)] 56)).drew).cell? ((⟨wr.heap.size, 0, none⟩ : Addr).add i) = some u) := Lib.hid (new_cells wr [.pointer (some ⟨ga4, oa4 + i4 * 7, none⟩), .pointer (some ⟨ga5, oa5 + i4 * 7, none⟩)] 56)
                  have H1 : Hid (∀ u ∈ ([.pointer (some ⟨ga4, oa4 + i4 * 7, none⟩), .pointer (some ⟨ga5, oa5 + i4 * 7, none⟩)] : List Value), u.oneCell' = true) := Lib.hid fun u hu => by
                    simp only [List.mem_cons, List.not_mem_nil, or_false] at hu
                    rcases hu with rfl | rfl <;> rfl
                  go_wp2_with fail
                  go_region_law (first | (refine step_append_lies _ rfl (.tmp 94) (.tmp 108) 57 rfl (w.heap.size + 2) 56 i0 _ 2 16 Tryd.underlying57 hi hz0 hz1 hz2 rfl (by decide) (.slice x0 (st'.length + na + ext.length + i4) cc0) (st'.length + na + ext.length + i4) (pqcs (st' ++ pqrow 7 ga oa ags ga' oa' ags' unitN na ++ ext ++ pqrow 7 ga4 oa4 (meArgs ms[j2]) ga5 oa5 (meArgs ms'[j2]) unitN i4)) (by simp [Act.eval]) HOA.out ⟨wr.heap.size, 0, none⟩ 1 1 [.pointer (some ⟨ga4, oa4 + i4 * 7, none⟩), .pointer (some ⟨ga5, oa5 + i4 * 7, none⟩)] (by simp [Act.eval]) rfl HN.out H1.out (by decide) (by unfold maxLen; omega) (by omega) (by simp; omega) _ rfl ?_; intro g2' cap2 w5 hown5 hg5 hat5 hlt5))
                  all_goals
                    go_wp2_with fail
                    go_roundg (n4 - (i4 + 1))
                    case measure => omega
                    case rel =>
                      have hB6 : Below (w.heap.size + 2) wr w5 := (((Below.refl (w.heap.size + 2) wr).alloc (by omega) _).drew).grown hg5 (by simp; omega) (fun q hq => (HOA.out.lt q hq).1)
                      refine ⟨i4 + 1, rfl, hlt4, by first | rfl | simp, ?_, hBy.trans hB6⟩
                      rw [pqrow_succ, ← List.append_assoc, pqcs_append]
                      exact hown5
                · have hi4' : ¬ (i4 : Int) < (n4 : Int) := by omega
                  obtain rfl : n4 = i4 := by omega
                  go_wp2_with fail
                  go_roundg (nm - (j2 + 1))
                  case measure => omega
                  case rel =>
                    obtain ⟨hn4, hn4', _, _, hnd4, hnd5, hax4, hax5⟩ := H4.out
                    obtain ⟨hext, hesum, heeq⟩ := HEX.out
                    refine ⟨j2 + 1, ext ++ pqrow 7 ga4 oa4 (meArgs ms[j2]) ga5 oa5 (meArgs ms'[j2]) unitN n4, rfl, hlt2, by first | rfl | simp, ?_, fun y hy => ?_, ?_, ?_, hBy⟩
                    · have h := HOWN.out
                      rw [List.length_append, pqrow_length, ← Nat.add_assoc, ← List.append_assoc]
                      exact h
                    · rcases List.mem_append.1 hy with h | h
                      · exact hext y h
                      · obtain ⟨i, hi, rfl⟩ := pqrow_mem _ _ _ _ _ _ _ _ _ h
                        have h1 : i < (meArgs ms[j2]).length := by rw [hn4]; exact hi
                        have h2 : i < (meArgs ms'[j2]).length := by rw [hn4']; exact hi
                        rw [getD_at _ h1, getD_at _ h2]
                        exact ⟨(HX.out.2.2.2.2.1.2 _ (List.getElem_mem hml)).mem (HX.out.2.2.1 _ (List.getElem_mem hml)) _ (List.getElem_mem h1), hax4 _ (List.getElem_mem h1), hax5 _ (List.getElem_mem h2), hnd4 i h1, hnd5 i h2⟩
                    · rw [pqSum_append, pqSum_row _ _ _ _ _ _ _ _ _ _ hn4, hesum, argSum_take hml]; rfl
                    · rw [pqEq_append, pqEq_row _ _ _ _ _ _ _ _ _ hn4 hn4', heeq, map_take hml, map_take hml', snoc_eq (by simp; omega)]
            · have hi2 : ¬ (j2 : Int) < (nm : Int) := by omega
              obtain rfl : nm = j2 := by omega
              go_wp2_with fail
              have hps : pqSum ndSize (st' ++ pqrow 7 ga oa ags ga' oa' ags' unitN na ++ ext) = pqSum ndSize st' + ndSum ags + argSum ms := by
                rw [pqSum_append, pqSum_append, pqSum_row _ _ _ _ _ _ _ _ _ _ HA.out.1, HEX.out.2.1, List.take_of_length_le (by rw [HM.out.1]; exact Nat.le_refl _)]; rfl
              have hle9 := argSum_le ms
              go_roundg (pqSum ndSize (st' ++ pqrow 7 ga oa ags ga' oa' ags' unitN na ++ ext))
              case measure => rw [HP.out.2.2, hps, HSZ.out]; omega
              case rel =>
                refine ⟨st' ++ pqrow 7 ga oa ags ga' oa' ags' unitN na ++ ext, rfl, by have h1 := HP.out.2.1; have h2 := HSZ.out; rw [hps]; omega, ?_, fun y hy => ?_, ?_, hBz⟩
                · have h := HOZ.out
                  rw [List.length_append, List.length_append, pqrow_length]
                  exact h
                · rcases List.mem_append.1 hy with h | h
                  · rcases List.mem_append.1 h with h | h
                    · exact HND.out.1 y (List.mem_append_left _ h)
                    · obtain ⟨i, hi, rfl⟩ := pqrow_mem _ _ _ _ _ _ _ _ _ h
                      have h1 : i < ags.length := by rw [HA.out.1]; exact hi
                      have h2 : i < ags'.length := by rw [HA.out.2.2.2.1]; exact hi
                      rw [getD_at _ h1, getD_at _ h2]
                      exact ⟨HX.out.2.2.2.2.1.1 _ (List.getElem_mem h1), HX.out.1 _ (List.getElem_mem h1), HX.out.2.1 _ (List.getElem_mem h2), HA.out.2.2.1 i h1, HA.out.2.2.2.2.2 i h2⟩
                  · exact HEX.out.1 y h
                · rw [HEQ.out, pqEq_append, pqEq_append, pqEq_row _ _ _ _ _ _ _ _ _ HA.out.1 HA.out.2.2.2.1, HEX.out.2.2, List.take_of_length_le (by rw [HM.out.1]; exact Nat.le_refl _), List.take_of_length_le (by rw [HM.out.2.2.2.1]; exact Nat.le_refl _)]
end Go.Proofs.YtoopndgdaiblpaaDoor
