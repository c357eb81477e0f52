/- tree.parts as an iterator: all parts of an expression, each with its depth. -/
import Derived.Test.YtoopndgdaiblpaaDoorParts
import Derived.Test.YtoopndgdaiblpaaDoorRange
import Derived.WalkSmall
import Derived.RangeFuncNested
import Derived.RangeFuncBound
import Derived.RangeFuncCalls
import Derived.RangeFuncLeaves
import Derived.Shelf.Abstract
import Derived.Shelf.RegionOpen
import Derived.WalkKit
import Derived.OwnWalkIn
import Derived.TacticsInMore
import Derived.LoopNIn
import Derived.LoopIn
namespace Go.Proofs.YtoopndgdaiblpaaDoor
open Go.ChangeShapes Go.WideShapes Go.ChangeAt Go.RowKit Go.Shelf
attribute [local go_sem] Oper.semAt_some

/-- All parts of a tree, in the order in which they are told, each with its depth. -/
def trav (d : Nat) : Nd → List (Nd × Nat)
  | .ex k s n names types args mems => (.ex k s n names types args mems, d) :: ((args.map (trav (d + 1))).reverse.flatten ++ (mems.map (trav (d + 1))).reverse.flatten)
  | .me k name as_ types args => (.me k name as_ types args, d) :: (args.map (trav (d + 1))).reverse.flatten

/-- What is still to come of a list. -/
def rem (st : List It) : List (Nd × Nat) := (st.map fun x => trav x.d x.t).reverse.flatten
theorem rem_append (a b : List It) : rem (a ++ b) = rem b ++ rem a := by simp [rem]
theorem rem_one (x : It) : rem [x] = trav x.d x.t := by simp [rem]
theorem trav_kids (d : Nat) (t : Nd) : trav d t = (t, d) :: ((kids (d + 1) t).map fun p => trav p.2 p.1).reverse.flatten := by
  cases t with
  | ex k s n names types args mems => rw [trav, kids]; simp [Function.comp_def]
  | me k name as_ types args => rw [trav, kids]; simp [Function.comp_def]
theorem rem_kids {ks : List It} {d : Nat} {t : Nd} (h : ks.map (fun x => (x.t, x.d)) = kids d t) : rem ks = ((kids d t).map fun p => trav p.2 p.1).reverse.flatten := by
  rw [← h, rem]; simp [Function.comp_def]
theorem flat_len {f : Nd → List (Nd × Nat)} : ∀ (l : List Nd), (∀ t ∈ l, (f t).length = ndSize t) → (l.map f).reverse.flatten.length = ndSum l
  | [], _ => rfl
  | a :: r, h => by
    have h1 := flat_len r fun t ht => h t (List.mem_cons_of_mem _ ht)
    have h2 := h a List.mem_cons_self
    rw [List.map_cons, List.reverse_cons, List.flatten_append, List.length_append, h1]
    simp only [List.flatten_cons, List.flatten_nil, List.append_nil, ndSum, List.map_cons, List.sum_cons, h2]
    omega
theorem trav_length : ∀ (t : Nd) (d : Nat), (trav d t).length = ndSize t
  | .ex k s n names types args mems, d => by
    rw [trav, ndSize_ex, List.length_cons, List.length_append, flat_len args fun t _ => trav_length t (d + 1), flat_len mems fun t _ => trav_length t (d + 1)]
    omega
  | .me k name as_ types args, d => by
    rw [trav, ndSize_me, List.length_cons, flat_len args fun t _ => trav_length t (d + 1)]
    omega

/-- What yield is handed. -/
def encIt (x : It) : Array Value := #[.agg (pcell x).toArray, .int .i64 x.d]
theorem enc_ex {x : It} (h : isEx x.t = true) : encIt x = #[.agg #[.pointer (some ⟨x.b, x.o, none⟩), .pointer none, .int .i64 x.d], .int .i64 x.d] := by
  unfold encIt pcell; rw [if_pos h]
theorem enc_me {x : It} (h : isEx x.t = false) : encIt x = #[.agg #[.pointer none, .pointer (some ⟨x.b, x.o, none⟩), .int .i64 x.d], .int .i64 x.d] := by
  unfold encIt pcell; rw [if_neg (by rw [h]; decide)]

theorem own_free {W W' : World} {base : Nat} {e : TypeId} {size : Nat} {v : Value} {n : Nat} {xs : List Value} {M : Nat → Prop} (h : W.ownsRow base e size v n xs) (hF : Free M W W') (hM : ∀ k, M k → k < base) : W'.ownsRow base e size v n xs := by
  refine ⟨h.1, ?_⟩
  rcases h.2 with hn | ⟨g, cap, cur, hv, hb, hg, rest⟩
  · exact .inl hn
  · refine .inr ⟨g, cap, cur, hv, hb, ?_, rest⟩
    rw [hF.block g (Array.getElem?_eq_some_iff.1 hg).1 (fun h => by have := hM g h; omega)]
    exact hg

theorem kids_small {d : Nat} {t : Nd} : ∀ p ∈ kids d t, p.2 = d ∧ ndSize p.1 + 1 ≤ ndSize t := by
  have key : ∀ (l : List Nd) (u : Nd), u ∈ l → ndSize u ≤ ndSum l := by
    intro l
    induction l with
    | nil => intro u h; cases h
    | cons a r ih =>
      intro u h
      simp only [ndSum, List.map_cons, List.sum_cons] at ih ⊢
      rcases List.mem_cons.1 h with rfl | h
      · omega
      · have := ih u h; omega
  intro p hp
  cases t with
  | ex k s n names types args mems =>
    rw [kids] at hp
    rw [ndSize_ex]
    rcases List.mem_append.1 hp with h | h
    · obtain ⟨u, hu, rfl⟩ := List.mem_map.1 h
      have := key mems u hu
      exact ⟨rfl, by simp only; omega⟩
    · obtain ⟨u, hu, rfl⟩ := List.mem_map.1 h
      have := key args u hu
      exact ⟨rfl, by simp only; omega⟩
  | me k name as_ types args =>
    rw [kids] at hp
    rw [ndSize_me]
    obtain ⟨u, hu, rfl⟩ := List.mem_map.1 hp
    have := key args u hu
    exact ⟨rfl, by simp only; omega⟩
theorem rem_ge : ∀ (st : List It), st.length ≤ (rem st).length
  | [] => Nat.le_refl _
  | x :: r => by
    have h1 := rem_ge r
    have h2 : rem (x :: r) = rem r ++ rem [x] := rem_append [x] r
    rw [h2, List.length_append, rem_one, trav_length, List.length_cons]
    have : 1 ≤ ndSize x.t := by cases x.t <;> simp [ndSize_ex, ndSize_me] <;> omega
    omega

theorem rem_split (st' : List It) (x : It) : rem (st' ++ [x]) = (x.t, x.d) :: (((kids (x.d + 1) x.t).map fun p => trav p.2 p.1).reverse.flatten ++ rem st') := by
  rw [rem_append, rem_one, trav_kids, List.cons_append]
theorem rem_step {total : List (Nd × Nat)} {pre st' ks : List It} {x : It} (hm : ks.map (fun x => (x.t, x.d)) = kids (x.d + 1) x.t) (ht : pre.map (fun x => (x.t, x.d)) ++ rem (st' ++ [x]) = total) :
    (pre ++ [x]).map (fun x => (x.t, x.d)) ++ rem (st' ++ ks) = total ∧ (rem (st' ++ ks)).length < (rem (st' ++ [x])).length := by
  rw [rem_split] at ht ⊢
  rw [rem_append, rem_kids hm]
  refine ⟨by rw [← ht]; simp, by simp⟩
theorem rem_prefix {total : List (Nd × Nat)} {pre st' : List It} {x : It} (ht : pre.map (fun x => (x.t, x.d)) ++ rem (st' ++ [x]) = total) : (pre ++ [x]).map (fun x => (x.t, x.d)) <+: total := by
  rw [rem_split] at ht
  exact ⟨((kids (x.d + 1) x.t).map fun p => trav p.2 p.1).reverse.flatten ++ rem st', by rw [← ht]; simp⟩

/-- How the iterator stands between two rounds. -/
def Still (A : World) (S : Nat → Prop) (t : Nd) (J : List It → World → Prop) (k : Nat) (v : Value) (wr : World) : Prop := ∃ (pre st : List It), k = (rem st).length ∧ wr.ownsRow A.heap.size 76 3 v st.length (pcells st) ∧ (∀ x ∈ st, NdAt A S x.b x.o x.t) ∧ Keeps S A wr ∧ A.heap.size ≤ wr.heap.size ∧
  pre.map (fun x => (x.t, x.d)) ++ rem st = trav 1 t ∧ (∀ x ∈ st, x.d + ndSize x.t ≤ 1000000) ∧ J pre wr

set_option maxHeartbeats 1000000 in
set_option maxRecDepth 100000 in
theorem parts_iter (n l Bn rb ro : Nat) (t : Nd) (S M : Nat → Prop) (A : World) (hbn : A.cell? ⟨Bn, 0, none⟩ = some (.pointer (some ⟨rb, ro, none⟩))) (hx : isEx t = true) (ht : NdAt A S rb ro t) (hS : ∀ k, S k → k < A.heap.size ∧ ¬ M k) (hM : ∀ k, M k → k < A.heap.size) (hsz : ndSize t ≤ 900000) (R : List It → It → Prop) (hRx : ∀ pre x, (pre ++ [x]).map (fun x => (x.t, x.d)) <+: trav 1 t → NdAt A S x.b x.o x.t → R pre x) :
    Iterates n Tryd.prog 40 #[.pointer (some ⟨Bn, 0, none⟩)] encIt (fun xs => xs.map (fun x => (x.t, x.d)) = trav 1 t) (fun pre => pre.map (fun x => (x.t, x.d)) <+: trav 1 t) R M l A := by
  intro J Jx hJ hY h0
  have HT := Lib.hid ht
  have HS := Lib.hid hS
  have HY := Lib.hid hY
  have H0 := Lib.hid h0
  have HJ := Lib.hid hJ
  have HRX := Lib.hid hRx
  clear ht hS hY h0 hJ hRx
  have hf41 : Fence.wide.fn 41 := trivial
  have hdp : Fence.wide.depth.isSome = false := rfl
  refine callsIn_of_wp Tryd.func40 rfl trivial ?_
  simp only [Tryd.ntmps40, List.size_toArray, List.length_cons, List.length_nil, Nat.reduceAdd, Nat.reduceSub, Array.replicate_succ, Array.replicate_zero, List.push_toArray, List.append_toArray, List.nil_append, List.cons_append]
  gi_wp2
  gi_loopw [3] (fun v wr => ∃ k, Still A S t J k v wr) (fun v wr => leastOf (fun k => Still A S t J k v wr))
  case atStart =>
    refine ⟨(rem [⟨rb, ro, 1, t⟩]).length, [], [⟨rb, ro, 1, t⟩], rfl, ?_, fun x h => by rw [List.mem_singleton.1 h]; exact HT.out, fun b hb => heap_old (HS.out b hb).1, by simp, by rw [rem_one]; rfl, fun x h => by rw [List.mem_singleton.1 h]; simp only; omega, HJ.out _ _ _ H0.out ((Below.refl _ _).alloc (Nat.le_refl _) _)⟩
    have h3 : pcells [⟨rb, ro, 1, t⟩] = [.pointer (some ⟨rb, ro, none⟩), .pointer none, .int .i64 1] := by simp [pcells, pcell, hx]
    rw [h3]
    exact World.ownsRow_lit A #[.pointer (some ⟨rb, ro, none⟩), .pointer none, .int .i64 1] 1 (Nat.le_refl _) (by decide) rfl
  case round =>
    have hls := leastOf_spec hrel
    obtain ⟨k0, hk0⟩ : ∃ k0, leastOf (fun k => Still A S t J k u3 wr) = k0 := ⟨_, rfl⟩
    have HK0 := Lib.hid hk0
    obtain ⟨⟨pre, st, hk, hown, hnd, hkeep, hszr, htot, hdep, hJp⟩, -⟩ := hls
    rw [hk0] at hk
    clear hk0 hrel
    have HP := Lib.hid (And.intro hnd (And.intro hkeep (And.intro htot (And.intro hdep (And.intro hJp hk)))))
    clear hnd hkeep htot hdep hJp hk
    rcases List.eq_nil_or_concat st with rfl | ⟨st', x, hcc⟩
    · obtain ⟨x0, c0, rfl⟩ : ∃ x c, u3 = .slice x 0 c := by
        rcases hown.2 with ⟨h, _⟩ | ⟨g, cap, cur, h, _⟩
        · exact ⟨_, _, h⟩
        · exact ⟨_, _, h⟩
      clear hown
      gi_wp2
      go_end0
      exact ⟨⟨_, rfl⟩, .inl ⟨pre, by have := HP.out.2.2.1; simpa [rem] using this, HP.out.2.2.2.2.1⟩⟩
    · rw [List.concat_eq_append] at hcc
      subst hcc
      obtain ⟨hnd, hkeep, htot, hdep, hJp, hk⟩ := HP.out
      have hx1 : (rem (st' ++ [x])).length ≤ 900000 := by
        have := congrArg List.length htot
        rw [List.length_append, trav_length] at this; omega
      rw [rem_append, rem_one, List.length_append, trav_length] at hx1
      have hst9 := rem_ge st'
      have hdx := hdep x (by simp)
      rw [List.length_append, List.length_singleton, pcells_append] at hown
      obtain ⟨g, cap, hv, hg1, hg2⟩ := hown.form (by omega)
      subst hv
      have hpop := ownsRow_pop (last := pcells [x]) (by rw [pcells_length]; omega) hown
      have hcap : st'.length + 1 ≤ cap ∧ cap ≤ maxLen := by
        rcases hown.2 with ⟨h, _⟩ | ⟨g2, cap2, cur, hv, _, _, hx, hy, _⟩
        · cases h
        · cases hv; exact ⟨hx, hy⟩
      unfold maxLen at hcap
      obtain ⟨hc1, hc2⟩ := hcap
      have hcl : ∀ j, j < 3 → wr.cell? ⟨g, st'.length * 3 + j, none⟩ = (pcell x)[j]? := fun j hj => by
        rw [hown.cellAt (st'.length * 3 + j) (by omega), List.getElem?_append_right (by rw [pcells_length]; omega), pcells_length, show st'.length * 3 + j - 3 * st'.length = j from by omega]
        simp [pcells]
      have c0 := hcl 0 (by omega)
      have c1 := hcl 1 (by omega)
      have c2 := hcl 2 (by omega)
      rw [Nat.add_zero] at c0
      obtain ⟨xb, xo, xd, xt⟩ := x
      simp only at hdx
      have hst5 : st'.length ≤ 900000 := by omega
      have hdx2 : xd ≤ 1000000 := by omega
      have hbd : st'.length + ndSize xt ≤ 2000000 := by simp only at hx1; omega
      have HQ := Lib.hid (And.intro hpop (And.intro hst9 (And.intro hbd hdx)))
      have hxt := hnd ⟨xb, xo, xd, xt⟩ (by simp)
      have HXT := Lib.hid hxt
      clear hcl hpop hown hx1 hst9 hbd hdx hnd hkeep htot hdep hJp hk hxt
      by_cases hex : isEx xt = true
      · have hp : pcell ⟨xb, xo, xd, xt⟩ = [.pointer (some ⟨xb, xo, none⟩), .pointer none, .int .i64 xd] := by unfold pcell; rw [if_pos hex]
        rw [hp] at c0 c1 c2
        simp only [List.getElem?_cons_zero, List.getElem?_cons_succ] at c0 c1 c2
        clear hp
        obtain ⟨fn, tmps, assign, body, hy, hR⟩ := HY.out pre ⟨xb, xo, xd, xt⟩ (wr.alloc (.cells #[.pointer (some ⟨xb, xo, none⟩), .pointer none, .int .i64 xd] 76)) (HJ.out _ _ _ HP.out.2.2.2.2.1 ((Below.refl _ _).alloc hszr _)) (HRX.out _ _ (rem_prefix HP.out.2.2.1) HXT.out)
        rw [enc_ex hex] at hy
        have HR := Lib.hid hR
        clear hR
        gi_wp2
        refine HR.out.mono ?_
        rintro e W2 (⟨rfl, hJ2, hF2⟩ | ⟨rfl, hJx2⟩)
        · have hFs := hF2.size
          simp only [World.size_alloc] at hFs
          have hbx := (hF2.block wr.heap.size (by simp) (fun h => by have := hM _ h; omega)).trans (heap_last rfl)
          have e0 := Lib.cell_of_heap hbx 0
          have e1 := Lib.cell_of_heap hbx 1
          have e2 := Lib.cell_of_heap hbx 2
          simp only [List.getElem?_toArray, List.getElem?_cons_zero, List.getElem?_cons_succ] at e0 e1 e2
          have hk2 : Keeps S A W2 := fun b hb => by
            obtain ⟨h1, h2⟩ := HS.out b hb
            rw [hF2.block b (by simp; omega) h2, heap_old (by omega), HP.out.2.1 b hb]
          have CB : Hid (Calls Tryd.prog 41 #[.slice (some ⟨g, 0, none⟩) st'.length cap, .agg #[.pointer (some ⟨xb, xo, none⟩), .pointer none, .int .i64 xd]] W2 fun e W' => ∃ v' ks, e = .returned v' ∧ W'.ownsRow A.heap.size 76 3 v' (st' ++ ks).length (pcells (st' ++ ks)) ∧ Below A.heap.size W2 W' ∧ (∀ x ∈ ks, NdAt W2 S x.b x.o x.t) ∧ ks.map (fun x => (x.t, x.d)) = kids (xd + 1) xt) :=
            Lib.hid (below_ex A.heap.size W2 _ st' S xb xo xd xt (by omega) (own_free (HQ.out.1.alloc _) hF2 hM) hex (HXT.out.carry hk2 fun _ h => h) (fun k h => (HS.out k h).1) hdx2 HQ.out.2.2.1)
          have HK2 := Lib.hid hk2
          have HJ2 := Lib.hid hJ2
          clear hbx hk2 hJ2
          gi_wp2_with (gi_at_call 41; refine (callsIn_wide.2 CB.out).mono ?_; rintro e3 W3 ⟨v', ks, rfl, ho3, hB3, hn3, hm3⟩; have H3 := Lib.hid (And.intro ho3 (And.intro hn3 hm3)); clear ho3 hn3 hm3)
          have hstep := rem_step (pre := pre) (st' := st') H3.out.2.2 HP.out.2.2.1
          have hnew : Still A S t J (rem (st' ++ ks)).length v' W3 := by
            refine ⟨pre ++ [⟨xb, xo, xd, xt⟩], st' ++ ks, rfl, H3.out.1, fun y hy => ?_, fun b hb => ?_, ?_, hstep.1, fun y hy => ?_, HJ.out _ _ _ HJ2.out hB3⟩
            · rcases List.mem_append.1 hy with h | h
              · exact HP.out.1 y (List.mem_append_left _ h)
              · exact (H3.out.2.1 y h).carry (fun b hb => (HK2.out b hb).symm) (fun _ h => h)
            · rw [hB3.block b (HS.out b hb).1]; exact HK2.out b hb
            · have := hB3.size; omega
            · rcases List.mem_append.1 hy with h | h
              · exact HP.out.2.2.2.1 y (List.mem_append_left _ h)
              · have h1 : (y.t, y.d) ∈ kids (xd + 1) xt := by rw [← H3.out.2.2]; exact List.mem_map_of_mem h
                have h2 := kids_small _ h1
                have h3 := HQ.out.2.2.2
                simp only at h2
                omega
          have HNEW := Lib.hid (And.intro hnew hstep.2)
          clear hnew hstep
          go_roundw
          case rel => exact ⟨_, HNEW.out.1⟩
          case measure =>
            have h1 := (leastOf_spec (p := fun k => Still A S t J k v' W3) ⟨_, HNEW.out.1⟩).2 _ HNEW.out.1
            have h2 := HNEW.out.2
            have h3 := HP.out.2.2.2.2.2
            rw [HK0.out, h3]
            omega
        · gi_wp2
          refine bodyPost_ret (results_none rfl _ _ _) rfl ?_
          exact ⟨⟨_, rfl⟩, .inr ⟨pre ++ [⟨xb, xo, xd, xt⟩], rem_prefix HP.out.2.2.1, hJx2⟩⟩
      · have hex : isEx xt = false := by simpa using hex
        have hp : pcell ⟨xb, xo, xd, xt⟩ = [.pointer none, .pointer (some ⟨xb, xo, none⟩), .int .i64 xd] := by unfold pcell; rw [if_neg (by rw [hex]; decide)]
        rw [hp] at c0 c1 c2
        simp only [List.getElem?_cons_zero, List.getElem?_cons_succ] at c0 c1 c2
        clear hp
        obtain ⟨fn, tmps, assign, body, hy, hR⟩ := HY.out pre ⟨xb, xo, xd, xt⟩ (wr.alloc (.cells #[.pointer none, .pointer (some ⟨xb, xo, none⟩), .int .i64 xd] 76)) (HJ.out _ _ _ HP.out.2.2.2.2.1 ((Below.refl _ _).alloc hszr _)) (HRX.out _ _ (rem_prefix HP.out.2.2.1) HXT.out)
        rw [enc_me hex] at hy
        have HR := Lib.hid hR
        clear hR
        gi_wp2
        refine HR.out.mono ?_
        rintro e W2 (⟨rfl, hJ2, hF2⟩ | ⟨rfl, hJx2⟩)
        · have hFs := hF2.size
          simp only [World.size_alloc] at hFs
          have hbx := (hF2.block wr.heap.size (by simp) (fun h => by have := hM _ h; omega)).trans (heap_last rfl)
          have e0 := Lib.cell_of_heap hbx 0
          have e1 := Lib.cell_of_heap hbx 1
          have e2 := Lib.cell_of_heap hbx 2
          simp only [List.getElem?_toArray, List.getElem?_cons_zero, List.getElem?_cons_succ] at e0 e1 e2
          have hk2 : Keeps S A W2 := fun b hb => by
            obtain ⟨h1, h2⟩ := HS.out b hb
            rw [hF2.block b (by simp; omega) h2, heap_old (by omega), HP.out.2.1 b hb]
          have CB : Hid (Calls Tryd.prog 41 #[.slice (some ⟨g, 0, none⟩) st'.length cap, .agg #[.pointer none, .pointer (some ⟨xb, xo, none⟩), .int .i64 xd]] W2 fun e W' => ∃ v' ks, e = .returned v' ∧ W'.ownsRow A.heap.size 76 3 v' (st' ++ ks).length (pcells (st' ++ ks)) ∧ Below A.heap.size W2 W' ∧ (∀ x ∈ ks, NdAt W2 S x.b x.o x.t) ∧ ks.map (fun x => (x.t, x.d)) = kids (xd + 1) xt) :=
            Lib.hid (below_me A.heap.size W2 _ st' S xb xo xd xt (by omega) (own_free (HQ.out.1.alloc _) hF2 hM) hex (HXT.out.carry hk2 fun _ h => h) (fun k h => (HS.out k h).1) hdx2 HQ.out.2.2.1)
          have HK2 := Lib.hid hk2
          have HJ2 := Lib.hid hJ2
          clear hbx hk2 hJ2
          gi_wp2_with (gi_at_call 41; refine (callsIn_wide.2 CB.out).mono ?_; rintro e3 W3 ⟨v', ks, rfl, ho3, hB3, hn3, hm3⟩; have H3 := Lib.hid (And.intro ho3 (And.intro hn3 hm3)); clear ho3 hn3 hm3)
          have hstep := rem_step (pre := pre) (st' := st') H3.out.2.2 HP.out.2.2.1
          have hnew : Still A S t J (rem (st' ++ ks)).length v' W3 := by
            refine ⟨pre ++ [⟨xb, xo, xd, xt⟩], st' ++ ks, rfl, H3.out.1, fun y hy => ?_, fun b hb => ?_, ?_, hstep.1, fun y hy => ?_, HJ.out _ _ _ HJ2.out hB3⟩
            · rcases List.mem_append.1 hy with h | h
              · exact HP.out.1 y (List.mem_append_left _ h)
              · exact (H3.out.2.1 y h).carry (fun b hb => (HK2.out b hb).symm) (fun _ h => h)
            · rw [hB3.block b (HS.out b hb).1]; exact HK2.out b hb
            · have := hB3.size; omega
            · rcases List.mem_append.1 hy with h | h
              · exact HP.out.2.2.2.1 y (List.mem_append_left _ h)
              · have h1 : (y.t, y.d) ∈ kids (xd + 1) xt := by rw [← H3.out.2.2]; exact List.mem_map_of_mem h
                have h2 := kids_small _ h1
                have h3 := HQ.out.2.2.2
                simp only at h2
                omega
          have HNEW := Lib.hid (And.intro hnew hstep.2)
          clear hnew hstep
          go_roundw
          case rel => exact ⟨_, HNEW.out.1⟩
          case measure =>
            have h1 := (leastOf_spec (p := fun k => Still A S t J k v' W3) ⟨_, HNEW.out.1⟩).2 _ HNEW.out.1
            have h2 := HNEW.out.2
            have h3 := HP.out.2.2.2.2.2
            rw [HK0.out, h3]
            omega
        · gi_wp2
          refine bodyPost_ret (results_none rfl _ _ _) rfl ?_
          exact ⟨⟨_, rfl⟩, .inr ⟨pre ++ [⟨xb, xo, xd, xt⟩], rem_prefix HP.out.2.2.1, hJx2⟩⟩
end Go.Proofs.YtoopndgdaiblpaaDoor
