/- tree.CheckType, told at the types that there are here. -/
import Derived.Test.YtoopndgdaiblpaaDoorTyF
import Derived.Test.YtoopndgdaiblpaaDoorEqT
namespace Go.Proofs.YtoopndgdaiblpaaDoor
open Go.ChangeShapes Go.WideShapes Go.ChangeAt Go.RowKit

/-- A type all of whose parts are shaped so. -/
inductive KT : Ty → Prop
  | mk {k : Int} {s : ByteArray} {args : List Ty} {labels : List ByteArray} {op : Bool} (r : Bool) (h : Shaped1 (.mk k s args labels op) r) (ha : ∀ x ∈ args, KT x) : KT (.mk k s args labels op)
/-- A type that may be, whatever its depth. -/
inductive TyMay : Ty → Prop
  | mk {k : Int} {s : ByteArray} {args : List Ty} {labels : List ByteArray} {op : Bool} (h : Shaped1 (.mk k s args labels op) true) (ha : ∀ x ∈ args, TyMay x) : TyMay (.mk k s args labels op)
/-- How deep a type is. -/
def tyDeep : Ty → Nat
  | .mk _ _ args _ _ => 1 + (args.map tyDeep).foldl max 0

theorem foldl_max (l : List Nat) : ∀ a : Nat, l.foldl max a = max a (l.foldl max 0) := by
  induction l with
  | nil => intro a; simp
  | cons b r ih =>
    intro a
    rw [List.foldl_cons, List.foldl_cons, ih (max a b), ih (max 0 b)]
    omega
theorem max_lt_iff (l : List Nat) (n : Nat) : n < l.foldl max 0 ↔ ∃ x ∈ l, n < x := by
  induction l with
  | nil => simp
  | cons b r ih =>
    rw [List.foldl_cons, foldl_max]
    constructor
    · intro h
      by_cases hb : n < b
      · exact ⟨b, by simp, hb⟩
      · obtain ⟨x, hx, h2⟩ := ih.1 (by omega)
        exact ⟨x, by simp [hx], h2⟩
    · rintro ⟨x, hx, h2⟩
      rcases List.mem_cons.1 hx with rfl | hx
      · omega
      · have := ih.2 ⟨x, hx, h2⟩; omega
theorem tyDeep_mk (k : Int) (s : ByteArray) (args : List Ty) (labels : List ByteArray) (op : Bool) : tyDeep (.mk k s args labels op) = 1 + (args.map tyDeep).foldl max 0 := by rw [tyDeep]
theorem tyDeep_arg {k : Int} {s : ByteArray} {args : List Ty} {labels : List ByteArray} {op : Bool} {x : Ty} (h : x ∈ args) : tyDeep x < tyDeep (.mk k s args labels op) := by
  rw [tyDeep_mk]
  by_cases h0 : tyDeep x = 0
  · omega
  · have := (max_lt_iff (args.map tyDeep) (tyDeep x - 1)).2 ⟨tyDeep x, List.mem_map_of_mem h, by omega⟩
    omega
theorem tyDeep_pos (t : Ty) : 1 ≤ tyDeep t := by cases t; rw [tyDeep_mk]; omega

theorem shaped_no {t : Ty} (h1 : Shaped1 t true) (h2 : Shaped1 t false) : False := by
  obtain ⟨k, s, args, labels, op, rfl, hm⟩ := h1
  obtain ⟨_, _, _, _, _, e, hm2⟩ := h2
  cases e
  obtain ⟨n, hn⟩ : ∃ n, args.length = n := ⟨_, rfl⟩
  rw [hn] at hm hm2
  clear hn
  simp only [shapes, List.mem_cons, Prod.mk.injEq, List.not_mem_nil, or_false, Bool.false_eq_true, and_false, false_or, Bool.true_eq_false, and_true] at hm hm2
  rcases hm2 with ⟨rfl, rfl, rfl, rfl, rfl⟩ | ⟨rfl, rfl, rfl, rfl, rfl⟩
  · simp at hm
  · simp at hm
theorem may_head {t : Ty} (h : TyMay t) : Shaped1 t true := by cases h; assumption

/-- A type that is still to be looked at. -/
structure Tq where
  b : Nat
  o : Nat
  d : Nat
  t : Ty
def tqc (x : Tq) : List Value := [.pointer (some ⟨x.b, x.o, none⟩), .int .i64 x.d]
def tqcs (l : List Tq) : List Value := (l.map tqc).flatten
theorem tqcs_append (l m : List Tq) : tqcs (l ++ m) = tqcs l ++ tqcs m := by simp [tqcs]
theorem tqcs_length (l : List Tq) : (tqcs l).length = l.length * 2 := by
  induction l with
  | nil => rfl
  | cons a r ih =>
    have : tqcs (a :: r) = tqc a ++ tqcs r := rfl
    rw [this, List.length_append, ih]; simp [tqc]; omega
def tqrow (g o d : Nat) (l : List Ty) (n : Nat) : List Tq := (List.range n).map fun i => ⟨g, o + i * 5, d, l.getD i tInt⟩
theorem tqrow_zero (g o d : Nat) (l : List Ty) : tqrow g o d l 0 = [] := rfl
theorem tqrow_succ (g o d : Nat) (l : List Ty) (n : Nat) : tqrow g o d l (n + 1) = tqrow g o d l n ++ [⟨g, o + n * 5, d, l.getD n tInt⟩] := by simp [tqrow, List.range_succ]
theorem tqrow_length (g o d : Nat) (l : List Ty) (n : Nat) : (tqrow g o d l n).length = n := by simp [tqrow]
theorem tqrow_mem {g o d : Nat} {l : List Ty} {n : Nat} (hl : l.length = n) {x : Tq} : x ∈ tqrow g o d l n ↔ ∃ i, ∃ h : i < l.length, x = ⟨g, o + i * 5, d, l[i]⟩ := by
  constructor
  · intro h
    obtain ⟨i, hi, rfl⟩ := List.mem_map.1 h
    have hi := List.mem_range.1 hi
    exact ⟨i, by omega, by rw [getD_at _ (by omega)]⟩
  · rintro ⟨i, h, rfl⟩
    exact List.mem_map.2 ⟨i, List.mem_range.2 (by omega), by rw [getD_at _ h]⟩
def tqSum (l : List Tq) : Nat := (l.map fun x => tySize x.t).sum
theorem tqSum_append (l m : List Tq) : tqSum (l ++ m) = tqSum l + tqSum m := by simp [tqSum]
theorem tqSum_row (g o d : Nat) (l : List Ty) (n : Nat) (h : l.length = n) : tqSum (tqrow g o d l n) = tySum l := by
  have e : (tqrow g o d l n).map (fun x => tySize x.t) = ((List.range l.length).map (fun i => l.getD i tInt)).map tySize := by
    rw [h]; simp [tqrow, Function.comp_def]
  unfold tqSum tySum
  rw [e, range_getD]
theorem tqSum_ge : ∀ l : List Tq, l.length ≤ tqSum l
  | [] => Nat.le_refl _
  | x :: r => by
    have h1 := tqSum_ge r
    have := tySize_pos x.t
    simp only [tqSum, List.map_cons, List.sum_cons, List.length_cons] at h1 ⊢
    omega

/-- What CheckType tells. -/
noncomputable def errT (t : Ty) : Int := open Classical in if TyMay t then (if 200 < tyDeep t then 4 else 0) else 2
theorem errT_no {t : Ty} (h : ¬ TyMay t) : errT t = 2 := by unfold errT; rw [if_neg h]
theorem errT_deep {t : Ty} (h : TyMay t) (hd : 200 < tyDeep t) : errT t = 4 := by unfold errT; rw [if_pos h, if_pos hd]
theorem errT_ok {t : Ty} (h : TyMay t) (hd : ¬ 200 < tyDeep t) : errT t = 0 := by unfold errT; rw [if_pos h, if_neg hd]

def tyDone (st : List Tq) : Prop := ∀ x ∈ st, TyMay x.t
def tyLate (st : List Tq) : Prop := ∃ x ∈ st, 200 < x.d - 1 + tyDeep x.t
theorem tyLate_append (l m : List Tq) : tyLate (l ++ m) ↔ tyLate l ∨ tyLate m := by
  unfold tyLate
  constructor
  · rintro ⟨x, hx, h⟩
    rcases List.mem_append.1 hx with h1 | h1
    · exact .inl ⟨x, h1, h⟩
    · exact .inr ⟨x, h1, h⟩
  · rintro (⟨x, hx, h⟩ | ⟨x, hx, h⟩)
    · exact ⟨x, List.mem_append_left _ hx, h⟩
    · exact ⟨x, List.mem_append_right _ hx, h⟩
theorem tyDone_append (l m : List Tq) : tyDone (l ++ m) ↔ tyDone l ∧ tyDone m := by
  unfold tyDone
  constructor
  · exact fun h => ⟨fun x hx => h x (List.mem_append_left _ hx), fun x hx => h x (List.mem_append_right _ hx)⟩
  · rintro ⟨h1, h2⟩ x hx
    rcases List.mem_append.1 hx with h | h
    · exact h1 x h
    · exact h2 x h
theorem tyLate_kids {b o d g oa : Nat} {k : Int} {s : ByteArray} {args : List Ty} {labels : List ByteArray} {op : Bool} {n : Nat} (hl : args.length = n) (hd : 1 ≤ d) : tyLate [⟨b, o, d, .mk k s args labels op⟩] ↔ 200 < d ∨ tyLate (tqrow g oa (d + 1) args n) := by
  unfold tyLate
  simp only [List.mem_singleton, exists_eq_left, tyDeep_mk]
  constructor
  · intro h
    by_cases h2 : 200 < d
    · exact .inl h2
    · right
      obtain ⟨m, hm, h3⟩ := (max_lt_iff (args.map tyDeep) (200 - d)).1 (by omega)
      obtain ⟨x, hx, rfl⟩ := List.mem_map.1 hm
      obtain ⟨i, hi, rfl⟩ := List.getElem_of_mem hx
      refine ⟨_, (tqrow_mem hl).2 ⟨i, hi, rfl⟩, ?_⟩
      show 200 < d + 1 - 1 + tyDeep args[i]
      rw [Nat.add_sub_cancel]; omega
  · rintro (h | ⟨x, hx, h⟩)
    · omega
    · obtain ⟨i, hi, rfl⟩ := (tqrow_mem hl).1 hx
      have h : 200 < d + 1 - 1 + tyDeep args[i] := h
      rw [Nat.add_sub_cancel] at h
      have := (max_lt_iff (args.map tyDeep) (200 - d)).2 ⟨tyDeep args[i], List.mem_map_of_mem (List.getElem_mem hi), by have := tyDeep_pos args[i]; omega⟩
      omega
theorem tyDone_kids {b o d g oa : Nat} {k : Int} {s : ByteArray} {args : List Ty} {labels : List ByteArray} {op : Bool} {n : Nat} (hl : args.length = n) (h : Shaped1 (.mk k s args labels op) true) : tyDone [⟨b, o, d, .mk k s args labels op⟩] ↔ tyDone (tqrow g oa (d + 1) args n) := by
  unfold tyDone
  simp only [List.mem_singleton, forall_eq]
  constructor
  · intro hm x hx
    obtain ⟨i, hi, rfl⟩ := (tqrow_mem hl).1 hx
    cases hm with
    | mk _ ha => exact ha _ (List.getElem_mem hi)
  · intro hk
    exact .mk h fun x hx => by
      obtain ⟨i, hi, rfl⟩ := List.getElem_of_mem hx
      exact hk _ ((tqrow_mem (g := g) (o := oa) (d := d + 1) hl).2 ⟨i, hi, rfl⟩)

theorem tqInfo : (Tryd.prog.info? 67).map (fun i => (i.zero, i.size, i.bytes)) = some (some (.agg #[.pointer none, .int .i64 0]), 2, 16) := by kernel_rfl

def ctGives (w : World) (t : Ty) (e : Ending) (w' : World) : Prop := e = .returned (.int .i64 (errT t)) ∧ Below w.heap.size w w'

set_option maxHeartbeats 4000000 in
set_option maxRecDepth 100000 in
theorem checkType_any (T : TypeId) (ev : Value) (k : Int) (s : ByteArray) (va vl : Value) (op : Bool) (w : World) (t : Ty) (hE : ErrAt T ev w) (hsz : tySize t ≤ 900000) (hk : KT t)
    (ht : TyAt (w.alloc (.cells #[.int .i64 k, .string s, va, vl, .bool op] 37)) (fun b => b < w.heap.size + 1) w.heap.size 0 t) :
    Calls Tryd.prog 16 #[.agg #[.int .i64 k, .string s, va, vl, .bool op]] w (ctGives w t) := by
  obtain ⟨i0, hi, hz0, hz1, hz2⟩ := info_parts tqInfo
  have HT := Lib.hid (And.intro ht (And.intro hk hE))
  clear ht hk hE
  go_enter Tryd.func16, Tryd.ntmps16
  go_wp2_with fail
  obtain ⟨W1, hW1⟩ : ∃ W1, w.alloc (.cells #[.int .i64 k, .string s, va, vl, .bool op] 37) = W1 := ⟨_, rfl⟩
  rw [hW1]
  have hs1 : W1.heap.size = w.heap.size + 1 := by rw [← hW1]; simp
  have hBw1 : Below w.heap.size w W1 := by rw [← hW1]; exact (Below.refl _ w).alloc (Nat.le_refl _) _
  have HW := HT.out
  rw [hW1] at HW
  have HT1 := Lib.hid HW
  clear HW HT hW1
  go_loopg [3, 4] (tySize t) (fun gk dv v wr => ∃ (st : List Tq) (D : Bool), gk = tqSum st ∧ gk ≤ 900000 ∧ dv = .bool D ∧ wr.ownsRow (w.heap.size + 1) 67 2 v st.length (tqcs st) ∧ (∀ x ∈ st, TyAt W1 (fun b => b < w.heap.size + 1) x.b x.o x.t ∧ KT x.t ∧ 1 ≤ x.d ∧ x.d + tySize x.t ≤ 900001) ∧ (TyMay t ↔ tyDone st) ∧ (200 < tyDeep t ↔ D = true ∨ tyLate st) ∧ Below (w.heap.size + 1) W1 wr)
  case atStart =>
    refine ⟨[⟨w.heap.size, 0, 1, t⟩], false, by simp [tqSum], hsz, rfl, ?_, fun x hx => by rw [List.mem_singleton.1 hx]; exact ⟨HT1.out.1, HT1.out.2.1, Nat.le_refl _, by simp only; omega⟩, by simp [tyDone], by simp [tyLate], (Below.refl _ _).alloc (by omega) _⟩
    have := World.ownsRow_lit (base := w.heap.size + 1) (e := 67) (size := 2) W1 #[.pointer (some ⟨w.heap.size, 0, none⟩), .int .i64 1] 1 (by omega) (by decide) rfl
    rw [hs1] at this
    simpa [tqcs, tqc] using this
  case round =>
    obtain ⟨st, D, rfl, hle, rfl, hown, hnd, hmay, hlate, hB⟩ := hrel
    have hbw := hB.size
    have HND := Lib.hid (And.intro hnd (And.intro hmay hlate))
    clear hnd hmay hlate
    rcases List.eq_nil_or_concat st with rfl | ⟨st', x, hcc⟩
    · obtain ⟨x0, c0, rfl⟩ : ∃ x c, u4 = .slice x 0 c := by
        rcases hown.2 with ⟨h, _⟩ | ⟨g, cap, cur, h, _⟩
        · exact ⟨_, _, h⟩
        · exact ⟨_, _, h⟩
      clear hown
      have hm : TyMay t := HND.out.2.1.2 (fun _ h => by cases h)
      cases D with
      | true =>
        have HX := Lib.hid (errT_deep hm (HND.out.2.2.2 (.inl rfl)))
        clear hm
        go_wp2_with fail
        go_ret
        exact ⟨by rw [HX.out]; rfl, hBw1.trans (hB.mono (by omega))⟩
      | false =>
        have HX := Lib.hid (errT_ok hm (fun h => by rcases HND.out.2.2.1 h with h | ⟨_, h, _⟩ <;> cases h))
        clear hm
        go_wp2_with fail
        go_ret
        exact ⟨by rw [HX.out]; rfl, hBw1.trans (hB.mono (by omega))⟩
    · rw [List.concat_eq_append] at hcc
      subst hcc
      have hge := tqSum_ge st'
      have hxs := tySize_pos x.t
      have hsum : tqSum (st' ++ [x]) = tqSum st' + tySize x.t := by rw [tqSum_append]; simp [tqSum]
      rw [hsum] at hle
      rw [List.length_append, List.length_singleton, tqcs_append] at hown
      obtain ⟨g, cap, hv, hg1, hg2⟩ := hown.form (by omega)
      subst hv
      have hpop := ownsRow_pop (last := tqcs [x]) (tqcs_length st') hown
      have hcap : st'.length + 1 ≤ cap ∧ cap ≤ maxLen := by
        rcases hown.2 with ⟨h, _⟩ | ⟨g2, cap2, cur, hv, _, _, hx, hy, _⟩
        · cases h
        · cases hv; exact ⟨hx, hy⟩
      unfold maxLen at hcap
      obtain ⟨hc1, hc2⟩ := hcap
      have hcl : ∀ j, j < 2 → wr.cell? ⟨g, st'.length * 2 + j, none⟩ = (tqc x)[j]? := fun j hj => by
        rw [hown.cellAt (st'.length * 2 + j) (by omega), List.getElem?_append_right (by rw [tqcs_length]; omega), tqcs_length, show st'.length * 2 + j - st'.length * 2 = j from by omega]
        simp [tqcs]
      have c0 := hcl 0 (by omega)
      have c1 := hcl 1 (by omega)
      rw [Nat.add_zero] at c0
      obtain ⟨hn1, hkx, hd1, hd2⟩ := HND.out.1 x (by simp)
      obtain ⟨xb, xo, xd, xt⟩ := x
      simp only at hn1 hkx hd1 hd2 hle hsum hxs
      simp only [tqc, List.getElem?_cons_zero, List.getElem?_cons_succ] at c0 c1
      have hst5 : st'.length ≤ 900000 := by omega
      have hxd : xd ≤ 900000 := by omega
      obtain ⟨r, hr⟩ : ∃ r, Shaped1 xt r := by cases hkx with | mk r h _ => exact ⟨r, h⟩
      have CF : Hid (∀ V, Below (w.heap.size + 1) W1 V → Calls Tryd.prog 28 #[.pointer (some ⟨xb, xo, none⟩)] V fun e w' => e = .returned (.bool r) ∧ Drawn V w') := Lib.hid fun V hV => by
        have hgl := HT1.out.2.2.2
        refine fitsType_any T ev (fun b => b < w.heap.size + 1) xb xo V xt r ⟨(hV.cell (p := ⟨_, 0, none⟩) (by simp only; omega)).trans ((hBw1.cell (p := ⟨_, 0, none⟩) hgl).trans HT1.out.2.2.1), by have := hV.size; omega⟩ (hn1.carry (keeps_of hV fun _ h => h) fun _ h => h) hr
      have HP := Lib.hid (And.intro hpop (And.intro hle hsum))
      clear hcl hown hpop hle hsum hge
      cases r with
      | false =>
        have HX := Lib.hid (errT_no (t := t) fun h => shaped_no (may_head (HND.out.2.1.1 h ⟨xb, xo, xd, xt⟩ (by simp))) hr)
        clear hn1 hkx hr
        go_wp2_with (go_at_call 28; refine (CF.out _ (hB.alloc (by omega) _)).mono ?_; rintro e9 w9 ⟨rfl, q9, rfl⟩)
        go_ret
        exact ⟨by rw [HX.out]; rfl, hBw1.trans ((dN_below (hB.alloc (by omega) _) _).mono (by omega))⟩
      | true =>
        obtain ⟨hb, h0, h1, h2, h3, h4, ha, hl, hs, hls⟩ := hn1
        rename_i k1 s1 ags lbs op1 va1 vl1 ga oa gl ol hJ1
        obtain ⟨x3, e3, rfl, hsh⟩ := ha.shape
        obtain ⟨na, hna⟩ : ∃ na, ags.length = na := ⟨_, rfl⟩
        have hka : ∀ x ∈ ags, KT x := by cases hkx with | mk _ _ h => exact h
        have hsA : tySize (.mk k1 s1 ags lbs op1) = 1 + tySum ags := tySize_mk ..
        have hna5 : na ≤ 900000 := by have := tySum_len ags; omega
        have hMAY : Hid (TyMay t ↔ tyDone (st' ++ tqrow ga oa (xd + 1) ags na)) := Lib.hid (by rw [HND.out.2.1, tyDone_append, tyDone_append, tyDone_kids hna hr])
        have hLATE : Hid (200 < tyDeep t ↔ (D = true ∨ 200 < xd) ∨ tyLate (st' ++ tqrow ga oa (xd + 1) ags na)) := Lib.hid (by
          rw [HND.out.2.2, tyLate_append, tyLate_append, tyLate_kids (g := ga) (oa := oa) hna hd1]
          constructor
          · rintro (h | h | h | h)
            · exact .inl (.inl h)
            · exact .inr (.inl h)
            · exact .inl (.inr h)
            · exact .inr (.inr h)
          · rintro ((h | h) | h | h)
            · exact .inl h
            · exact .inr (.inr (.inl h))
            · exact .inr (.inl h)
            · exact .inr (.inr (.inr h)))
        have HA := Lib.hid (And.intro hna (And.intro hsh (And.intro hs (And.intro hka hsA))))
        rw [hna] at h2
        have w2 := (hB.cell (p := ⟨xb, xo + 2, none⟩) hb).trans h2
        have hxb : xb < wr.heap.size := by omega
        have hHX : Hid (Below (w.heap.size + 1) W1 wr) := Lib.hid hB
        clear hs hls hl ha hsh hna hka hsA hkx hr h0 h1 h3 h4
        obtain ⟨wo, rfl⟩ : ∃ wo, wo = wr := ⟨_, rfl⟩
        cases D with
        | true =>
          go_wp2_with (go_at_call 28; refine (CF.out _ (hB.alloc (by omega) _)).mono ?_; rintro e9 w9 ⟨rfl, q9, rfl⟩)
          go_loopg [4, 39] na (fun gk v i wq => ∃ j, gk = na - j ∧ j ≤ na ∧ i = .int .i64 j ∧ wq.ownsRow (w.heap.size + 1) 67 2 v (st'.length + j) (tqcs (st' ++ tqrow ga oa (xd + 1) ags j)) ∧ v.ownBlock ≠ some wo.heap.size ∧ wq.heap[wo.heap.size]? = some (.cells #[.pointer (some ⟨xb, xo, none⟩), .int .i64 xd] 67) ∧ Below (w.heap.size + 1) wo wq)
          case atStart =>
            refine ⟨0, rfl, Nat.zero_le _, rfl, ?_, ?_, ?_, ?_⟩
            · rw [tqrow_zero, List.append_nil]
              exact (HP.out.1.alloc _)
            · simp only [Value.ownBlock, ne_eq, Option.some.injEq]; omega
            · exact heap_last rfl
            · exact dN_below ((Below.refl _ _).alloc (by omega) _) _
          case round =>
            obtain ⟨j, rfl, hj, rfl, hownq, hown6, hbx, hBq⟩ := hrel
            obtain ⟨x0, cc0, hv⟩ : ∃ x c, u4 = .slice x (st'.length + j) c := by
              rcases hownq.2 with ⟨h, h0⟩ | ⟨gx, cx, cur, h, _⟩
              · exact ⟨none, 0, by rw [h, h0]⟩
              · exact ⟨_, _, h⟩
            subst hv
            have HOWN := Lib.hid hownq
            have HBX := Lib.hid (And.intro hbx hown6)
            clear hownq hown6
            have hbq := hBq.size
            have q2 := (hBq.cell (p := ⟨xb, xo + 2, none⟩) hb).trans w2
            have b0 := Lib.cell_of_heap hbx 0
            have b1 := Lib.cell_of_heap hbx 1
            simp only [List.getElem?_toArray, List.getElem?_cons_zero, List.getElem?_cons_succ] at b0 b1
            have hhx : wo.heap.size < wr.heap.size := by
              rcases Nat.lt_or_ge wo.heap.size wr.heap.size with h | h
              · exact h
              · rw [Array.getElem?_eq_none h] at hbx; cases hbx
            have hxb2 : xb < wr.heap.size := by omega
            clear hbx
            by_cases hlt : j < na
            · have hi' : (j : Int) < (na : Int) := by omega
              obtain ⟨rfl, _, hm3, _⟩ := HA.out.2.1 (by have := HA.out.1; omega)
              have HOA := Lib.hid (World.ownsRow.drew (HOWN.out.alloc (.cells #[.pointer (some ⟨ga, oa + j * 5, none⟩), .int .i64 ((xd : Int) + 1)] 67)))
              have HN : Hid (∀ i u, ([.pointer (some ⟨ga, oa + j * 5, none⟩), .int .i64 ((xd : Int) + 1)] : List Value)[i]? = some u → ((wr.alloc (.cells #[.pointer (some ⟨ga, oa + j * 5, none⟩), .int .i64 ((xd : Int) + 1)] 67)).drew).cell? ((⟨wr.heap.size, 0, none⟩ : Addr).add i) = some u) := Lib.hid (new_cells wr [.pointer (some ⟨ga, oa + j * 5, none⟩), .int .i64 ((xd : Int) + 1)] 67)
              have H1 : Hid (∀ u ∈ ([.pointer (some ⟨ga, oa + j * 5, none⟩), .int .i64 ((xd : Int) + 1)] : List Value), u.oneCell' = true) := Lib.hid fun u hu => by
                simp only [List.mem_cons, List.not_mem_nil, or_false] at hu
                rcases hu with rfl | rfl <;> rfl
              have hw : IntKind.i64.wrap ((xd : Int) + 1) = (xd : Int) + 1 := by rw [IntKind.wrap_i64]; omega
              go_wp2_with fail
              go_region_law (first | (refine step_append_lies _ rfl (.tmp 42) (.tmp 54) 68 rfl (w.heap.size + 1) 67 i0 _ 2 16 Tryd.underlying68 hi hz0 hz1 hz2 rfl (by decide) (.slice x0 (st'.length + j) cc0) (st'.length + j) (tqcs (st' ++ tqrow ga oa (xd + 1) ags j)) (by simp [Act.eval]) HOA.out ⟨wr.heap.size, 0, none⟩ 1 1 [.pointer (some ⟨ga, oa + j * 5, none⟩), .int .i64 ((xd : Int) + 1)] (by simp [Act.eval]) rfl HN.out H1.out (by decide) (by unfold maxLen; omega) (by omega) (by simp; omega) _ rfl ?_; intro g2' cap2 w5 hown5 hg5 hat5 hlt5))
              all_goals
                go_wp2_with fail
                go_roundg (na - (j + 1))
                case measure => omega
                case rel =>
                  have hB6 : Below (w.heap.size + 1) wr w5 := (((Below.refl (w.heap.size + 1) wr).alloc (by omega) _).drew).grown hg5 (by simp; omega) (fun q hq => (HOA.out.lt q hq).1)
                  refine ⟨j + 1, rfl, hlt, by first | rfl | simp, ?_, ?_, ?_, hBq.trans hB6⟩
                  · rw [tqrow_succ, ← List.append_assoc, tqcs_append, getD_at _ (by rw [HA.out.1]; exact hlt)]
                    exact hown5
                  · rcases hat5 with h | h
                    · rw [show (Value.slice (some ⟨g2', 0, none⟩) (st'.length + j + 1) cap2).ownBlock = some g2' from rfl, ← h]; exact HBX.out.2
                    · simp only [Value.ownBlock, ne_eq, Option.some.injEq]; rw [h]; simp; omega
                  · have h9 := hg5.block wo.heap.size (by simp; omega) (fun h => HBX.out.2 h.symm)
                    rw [h9]
                    exact (heap_old hhx).trans HBX.out.1
            · have hi' : ¬ (j : Int) < (na : Int) := by omega
              obtain rfl : na = j := by omega
              go_wp2_with fail
              have hps : tqSum (st' ++ tqrow ga oa (xd + 1) ags na) = tqSum st' + tySum ags := by rw [tqSum_append, tqSum_row _ _ _ _ _ HA.out.1]
              go_roundg (tqSum (st' ++ tqrow ga oa (xd + 1) ags na))
              case measure => rw [HP.out.2.2, hps, HA.out.2.2.2.2]; omega
              case rel =>
                refine ⟨st' ++ tqrow ga oa (xd + 1) ags na, true, rfl, by have := HP.out.2.1; have := HA.out.2.2.2.2; rw [hps]; omega, rfl, ?_, fun y hy => ?_, hMAY.out, ?_, hHX.out.trans hBq⟩
                · have h := HOWN.out
                  have hl : (st' ++ tqrow ga oa (xd + 1) ags na).length = st'.length + na := by rw [List.length_append, tqrow_length]
                  rw [hl]; exact h
                · rcases List.mem_append.1 hy with h | h
                  · exact HND.out.1 y (List.mem_append_left _ h)
                  · obtain ⟨i, hi, rfl⟩ := (tqrow_mem HA.out.1).1 h
                    have h1 : tySize ags[i] ≤ tySum ags := tySum_at hi
                    have h2 := HA.out.2.2.2.2
                    exact ⟨HA.out.2.2.1 i hi, HA.out.2.2.2.1 _ (List.getElem_mem hi), by simp only; omega, by simp only; omega⟩
                · rw [hLATE.out]; simp
        | false =>
          by_cases h200 : (200 : Int) < (xd : Int)
          · have z2 : decide ((200 : Int) < (xd : Int)) = true := decide_eq_true h200
            have hxd2 : 200 < xd := by omega
            go_wp2_with (go_at_call 28; refine (CF.out _ (hB.alloc (by omega) _)).mono ?_; rintro e9 w9 ⟨rfl, q9, rfl⟩)
            go_loopg [4, 39] na (fun gk v i wq => ∃ j, gk = na - j ∧ j ≤ na ∧ i = .int .i64 j ∧ wq.ownsRow (w.heap.size + 1) 67 2 v (st'.length + j) (tqcs (st' ++ tqrow ga oa (xd + 1) ags j)) ∧ v.ownBlock ≠ some wo.heap.size ∧ wq.heap[wo.heap.size]? = some (.cells #[.pointer (some ⟨xb, xo, none⟩), .int .i64 xd] 67) ∧ Below (w.heap.size + 1) wo wq)
            case atStart =>
              refine ⟨0, rfl, Nat.zero_le _, rfl, ?_, ?_, ?_, ?_⟩
              · rw [tqrow_zero, List.append_nil]
                exact (HP.out.1.alloc _)
              · simp only [Value.ownBlock, ne_eq, Option.some.injEq]; omega
              · exact heap_last rfl
              · exact dN_below ((Below.refl _ _).alloc (by omega) _) _
            case round =>
              obtain ⟨j, rfl, hj, rfl, hownq, hown6, hbx, hBq⟩ := hrel
              obtain ⟨x0, cc0, hv⟩ : ∃ x c, u4 = .slice x (st'.length + j) c := by
                rcases hownq.2 with ⟨h, h0⟩ | ⟨gx, cx, cur, h, _⟩
                · exact ⟨none, 0, by rw [h, h0]⟩
                · exact ⟨_, _, h⟩
              subst hv
              have HOWN := Lib.hid hownq
              have HBX := Lib.hid (And.intro hbx hown6)
              clear hownq hown6
              have hbq := hBq.size
              have q2 := (hBq.cell (p := ⟨xb, xo + 2, none⟩) hb).trans w2
              have b0 := Lib.cell_of_heap hbx 0
              have b1 := Lib.cell_of_heap hbx 1
              simp only [List.getElem?_toArray, List.getElem?_cons_zero, List.getElem?_cons_succ] at b0 b1
              have hhx : wo.heap.size < wr.heap.size := by
                rcases Nat.lt_or_ge wo.heap.size wr.heap.size with h | h
                · exact h
                · rw [Array.getElem?_eq_none h] at hbx; cases hbx
              have hxb2 : xb < wr.heap.size := by omega
              clear hbx
              by_cases hlt : j < na
              · have hi' : (j : Int) < (na : Int) := by omega
                obtain ⟨rfl, _, hm3, _⟩ := HA.out.2.1 (by have := HA.out.1; omega)
                have HOA := Lib.hid (World.ownsRow.drew (HOWN.out.alloc (.cells #[.pointer (some ⟨ga, oa + j * 5, none⟩), .int .i64 ((xd : Int) + 1)] 67)))
                have HN : Hid (∀ i u, ([.pointer (some ⟨ga, oa + j * 5, none⟩), .int .i64 ((xd : Int) + 1)] : List Value)[i]? = some u → ((wr.alloc (.cells #[.pointer (some ⟨ga, oa + j * 5, none⟩), .int .i64 ((xd : Int) + 1)] 67)).drew).cell? ((⟨wr.heap.size, 0, none⟩ : Addr).add i) = some u) := Lib.hid (new_cells wr [.pointer (some ⟨ga, oa + j * 5, none⟩), .int .i64 ((xd : Int) + 1)] 67)
                have H1 : Hid (∀ u ∈ ([.pointer (some ⟨ga, oa + j * 5, none⟩), .int .i64 ((xd : Int) + 1)] : List Value), u.oneCell' = true) := Lib.hid fun u hu => by
                  simp only [List.mem_cons, List.not_mem_nil, or_false] at hu
                  rcases hu with rfl | rfl <;> rfl
                have hw : IntKind.i64.wrap ((xd : Int) + 1) = (xd : Int) + 1 := by rw [IntKind.wrap_i64]; omega
                go_wp2_with fail
                go_region_law (first | (refine step_append_lies _ rfl (.tmp 42) (.tmp 54) 68 rfl (w.heap.size + 1) 67 i0 _ 2 16 Tryd.underlying68 hi hz0 hz1 hz2 rfl (by decide) (.slice x0 (st'.length + j) cc0) (st'.length + j) (tqcs (st' ++ tqrow ga oa (xd + 1) ags j)) (by simp [Act.eval]) HOA.out ⟨wr.heap.size, 0, none⟩ 1 1 [.pointer (some ⟨ga, oa + j * 5, none⟩), .int .i64 ((xd : Int) + 1)] (by simp [Act.eval]) rfl HN.out H1.out (by decide) (by unfold maxLen; omega) (by omega) (by simp; omega) _ rfl ?_; intro g2' cap2 w5 hown5 hg5 hat5 hlt5))
                all_goals
                  go_wp2_with fail
                  go_roundg (na - (j + 1))
                  case measure => omega
                  case rel =>
                    have hB6 : Below (w.heap.size + 1) wr w5 := (((Below.refl (w.heap.size + 1) wr).alloc (by omega) _).drew).grown hg5 (by simp; omega) (fun q hq => (HOA.out.lt q hq).1)
                    refine ⟨j + 1, rfl, hlt, by first | rfl | simp, ?_, ?_, ?_, hBq.trans hB6⟩
                    · rw [tqrow_succ, ← List.append_assoc, tqcs_append, getD_at _ (by rw [HA.out.1]; exact hlt)]
                      exact hown5
                    · rcases hat5 with h | h
                      · rw [show (Value.slice (some ⟨g2', 0, none⟩) (st'.length + j + 1) cap2).ownBlock = some g2' from rfl, ← h]; exact HBX.out.2
                      · simp only [Value.ownBlock, ne_eq, Option.some.injEq]; rw [h]; simp; omega
                    · have h9 := hg5.block wo.heap.size (by simp; omega) (fun h => HBX.out.2 h.symm)
                      rw [h9]
                      exact (heap_old hhx).trans HBX.out.1
              · have hi' : ¬ (j : Int) < (na : Int) := by omega
                obtain rfl : na = j := by omega
                go_wp2_with fail
                have hps : tqSum (st' ++ tqrow ga oa (xd + 1) ags na) = tqSum st' + tySum ags := by rw [tqSum_append, tqSum_row _ _ _ _ _ HA.out.1]
                go_roundg (tqSum (st' ++ tqrow ga oa (xd + 1) ags na))
                case measure => rw [HP.out.2.2, hps, HA.out.2.2.2.2]; omega
                case rel =>
                  refine ⟨st' ++ tqrow ga oa (xd + 1) ags na, true, rfl, by have := HP.out.2.1; have := HA.out.2.2.2.2; rw [hps]; omega, rfl, ?_, fun y hy => ?_, hMAY.out, ?_, hHX.out.trans hBq⟩
                  · have h := HOWN.out
                    have hl : (st' ++ tqrow ga oa (xd + 1) ags na).length = st'.length + na := by rw [List.length_append, tqrow_length]
                    rw [hl]; exact h
                  · rcases List.mem_append.1 hy with h | h
                    · exact HND.out.1 y (List.mem_append_left _ h)
                    · obtain ⟨i, hi, rfl⟩ := (tqrow_mem HA.out.1).1 h
                      have h1 : tySize ags[i] ≤ tySum ags := tySum_at hi
                      have h2 := HA.out.2.2.2.2
                      exact ⟨HA.out.2.2.1 i hi, HA.out.2.2.2.1 _ (List.getElem_mem hi), by simp only; omega, by simp only; omega⟩
                  · rw [hLATE.out]; simp [hxd2]
          · have z2 : decide ((200 : Int) < (xd : Int)) = false := decide_eq_false h200
            have hxd2 : ¬ 200 < xd := by omega
            go_wp2_with (go_at_call 28; refine (CF.out _ (hB.alloc (by omega) _)).mono ?_; rintro e9 w9 ⟨rfl, q9, rfl⟩)
            go_loopg [4, 39] na (fun gk v i wq => ∃ j, gk = na - j ∧ j ≤ na ∧ i = .int .i64 j ∧ wq.ownsRow (w.heap.size + 1) 67 2 v (st'.length + j) (tqcs (st' ++ tqrow ga oa (xd + 1) ags j)) ∧ v.ownBlock ≠ some wo.heap.size ∧ wq.heap[wo.heap.size]? = some (.cells #[.pointer (some ⟨xb, xo, none⟩), .int .i64 xd] 67) ∧ Below (w.heap.size + 1) wo wq)
            case atStart =>
              refine ⟨0, rfl, Nat.zero_le _, rfl, ?_, ?_, ?_, ?_⟩
              · rw [tqrow_zero, List.append_nil]
                exact (HP.out.1.alloc _)
              · simp only [Value.ownBlock, ne_eq, Option.some.injEq]; omega
              · exact heap_last rfl
              · exact dN_below ((Below.refl _ _).alloc (by omega) _) _
            case round =>
              obtain ⟨j, rfl, hj, rfl, hownq, hown6, hbx, hBq⟩ := hrel
              obtain ⟨x0, cc0, hv⟩ : ∃ x c, u4 = .slice x (st'.length + j) c := by
                rcases hownq.2 with ⟨h, h0⟩ | ⟨gx, cx, cur, h, _⟩
                · exact ⟨none, 0, by rw [h, h0]⟩
                · exact ⟨_, _, h⟩
              subst hv
              have HOWN := Lib.hid hownq
              have HBX := Lib.hid (And.intro hbx hown6)
              clear hownq hown6
              have hbq := hBq.size
              have q2 := (hBq.cell (p := ⟨xb, xo + 2, none⟩) hb).trans w2
              have b0 := Lib.cell_of_heap hbx 0
              have b1 := Lib.cell_of_heap hbx 1
              simp only [List.getElem?_toArray, List.getElem?_cons_zero, List.getElem?_cons_succ] at b0 b1
              have hhx : wo.heap.size < wr.heap.size := by
                rcases Nat.lt_or_ge wo.heap.size wr.heap.size with h | h
                · exact h
                · rw [Array.getElem?_eq_none h] at hbx; cases hbx
              have hxb2 : xb < wr.heap.size := by omega
              clear hbx
              by_cases hlt : j < na
              · have hi' : (j : Int) < (na : Int) := by omega
                obtain ⟨rfl, _, hm3, _⟩ := HA.out.2.1 (by have := HA.out.1; omega)
                have HOA := Lib.hid (World.ownsRow.drew (HOWN.out.alloc (.cells #[.pointer (some ⟨ga, oa + j * 5, none⟩), .int .i64 ((xd : Int) + 1)] 67)))
                have HN : Hid (∀ i u, ([.pointer (some ⟨ga, oa + j * 5, none⟩), .int .i64 ((xd : Int) + 1)] : List Value)[i]? = some u → ((wr.alloc (.cells #[.pointer (some ⟨ga, oa + j * 5, none⟩), .int .i64 ((xd : Int) + 1)] 67)).drew).cell? ((⟨wr.heap.size, 0, none⟩ : Addr).add i) = some u) := Lib.hid (new_cells wr [.pointer (some ⟨ga, oa + j * 5, none⟩), .int .i64 ((xd : Int) + 1)] 67)
                have H1 : Hid (∀ u ∈ ([.pointer (some ⟨ga, oa + j * 5, none⟩), .int .i64 ((xd : Int) + 1)] : List Value), u.oneCell' = true) := Lib.hid fun u hu => by
                  simp only [List.mem_cons, List.not_mem_nil, or_false] at hu
                  rcases hu with rfl | rfl <;> rfl
                have hw : IntKind.i64.wrap ((xd : Int) + 1) = (xd : Int) + 1 := by rw [IntKind.wrap_i64]; omega
                go_wp2_with fail
                go_region_law (first | (refine step_append_lies _ rfl (.tmp 42) (.tmp 54) 68 rfl (w.heap.size + 1) 67 i0 _ 2 16 Tryd.underlying68 hi hz0 hz1 hz2 rfl (by decide) (.slice x0 (st'.length + j) cc0) (st'.length + j) (tqcs (st' ++ tqrow ga oa (xd + 1) ags j)) (by simp [Act.eval]) HOA.out ⟨wr.heap.size, 0, none⟩ 1 1 [.pointer (some ⟨ga, oa + j * 5, none⟩), .int .i64 ((xd : Int) + 1)] (by simp [Act.eval]) rfl HN.out H1.out (by decide) (by unfold maxLen; omega) (by omega) (by simp; omega) _ rfl ?_; intro g2' cap2 w5 hown5 hg5 hat5 hlt5))
                all_goals
                  go_wp2_with fail
                  go_roundg (na - (j + 1))
                  case measure => omega
                  case rel =>
                    have hB6 : Below (w.heap.size + 1) wr w5 := (((Below.refl (w.heap.size + 1) wr).alloc (by omega) _).drew).grown hg5 (by simp; omega) (fun q hq => (HOA.out.lt q hq).1)
                    refine ⟨j + 1, rfl, hlt, by first | rfl | simp, ?_, ?_, ?_, hBq.trans hB6⟩
                    · rw [tqrow_succ, ← List.append_assoc, tqcs_append, getD_at _ (by rw [HA.out.1]; exact hlt)]
                      exact hown5
                    · rcases hat5 with h | h
                      · rw [show (Value.slice (some ⟨g2', 0, none⟩) (st'.length + j + 1) cap2).ownBlock = some g2' from rfl, ← h]; exact HBX.out.2
                      · simp only [Value.ownBlock, ne_eq, Option.some.injEq]; rw [h]; simp; omega
                    · have h9 := hg5.block wo.heap.size (by simp; omega) (fun h => HBX.out.2 h.symm)
                      rw [h9]
                      exact (heap_old hhx).trans HBX.out.1
              · have hi' : ¬ (j : Int) < (na : Int) := by omega
                obtain rfl : na = j := by omega
                go_wp2_with fail
                have hps : tqSum (st' ++ tqrow ga oa (xd + 1) ags na) = tqSum st' + tySum ags := by rw [tqSum_append, tqSum_row _ _ _ _ _ HA.out.1]
                go_roundg (tqSum (st' ++ tqrow ga oa (xd + 1) ags na))
                case measure => rw [HP.out.2.2, hps, HA.out.2.2.2.2]; omega
                case rel =>
                  refine ⟨st' ++ tqrow ga oa (xd + 1) ags na, false, rfl, by have := HP.out.2.1; have := HA.out.2.2.2.2; rw [hps]; omega, rfl, ?_, fun y hy => ?_, hMAY.out, ?_, hHX.out.trans hBq⟩
                  · have h := HOWN.out
                    have hl : (st' ++ tqrow ga oa (xd + 1) ags na).length = st'.length + na := by rw [List.length_append, tqrow_length]
                    rw [hl]; exact h
                  · rcases List.mem_append.1 hy with h | h
                    · exact HND.out.1 y (List.mem_append_left _ h)
                    · obtain ⟨i, hi, rfl⟩ := (tqrow_mem HA.out.1).1 h
                      have h1 : tySize ags[i] ≤ tySum ags := tySum_at hi
                      have h2 := HA.out.2.2.2.2
                      exact ⟨HA.out.2.2.1 i hi, HA.out.2.2.2.1 _ (List.getElem_mem hi), by simp only; omega, by simp only; omega⟩
                  · rw [hLATE.out]; simp [hxd2]
end Go.Proofs.YtoopndgdaiblpaaDoor
