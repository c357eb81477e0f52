/- tree.SameType, told whole: whether two types are the same tree. -/
import Derived.Test.YtoopndgdaiblpaaDoorEqS
import Derived.Test.YtoopndgdaiblpaaDoorTyp
import Derived.Test.YtoopndgdaiblpaaDoorSame3
namespace Go.Proofs.YtoopndgdaiblpaaDoor
open Go.ChangeShapes Go.WideShapes Go.ChangeAt Go.RowKit

/-- How many parts a type has. -/
def tySize : Ty → Nat
  | .mk _ _ args _ _ => 1 + (args.map tySize).sum
def tySum (l : List Ty) : Nat := (l.map tySize).sum
theorem tySize_mk (k : Int) (s : ByteArray) (args : List Ty) (labels : List ByteArray) (op : Bool) : tySize (.mk k s args labels op) = 1 + tySum args := by
  rw [tySize]; rfl
theorem tySize_pos (t : Ty) : 1 ≤ tySize t := by
  cases t; rw [tySize_mk]; omega

theorem tySum_len : ∀ l : List Ty, l.length ≤ tySum l
  | [] => Nat.le_refl _
  | t :: r => by
    have h1 := tySum_len r
    have := tySize_pos t
    simp only [tySum, List.map_cons, List.sum_cons, List.length_cons] at h1 ⊢
    omega

/-- Two places, and the tree that lies at each. -/
structure Pq (α : Type) where
  b : Nat
  o : Nat
  t : α
  b' : Nat
  o' : Nat
  u : α
def pqc {α : Type} (x : Pq α) : List Value := [.pointer (some ⟨x.b, x.o, none⟩), .pointer (some ⟨x.b', x.o', none⟩)]
def pqcs {α : Type} (l : List (Pq α)) : List Value := (l.map pqc).flatten
theorem pqcs_append {α : Type} (l m : List (Pq α)) : pqcs (l ++ m) = pqcs l ++ pqcs m := by simp [pqcs]
theorem pqcs_length {α : Type} (l : List (Pq α)) : (pqcs l).length = l.length * 2 := by
  induction l with
  | nil => rfl
  | cons a r ih =>
    have : pqcs (a :: r) = pqc a ++ pqcs r := rfl
    rw [this, List.length_append, ih]; simp [pqc]; omega
def pqrow {α : Type} (z g o : Nat) (l : List α) (g' o' : Nat) (m : List α) (d : α) (n : Nat) : List (Pq α) := (List.range n).map fun i => ⟨g, o + i * z, l.getD i d, g', o' + i * z, m.getD i d⟩
section
variable {α : Type} (z g o : Nat) (l : List α) (g' o' : Nat) (m : List α) (d : α) (n : Nat)
theorem pqrow_zero : pqrow z g o l g' o' m d 0 = [] := rfl
theorem pqrow_succ : pqrow z g o l g' o' m d (n + 1) = pqrow z g o l g' o' m d n ++ [⟨g, o + n * z, l.getD n d, g', o' + n * z, m.getD n d⟩] := by
  simp [pqrow, List.range_succ]
theorem pqrow_length : (pqrow z g o l g' o' m d n).length = n := by simp [pqrow]
theorem pqrow_mem {x : Pq α} (h : x ∈ pqrow z g o l g' o' m d n) : ∃ i, i < n ∧ x = ⟨g, o + i * z, l.getD i d, g', o' + i * z, m.getD i d⟩ := by
  obtain ⟨i, hi, rfl⟩ := List.mem_map.1 h
  exact ⟨i, List.mem_range.1 hi, rfl⟩
end
theorem getD_at {α : Type} {l : List α} {i : Nat} (d : α) (h : i < l.length) : l.getD i d = l[i] := by simp [h]
theorem range_getD {α : Type} (l : List α) (d : α) : (List.range l.length).map (fun i => l.getD i d) = l := by
  apply List.ext_getElem
  · simp
  · intro i h1 h2
    simp at h1
    simp [h1]
def pqSum {α : Type} (f : α → Nat) (l : List (Pq α)) : Nat := (l.map fun x => f x.t).sum
theorem pqSum_append {α : Type} (f : α → Nat) (l m : List (Pq α)) : pqSum f (l ++ m) = pqSum f l + pqSum f m := by simp [pqSum]
theorem pqSum_one {α : Type} (f : α → Nat) (x : Pq α) : pqSum f [x] = f x.t := by simp [pqSum]
theorem pqSum_row {α : Type} (f : α → Nat) (z g o : Nat) (l : List α) (g' o' : Nat) (m : List α) (d : α) (n : Nat) (h : l.length = n) : pqSum f (pqrow z g o l g' o' m d n) = (l.map f).sum := by
  have e : (pqrow z g o l g' o' m d n).map (fun x => f x.t) = ((List.range l.length).map (fun i => l.getD i d)).map f := by
    rw [h]; simp [pqrow, Function.comp_def]
  unfold pqSum
  rw [e, range_getD]
theorem pqSum_ge {α : Type} {f : α → Nat} (hf : ∀ x, 1 ≤ f x) : ∀ l : List (Pq α), l.length ≤ pqSum f l
  | [] => Nat.le_refl _
  | x :: r => by
    have h1 := pqSum_ge hf r
    have := hf x.t
    simp only [pqSum, List.map_cons, List.sum_cons, List.length_cons] at h1 ⊢
    omega
def pqEq {α : Type} (l : List (Pq α)) : Prop := ∀ x ∈ l, x.t = x.u
theorem pqEq_append {α : Type} (l m : List (Pq α)) : pqEq (l ++ m) ↔ pqEq l ∧ pqEq m := by
  unfold pqEq
  constructor
  · exact fun h => ⟨fun x hx => h x (List.mem_append_left _ hx), fun x hx => h x (List.mem_append_right _ hx)⟩
  · rintro ⟨h1, h2⟩ x hx
    rcases List.mem_append.1 hx with h | h
    · exact h1 x h
    · exact h2 x h
theorem pqEq_one {α : Type} (x : Pq α) : pqEq [x] ↔ x.t = x.u := by simp [pqEq]
theorem pqEq_row {α : Type} (z g o : Nat) (l : List α) (g' o' : Nat) (m : List α) (d : α) (n : Nat) (hl : l.length = n) (hm : m.length = n) : pqEq (pqrow z g o l g' o' m d n) ↔ l = m := by
  constructor
  · intro h
    apply List.ext_getElem (by omega)
    intro i h1 h2
    have := h ⟨g, o + i * z, l.getD i d, g', o' + i * z, m.getD i d⟩ (List.mem_map.2 ⟨i, List.mem_range.2 (by omega), rfl⟩)
    rw [getD_at d h1, getD_at d h2] at this
    exact this
  · rintro rfl x hx
    obtain ⟨i, _, rfl⟩ := pqrow_mem _ _ _ _ _ _ _ _ _ hx
    rfl

theorem tpInfo : (Tryd.prog.info? 64).map (fun i => (i.zero, i.size, i.bytes)) = some (some (.agg #[.pointer none, .pointer none]), 2, 16) := by kernel_rfl

def tyGives (w : World) (t u : Ty) (e : Ending) (w' : World) : Prop := e = .returned (.bool (same t u)) ∧ Below w.heap.size w w'

set_option maxHeartbeats 4000000 in
set_option maxRecDepth 100000 in
theorem sameTy_any (k k' : Int) (s s' : ByteArray) (va vl va' vl' : Value) (op op' : Bool) (w : World) (t u : Ty) (hsz : tySize t ≤ 900000)
    (ht : TyAt ((w.alloc (.cells #[.int .i64 k, .string s, va, vl, .bool op] 37)).alloc (.cells #[.int .i64 k', .string s', va', vl', .bool op'] 37)) (fun b => b < w.heap.size + 2) w.heap.size 0 t)
    (hu : TyAt ((w.alloc (.cells #[.int .i64 k, .string s, va, vl, .bool op] 37)).alloc (.cells #[.int .i64 k', .string s', va', vl', .bool op'] 37)) (fun b => b < w.heap.size + 2) (w.heap.size + 1) 0 u) :
    Calls Tryd.prog 14 #[.agg #[.int .i64 k, .string s, va, vl, .bool op], .agg #[.int .i64 k', .string s', va', vl', .bool op']] w (tyGives w t u) := by
  obtain ⟨i0, hi, hz0, hz1, hz2⟩ := info_parts tpInfo
  have HT := Lib.hid (And.intro ht hu)
  clear ht hu
  go_enter Tryd.func14, Tryd.ntmps14
  go_wp2_with fail
  obtain ⟨W1, hW1⟩ : ∃ W1, (w.alloc (.cells #[.int .i64 k, .string s, va, vl, .bool op] 37)).alloc (.cells #[.int .i64 k', .string s', va', vl', .bool op'] 37) = W1 := ⟨_, rfl⟩
  rw [hW1]
  have hs1 : W1.heap.size = w.heap.size + 2 := by rw [← hW1]; simp
  have hBw1 : Below w.heap.size w W1 := by rw [← hW1]; exact ((Below.refl _ w).alloc (Nat.le_refl _) _).alloc (by simp) _
  have HW := HT.out
  rw [hW1] at HW
  have HT1 := Lib.hid HW
  clear HW HT hW1
  go_loopg [5] (tySize t) (fun gk v wr => ∃ st : List (Pq Ty), gk = pqSum tySize st ∧ gk ≤ 900000 ∧ wr.ownsRow (w.heap.size + 2) 64 2 v st.length (pqcs st) ∧ (∀ x ∈ st, TyAt W1 (fun b => b < w.heap.size + 2) x.b x.o x.t ∧ TyAt W1 (fun b => b < w.heap.size + 2) x.b' x.o' x.u) ∧ (t = u ↔ pqEq st) ∧ Below (w.heap.size + 2) W1 wr)
  case atStart =>
    refine ⟨[⟨w.heap.size, 0, t, w.heap.size + 1, 0, u⟩], by simp [pqSum], hsz, ?_, fun x hx => by rw [List.mem_singleton.1 hx]; exact HT1.out, (pqEq_one (⟨w.heap.size, 0, t, w.heap.size + 1, 0, u⟩ : Pq Ty)).symm, (Below.refl _ _).alloc (by omega) _⟩
    have := World.ownsRow_lit (base := w.heap.size + 2) (e := 64) (size := 2) W1 #[.pointer (some ⟨w.heap.size, 0, none⟩), .pointer (some ⟨w.heap.size + 1, 0, none⟩)] 1 (by omega) (by decide) rfl
    rw [hs1] at this
    simpa [pqcs, pqc] using this
  case round =>
    obtain ⟨st, rfl, hle, hown, hnd, heq, hB⟩ := hrel
    have hbw := hB.size
    have HND := Lib.hid (And.intro hnd heq)
    clear hnd heq
    rcases List.eq_nil_or_concat st with rfl | ⟨st', x, hcc⟩
    · obtain ⟨x0, c0, rfl⟩ : ∃ x c, u5 = .slice x 0 c := by
        rcases hown.2 with ⟨h, _⟩ | ⟨g, cap, cur, h, _⟩
        · exact ⟨_, _, h⟩
        · exact ⟨_, _, h⟩
      clear hown
      go_wp2_with fail
      go_ret
      exact ⟨by rw [same_yes (HND.out.2.2 (fun _ h => by cases h))]; rfl, hBw1.trans (hB.mono (by omega))⟩
    · rw [List.concat_eq_append] at hcc
      subst hcc
      have hge := pqSum_ge tySize_pos st'
      have hxs := tySize_pos x.t
      have hsum : pqSum tySize (st' ++ [x]) = pqSum tySize st' + tySize x.t := by rw [pqSum_append, pqSum_one]
      rw [hsum] at hle
      rw [List.length_append, List.length_singleton, pqcs_append] at hown
      obtain ⟨g, cap, hv, hg1, hg2⟩ := hown.form (by omega)
      subst hv
      have hpop := ownsRow_pop (last := pqcs [x]) (pqcs_length st') hown
      have hcap : st'.length + 1 ≤ cap ∧ cap ≤ maxLen := by
        rcases hown.2 with ⟨h, _⟩ | ⟨g2, cap2, cur, hv, _, _, hx, hy, _⟩
        · cases h
        · cases hv; exact ⟨hx, hy⟩
      unfold maxLen at hcap
      obtain ⟨hc1, hc2⟩ := hcap
      have hcl : ∀ j, j < 2 → wr.cell? ⟨g, st'.length * 2 + j, none⟩ = (pqc x)[j]? := fun j hj => by
        rw [hown.cellAt (st'.length * 2 + j) (by omega), List.getElem?_append_right (by rw [pqcs_length]; omega), pqcs_length, show st'.length * 2 + j - st'.length * 2 = j from by omega]
        simp [pqcs]
      have c0 := hcl 0 (by omega)
      have c1 := hcl 1 (by omega)
      rw [Nat.add_zero] at c0
      obtain ⟨hn1, hn2⟩ := HND.out.1 x (by simp)
      obtain ⟨xb, xo, xt, xb', xo', xu⟩ := x
      simp only at hn1 hn2 hle hsum hxs
      simp only [pqc, List.getElem?_cons_zero, List.getElem?_cons_succ] at c0 c1
      have hst5 : st'.length ≤ 900000 := by omega
      have HP := Lib.hid (And.intro hpop (And.intro hle hsum))
      clear hcl hown hpop hle hsum hge
      obtain ⟨hb, h0, h1, h2, h3, h4, ha, hl, hs, hls⟩ := hn1
      rename_i k1 s1 ags lbs op1 va1 vl1 ga oa gl ol hKK
      obtain ⟨hb', g0, g1, g2, g3, g4, ha', hl', hs', hls'⟩ := hn2
      rename_i k2 s2 ags' lbs' op2 va2 vl2 ga' oa' gl' ol'
      have w0 := (hB.cell (p := ⟨xb, xo, none⟩) hb).trans h0
      have w1 := (hB.cell (p := ⟨xb, xo + 1, none⟩) hb).trans h1
      have w2 := (hB.cell (p := ⟨xb, xo + 2, none⟩) hb).trans h2
      have w3 := (hB.cell (p := ⟨xb, xo + 3, none⟩) hb).trans h3
      have w4 := (hB.cell (p := ⟨xb, xo + 4, none⟩) hb).trans h4
      have v0 := (hB.cell (p := ⟨xb', xo', none⟩) hb').trans g0
      have v1 := (hB.cell (p := ⟨xb', xo' + 1, none⟩) hb').trans g1
      have v2 := (hB.cell (p := ⟨xb', xo' + 2, none⟩) hb').trans g2
      have v3 := (hB.cell (p := ⟨xb', xo' + 3, none⟩) hb').trans g3
      have v4 := (hB.cell (p := ⟨xb', xo' + 4, none⟩) hb').trans g4
      obtain ⟨x3, e3, rfl, hsh⟩ := ha.shape
      obtain ⟨y3, f3, rfl, hsh'⟩ := ha'.shape
      have CE : Hid (∀ q, Calls Tryd.prog 27 #[vl1, vl2] (wr.drewN q) fun e w' => e = .returned (.bool (same lbs lbs')) ∧ ∃ m, w' = (wr.drewN q).drewN m) := Lib.hid fun q =>
        eqs_any _ lbs lbs' vl1 vl2 gl ol gl' ol' (wr.drewN q) hl hl' (fun i h => (hB.cell (p := ⟨gl, ol + i, none⟩) (hl.lt (by omega))).trans (hls i h)) (fun i h => (hB.cell (p := ⟨gl', ol' + i, none⟩) (hl'.lt (by omega))).trans (hls' i h))
      obtain ⟨x4, e4, rfl, _⟩ := hl.shape
      obtain ⟨y4, f4, rfl, _⟩ := hl'.shape
      obtain ⟨na, hna⟩ : ∃ na, ags.length = na := ⟨_, rfl⟩
      obtain ⟨ma, hma⟩ : ∃ ma, ags'.length = ma := ⟨_, rfl⟩
      have HA := Lib.hid (And.intro hna (And.intro hsh (And.intro hs (And.intro hma (And.intro hsh' hs')))))
      rw [hna] at w2
      rw [hma] at v2
      have hw : IntKind.i64.wrap ((st'.length : Int) + 1 - 1) = (st'.length : Int) := by rw [IntKind.wrap_i64]; omega
      clear hs hs' hsh hsh' hna hma ha ha' hl hl' hls hls' h0 h1 h2 h3 h4 g0 g1 g2 g3 g4
      have NO : Hid (Ty.mk k1 s1 ags lbs op1 ≠ Ty.mk k2 s2 ags' lbs' op2 → same t u = false) := Lib.hid fun h => same_no fun he => h ((pqEq_one _).1 ((pqEq_append _ _).1 (HND.out.2.1 he)).2)
      by_cases hk : k1 = k2
      rotate_left
      · have z1 : (k1 != k2) = true := by simpa using hk
        have HN := Lib.hid (NO.out fun h => hk (by injection h))
        clear hk
        go_wp2_with fail
        go_quiet (fail)
        clear hw
        go_wp2_with fail
        go_quiet (fail)
        go_wp2_with fail
        go_ret
        exact ⟨by rw [HN.out]; rfl, hBw1.trans ((dN_below (dN_below hB _) _).mono (by omega))⟩
      have z1 : (k1 != k2) = false := by simpa using hk
      by_cases hss : s1 = s2
      rotate_left
      · have z2 : (s1.toList == s2.toList) = false := (Lib.bytes_beq_false_iff s1 s2).2 hss
        have z2' : (s1.toList != s2.toList) = true := by simp [bne, z2]
        have HN := Lib.hid (NO.out fun h => hss (by injection h))
        clear hss
        go_wp2_with fail
        go_quiet (fail)
        clear hw
        go_wp2_with fail
        go_quiet (fail)
        go_wp2_with fail
        go_ret
        exact ⟨by rw [HN.out]; rfl, hBw1.trans ((dN_below (dN_below hB _) _).mono (by omega))⟩
      have z2 : (s1.toList == s2.toList) = true := (Lib.bytes_beq_iff s1 s2).2 hss
      have z2' : (s1.toList != s2.toList) = false := by simp [bne, z2]
      by_cases ho : op1 = op2
      rotate_left
      · have z3 : (op1 != op2) = true := by simpa using ho
        have z3' : (op1 == op2) = false := by simpa using ho
        have HN := Lib.hid (NO.out fun h => ho (by injection h))
        clear ho
        go_wp2_with fail
        go_quiet (fail)
        clear hw
        go_wp2_with fail
        go_quiet (fail)
        go_wp2_with fail
        go_ret
        exact ⟨by rw [HN.out]; rfl, hBw1.trans ((dN_below (dN_below hB _) _).mono (by omega))⟩
      have z3 : (op1 != op2) = false := by simpa using ho
      have z3' : (op1 == op2) = true := by simpa using ho
      by_cases hla : na = ma
      rotate_left
      · have z4 : ((na : Int) != (ma : Int)) = true := by simp; omega
        have HN := Lib.hid (NO.out fun h => hla (by have h1 := HA.out.1; have h2 := HA.out.2.2.2.1; injection h with e1 e2 e3; rw [← h1, ← h2, e3]))
        clear hla
        go_wp2_with fail
        go_quiet (fail)
        clear hw
        go_wp2_with fail
        go_quiet (fail)
        go_wp2_with fail
        go_ret
        exact ⟨by rw [HN.out]; rfl, hBw1.trans ((dN_below (dN_below hB _) _).mono (by omega))⟩
      have z4 : ((na : Int) != (ma : Int)) = false := by simp; omega
      by_cases hlb : lbs = lbs'
      rotate_left
      · rw [same_no hlb] at CE
        have HN := Lib.hid (NO.out fun h => hlb (by injection h))
        clear hlb
        go_wp2_with fail
        go_quiet (fail)
        clear hw
        go_wp2_with fail
        go_quiet (first | (go_at_call 27; refine (CE.out _).mono ?_; rintro _ _ ⟨rfl, mq, rfl⟩; exact ⟨rfl, _, (by rw [World.drewN_drewN, Nat.add_assoc])⟩))
        go_wp2_with fail
        go_ret
        exact ⟨by rw [HN.out]; rfl, hBw1.trans ((dN_below (dN_below hB _) _).mono (by omega))⟩
      rw [same_yes hlb] at CE
      have HEQ : Hid (t = u ↔ pqEq st' ∧ ags = ags') := Lib.hid (by
        rw [HND.out.2, pqEq_append, pqEq_one]
        simp only [Ty.mk.injEq, hk, hss, hlb, ho, true_and, and_true])
      subst hla
      clear NO hk hss hlb ho
      go_wp2_with fail
      go_quiet (fail)
      clear hw
      go_wp2_with fail
      go_quiet (first | (go_at_call 27; refine (CE.out _).mono ?_; rintro _ _ ⟨rfl, mq, rfl⟩; exact ⟨rfl, _, (by rw [World.drewN_drewN, Nat.add_assoc])⟩))
      go_wp2_with fail
      obtain ⟨wo, rfl⟩ : ∃ wo, wo = wr := ⟨_, rfl⟩
      go_loopg [5, 94] na (fun gk v i wq => ∃ j, gk = na - j ∧ j ≤ na ∧ i = .int .i64 j ∧ wq.ownsRow (w.heap.size + 2) 64 2 v (st'.length + j) (pqcs (st' ++ pqrow 5 ga oa ags ga' oa' ags' tInt j)) ∧ Below (w.heap.size + 2) wo wq)
      case atStart =>
        refine ⟨0, rfl, Nat.zero_le _, rfl, ?_, dN_below (Below.refl _ _) _⟩
        rw [pqrow_zero, List.append_nil]
        exact HP.out.1
      case round =>
        obtain ⟨j, rfl, hj, rfl, hownq, hBq⟩ := hrel
        obtain ⟨x0, cc0, hv⟩ : ∃ x c, u5 = .slice x (st'.length + j) c := by
          rcases hownq.2 with ⟨h, h0⟩ | ⟨gx, cx, cur, h, _⟩
          · exact ⟨none, 0, by rw [h, h0]⟩
          · exact ⟨_, _, h⟩
        subst hv
        have HOWN := Lib.hid hownq
        clear hownq
        have hbq := hBq.size
        have q3 := (hBq.cell (p := ⟨xb, xo + 2, none⟩) hb).trans w2
        have p3 := (hBq.cell (p := ⟨xb', xo' + 2, none⟩) hb').trans v2
        have hst6 : na ≤ 900000 := by
          have h1 := HP.out.2.1
          have h2 := HA.out.1
          have h3 : ags.length ≤ tySum ags := tySum_len ags
          rw [tySize_mk] at h1; omega
        by_cases hlt : j < na
        · have hi' : (j : Int) < (na : Int) := by omega
          obtain ⟨rfl, _, hm3, _⟩ := HA.out.2.1 (by have := HA.out.1; omega)
          obtain ⟨rfl, _, hm3', _⟩ := HA.out.2.2.2.2.1 (by have := HA.out.2.2.2.1; omega)
          have HOA := Lib.hid (World.ownsRow.drew (HOWN.out.alloc (.cells #[.pointer (some ⟨ga, oa + j * 5, none⟩), .pointer (some ⟨ga', oa' + j * 5, none⟩)] 64)))
          have HN : Hid (∀ i u, ([.pointer (some ⟨ga, oa + j * 5, none⟩), .pointer (some ⟨ga', oa' + j * 5, none⟩)] : List Value)[i]? = some u → ((wr.alloc (.cells #[.pointer (some ⟨ga, oa + j * 5, none⟩), .pointer (some ⟨ga', oa' + j * 5, none⟩)] 64)).drew).cell? ((⟨wr.heap.size, 0, none⟩ : Addr).add i) = some u) := Lib.hid (new_cells wr [.pointer (some ⟨ga, oa + j * 5, none⟩), .pointer (some ⟨ga', oa' + j * 5, none⟩)] 64)
          have H1 : Hid (∀ u ∈ ([.pointer (some ⟨ga, oa + j * 5, none⟩), .pointer (some ⟨ga', oa' + j * 5, none⟩)] : List Value), u.oneCell' = true) := Lib.hid fun u hu => by
            simp only [List.mem_cons, List.not_mem_nil, or_false] at hu
            rcases hu with rfl | rfl <;> rfl
          go_wp2_with fail
          go_region_law (first | (refine step_append_lies _ rfl (.tmp 97) (.tmp 111) 65 rfl (w.heap.size + 2) 64 i0 _ 2 16 Tryd.underlying65 hi hz0 hz1 hz2 rfl (by decide) (.slice x0 (st'.length + j) cc0) (st'.length + j) (pqcs (st' ++ pqrow 5 ga oa ags ga' oa' ags' tInt j)) (by simp [Act.eval]) HOA.out ⟨wr.heap.size, 0, none⟩ 1 1 [.pointer (some ⟨ga, oa + j * 5, none⟩), .pointer (some ⟨ga', oa' + j * 5, none⟩)] (by simp [Act.eval]) rfl HN.out H1.out (by decide) (by unfold maxLen; omega) (by omega) (by simp; omega) _ rfl ?_; intro g2' cap2 w5 hown5 hg5 hat5 hlt5))
          all_goals
            go_wp2_with fail
            go_roundg (na - (j + 1))
            case measure => omega
            case rel =>
              have hB6 : Below (w.heap.size + 2) wr w5 := (((Below.refl (w.heap.size + 2) wr).alloc (by omega) _).drew).grown hg5 (by simp; omega) (fun q hq => (HOA.out.lt q hq).1)
              refine ⟨j + 1, rfl, hlt, by first | rfl | simp, ?_, hBq.trans hB6⟩
              rw [pqrow_succ, ← List.append_assoc, pqcs_append]
              exact hown5
        · have hi' : ¬ (j : Int) < (na : Int) := by omega
          have hjn : j = na := by omega
          have HE := Lib.hid hjn
          clear hjn
          go_wp2_with fail
          have hps : pqSum tySize (st' ++ pqrow 5 ga oa ags ga' oa' ags' tInt na) = pqSum tySize st' + tySum ags := by rw [pqSum_append, pqSum_row _ _ _ _ _ _ _ _ _ _ HA.out.1]; rfl
          have hnd9 : tySize (.mk k1 s1 ags lbs op1) = 1 + tySum ags := tySize_mk ..
          go_roundg (pqSum tySize (st' ++ pqrow 5 ga oa ags ga' oa' ags' tInt na))
          case measure => rw [HP.out.2.2, hps, hnd9]; omega
          case rel =>
            refine ⟨st' ++ pqrow 5 ga oa ags ga' oa' ags' tInt na, rfl, by have := HP.out.2.1; rw [hps]; omega, ?_, fun y hy => ?_, ?_, hB.trans hBq⟩
            · have h := HOWN.out
              rw [HE.out] at h
              have hl : (st' ++ pqrow 5 ga oa ags ga' oa' ags' tInt na).length = st'.length + na := by rw [List.length_append, pqrow_length]
              rw [hl]; first | exact h | (rw [HE.out]; exact h)
            · rcases List.mem_append.1 hy with h | h
              · exact HND.out.1 y (List.mem_append_left _ h)
              · obtain ⟨i, hi, rfl⟩ := pqrow_mem _ _ _ _ _ _ _ _ _ h
                have h1 : i < ags.length := by rw [HA.out.1]; exact hi
                have h2 : i < ags'.length := by rw [HA.out.2.2.2.1]; exact hi
                rw [getD_at _ h1, getD_at _ h2]
                exact ⟨HA.out.2.2.1 i h1, HA.out.2.2.2.2.2 i h2⟩
            · rw [HEQ.out, pqEq_append, pqEq_row _ _ _ _ _ _ _ _ _ HA.out.1 HA.out.2.2.2.1]
end Go.Proofs.YtoopndgdaiblpaaDoor
