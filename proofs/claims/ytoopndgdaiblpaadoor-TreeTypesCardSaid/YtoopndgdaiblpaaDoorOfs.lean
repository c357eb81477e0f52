/- trefoilref02.Of, walked. -/
import Derived.Test.YtoopndgdaiblpaaDoorOf
import Derived.Deep.RegionLaw
import Derived.Deep.AppendLies
import Derived.Maps.AppendAt
namespace Go.Proofs.YtoopndgdaiblpaaDoor
open Go.ChangeShapes Go.WideShapes Go.ChangeAt Go.RowKit

theorem exInfo : (Tryd.prog.info? 33).map (fun i => (i.zero, i.size, i.bytes)) = some (some (.agg #[.int .i64 0, .string ⟨#[]⟩, .int .i64 0, .slice none 0 0, .slice none 0 0, .slice none 0 0, .slice none 0 0]), 7, 128) := by kernel_rfl

/-- Expressions as values, each with its tree. -/
def Vals (W : World) (B : Nat → Prop) : List (List Value) → List Nd → Prop
  | [], [] => True
  | c :: cs, t :: ts => (ExV W B c t ∧ c.length = 7) ∧ Vals W B cs ts
  | _, _ => False
theorem Vals.carry {W W' : World} {B C : Nat → Prop} (hB : Keeps B W W') (hC : ∀ b, B b → C b) : ∀ {cs : List (List Value)} {ts : List Nd}, Vals W B cs ts → Vals W' C cs ts
  | [], [], _ => trivial
  | _ :: _, _ :: _, h => ⟨⟨h.1.1.carry hB hC, h.1.2⟩, h.2.carry hB hC⟩
  | [], _ :: _, h => h.elim
  | _ :: _, [], h => h.elim
theorem Vals.snoc {W : World} {B : Nat → Prop} : ∀ {cs : List (List Value)} {ts : List Nd} {c : List Value} {t : Nd}, Vals W B cs ts → ExV W B c t → c.length = 7 → Vals W B (cs ++ [c]) (ts ++ [t])
  | [], [], _, _, _, h, hl => ⟨⟨h, hl⟩, trivial⟩
  | _ :: _, _ :: _, _, _, h, h2, hl => ⟨h.1, h.2.snoc h2 hl⟩
  | [], _ :: _, _, _, h, _, _ => h.elim
  | _ :: _, [], _, _, h, _, _ => h.elim
theorem Vals.len {W : World} {B : Nat → Prop} : ∀ {cs : List (List Value)} {ts : List Nd}, Vals W B cs ts → cs.length = ts.length
  | [], [], _ => rfl
  | _ :: _, _ :: _, h => by simp [h.2.len]
  | [], _ :: _, h => h.elim
  | _ :: _, [], h => h.elim
theorem Vals.flat {W : World} {B : Nat → Prop} : ∀ {cs : List (List Value)} {ts : List Nd}, Vals W B cs ts → cs.flatten.length = 7 * cs.length
  | [], [], _ => rfl
  | _ :: _, _ :: _, h => by rw [List.flatten_cons, List.length_append, h.2.flat, h.1.2, List.length_cons]; omega
  | [], _ :: _, h => h.elim
  | _ :: _, [], h => h.elim

theorem Vals.get {W : World} {B : Nat → Prop} : ∀ {cs : List (List Value)} {ts : List Nd} {i : Nat} {t : Nd}, Vals W B cs ts → ts[i]? = some t → ∃ c, cs[i]? = some c ∧ ExV W B c t ∧ c.length = 7 ∧ ∀ j u, c[j]? = some u → cs.flatten[i * 7 + j]? = some u
  | [], [], _, _, _, h => by simp at h
  | c :: cs, t :: ts, 0, u, h, hu => by
    simp only [List.getElem?_cons_zero, Option.some.injEq] at hu
    subst hu
    refine ⟨c, rfl, h.1.1, h.1.2, fun j v hv => ?_⟩
    have hj : j < c.length := (List.getElem?_eq_some_iff.1 hv).1
    rw [List.flatten_cons, Nat.zero_mul, Nat.zero_add, List.getElem?_append_left hj]; exact hv
  | c :: cs, t :: ts, i + 1, u, h, hu => by
    obtain ⟨c', h1, h2, h3, h4⟩ := h.2.get (i := i) (t := u) (by simpa using hu)
    refine ⟨c', by simpa using h1, h2, h3, fun j v hv => ?_⟩
    have hl := h.1.2
    rw [List.flatten_cons, List.getElem?_append_right (by omega), show (i + 1) * 7 + j - c.length = i * 7 + j from by omega]
    exact h4 j v hv
  | [], _ :: _, _, _, h, _ => h.elim
  | _ :: _, [], _, _, h, _ => h.elim

/-- Expressions that lie in a row of one's own are trees that lie there. -/
theorem row_trees {W W' : World} {B : Nat} {S S' : Nat → Prop} {g cap : Nat} {cs : List (List Value)} {ts : List Nd} (hv : Vals W S cs ts) (ho : W.ownsRow B 33 7 (.slice (some ⟨g, 0, none⟩) ts.length cap) ts.length cs.flatten) (hk : Keeps S W W') (hS : ∀ b, S b → S' b) (hg : S' g) (hgk : W'.heap[g]? = W.heap[g]?) :
    ∀ i (h : i < ts.length), NdAt W' S' g (0 + i * 7) ts[i] := fun i h => by
  obtain ⟨c, _, h2, h3, h4⟩ := hv.get (i := i) (List.getElem?_eq_getElem h)
  refine (h2.carry hk hS).at_ hg fun j u hu => ?_
  have hj : j < 7 := by rw [← h3]; exact (List.getElem?_eq_some_iff.1 hu).1
  have := ho.cellAt (i * 7 + j) (by omega)
  rw [h4 j u hu] at this
  rw [Nat.zero_add]
  unfold World.cell? at this ⊢
  simp only at this ⊢
  rw [hgk]; exact this

theorem ExV.shapes {W : World} {S : Nat → Prop} {c0 c1 c2 c3 c4 c5 c6 : Value} {t : Nd} (h : ExV W S [c0, c1, c2, c3, c4, c5, c6] t) : (∃ x l c, c3 = .slice x l c) ∧ (∃ x l c, c4 = .slice x l c) ∧ (∃ x l c, c5 = .slice x l c) ∧ (∃ x l c, c6 = .slice x l c) := by
  obtain ⟨k, s, n, va, vn, vt, vm, names, types, args, mems, ga, oa, gn, on, gt, ot, gm, om, h0, rfl, h1, h2, h3, h4, _⟩ := h
  simp only [List.cons.injEq, and_true] at h0
  obtain ⟨rfl, rfl, rfl, rfl, rfl, rfl, rfl⟩ := h0
  have key : ∀ {v : Value} {n a b : Nat}, Sl S v n a b → ∃ x l c, v = .slice x l c := fun h => by
    rcases h with ⟨h, h'⟩ | ⟨c, h, _⟩
    · first | exact ⟨_, _, _, h⟩ | exact ⟨_, _, _, h'⟩
    · exact ⟨_, _, _, h⟩
  exact ⟨key h1, key h2, key h3, key h4⟩
theorem ExV.heads {W : World} {S : Nat → Prop} {c0 c1 c2 c3 c4 c5 c6 : Value} {t : Nd} (h : ExV W S [c0, c1, c2, c3, c4, c5, c6] t) : ∃ (k : Int) (s : ByteArray) (n : Int), c0 = .int .i64 k ∧ c1 = .string s ∧ c2 = .int .i64 n := by
  obtain ⟨k, s, n, va, vn, vt, vm, names, types, args, mems, ga, oa, gn, on, gt, ot, gm, om, h0, _⟩ := h
  simp only [List.cons.injEq, and_true] at h0
  exact ⟨k, s, n, h0.1, h0.2.1, h0.2.2.1⟩

theorem own_below {W W' : World} {base : Nat} {e : TypeId} {size : Nat} {v : Value} {n : Nat} {xs : List Value} (h : W.ownsRow base e size v n xs) (hB : Below W.heap.size W W') : W'.ownsRow base e size v n xs := by
  refine ⟨h.1, ?_⟩
  rcases h.2 with hn | ⟨g, cap, cur, hv, hb, hg, rest⟩
  · exact .inl hn
  · refine .inr ⟨g, cap, cur, hv, hb, ?_, rest⟩
    rw [hB.block g]
    · exact hg
    · rcases Nat.lt_or_ge g W.heap.size with h | h
      · exact h
      · rw [Array.getElem?_eq_none h] at hg; cases hg

theorem new_cells (w : World) (l : List Value) (T : TypeId) : ∀ j u, l[j]? = some u → (w.alloc (.cells l.toArray T)).cell? ((⟨w.heap.size, 0, none⟩ : Addr).add j) = some u := by
  intro j u hu
  have e : (⟨w.heap.size, 0, none⟩ : Addr).add j = ⟨w.heap.size, j, none⟩ := by unfold Addr.add; split <;> simp_all
  rw [e, Lib.cell_of_heap (heap_alloc_new w _) j]
  simpa using hu

theorem heap_old {w : World} {o : Obj} {i : Nat} (h : i < w.heap.size) : (w.alloc o).heap[i]? = w.heap[i]? := by
  show (w.heap.push o)[i]? = _
  rw [Array.getElem?_push, if_neg (by omega)]
theorem heap_last {w : World} {o : Obj} {i : Nat} (h : i = w.heap.size) : (w.alloc o).heap[i]? = some o := by
  subst h; exact heap_alloc_new w o

/-- A list of names and one of types, where they lie. -/
def NT (W : World) (S : Nat → Prop) (vn vt : Value) (nm : List ByteArray) (ty : List Ty) : Prop := ∃ gn on gt ot, Sl S vn nm.length gn on ∧ Sl S vt ty.length gt ot ∧ (∀ i (h : i < nm.length), W.cell? ⟨gn, on + i, none⟩ = some (.string nm[i])) ∧ (∀ i (h : i < ty.length), TyAt W S gt (ot + i * 5) ty[i])
theorem NT.carry {W W' : World} {S S' : Nat → Prop} {vn vt : Value} {nm : List ByteArray} {ty : List Ty} (h : NT W S vn vt nm ty) (hk : Keeps S W W') (hS : ∀ b, S b → S' b) : NT W' S' vn vt nm ty := by
  obtain ⟨gn, on, gt, ot, h1, h2, h3, h4⟩ := h
  exact ⟨gn, on, gt, ot, h1.mono hS, h2.mono hS, fun i hi => hk.cell (h1.lt (by omega)) (h3 i hi), fun i hi => (h4 i hi).carry hk hS⟩
theorem NT.none (W : World) (S : Nat → Prop) : NT W S (.slice none 0 0) (.slice none 0 0) [] [] :=
  ⟨0, 0, 0, 0, .inl ⟨rfl, rfl⟩, .inl ⟨rfl, rfl⟩, fun _ h => absurd h (Nat.not_lt_zero _), fun _ h => absurd h (Nat.not_lt_zero _)⟩
theorem NT.shapes {W : World} {S : Nat → Prop} {vn vt : Value} {nm : List ByteArray} {ty : List Ty} (h : NT W S vn vt nm ty) : (∃ x l c, vn = .slice x l c) ∧ (∃ x l c, vt = .slice x l c) := by
  obtain ⟨gn, on, gt, ot, h1, h2, _⟩ := h
  have key : ∀ {v : Value} {n a b : Nat}, Sl S v n a b → ∃ x l c, v = .slice x l c := fun h => by
    rcases h with ⟨h, _⟩ | ⟨c, h, _⟩ <;> exact ⟨_, _, _, h⟩
  exact ⟨key h1, key h2⟩

/-- What a round keeps. -/
theorem round_keeps {w0 : Nat} {wr w2 wA w5 : World} {va v' : Value} (hB2 : Below wr.heap.size wr w2) (hA : Below w2.heap.size w2 wA) (hg : wA.grownBy w5 va.ownBlock)
    (hat : v'.ownBlock = va.ownBlock ∨ v'.ownBlock = some wA.heap.size) (o : Nat) (u : Value) :
    Keeps (fun b => w0 + 2 < b ∧ b < wr.heap.size ∧ va.ownBlock ≠ some b) wr (w5.setCell ⟨w0 + 1 + 1, o, none⟩ u) ∧ ∀ b, (w0 + 2 < b ∧ b < wr.heap.size ∧ va.ownBlock ≠ some b) → w0 + 2 < b ∧ b < (w5.setCell ⟨w0 + 1 + 1, o, none⟩ u).heap.size ∧ v'.ownBlock ≠ some b := by
  have hs2 := hB2.size
  have hsA := hA.size
  have hs5 := hg.size
  have hsf : (w5.setCell ⟨w0 + 1 + 1, o, none⟩ u).heap.size = w5.heap.size := by simp
  refine ⟨fun b hb => ?_, fun b hb => ?_⟩
  · obtain ⟨h1, h2, h3⟩ := hb
    rw [RowKit.Below.heap_setCell _ _ _ _ (show b ≠ w0 + 1 + 1 by omega), hg.block b (by omega) (fun h => h3 h.symm), hA.block b (by omega), hB2.block b h2]
  · obtain ⟨h1, h2, h3⟩ := hb
    refine ⟨h1, by rw [hsf]; omega, ?_⟩
    rcases hat with h | h
    · rw [h]; exact h3
    · rw [h]; intro h'; cases h'; omega

/-- A round's new value, put behind the values there are: the trees stay. -/
theorem vals_round {w0 : Nat} {wr w2 wA w5 : World} {va v' : Value} {cs : List (List Value)} {ts : List Nd} {c : List Value} {t : Nd} (hv : Vals wr (fun b => w0 + 2 < b ∧ b < wr.heap.size ∧ va.ownBlock ≠ some b) cs ts)
    (ht : ExV w2 (fun b => wr.heap.size < b ∧ b < w2.heap.size) c t) (hl : c.length = 7) (hB2 : Below wr.heap.size wr w2) (hA : Below w2.heap.size w2 wA) (hg : wA.grownBy w5 va.ownBlock) (hq : ∀ q, va.ownBlock = some q → q < wr.heap.size)
    (hat : v'.ownBlock = va.ownBlock ∨ v'.ownBlock = some wA.heap.size) (hw : w0 + 1 + 1 < wr.heap.size) (o : Nat) (u : Value) :
    Vals (w5.setCell ⟨w0 + 1 + 1, o, none⟩ u) (fun b => w0 + 2 < b ∧ b < (w5.setCell ⟨w0 + 1 + 1, o, none⟩ u).heap.size ∧ v'.ownBlock ≠ some b) (cs ++ [c]) (ts ++ [t]) := by
  have hs2 := hB2.size
  have hsA := hA.size
  have hs5 := hg.size
  have hsf : (w5.setCell ⟨w0 + 1 + 1, o, none⟩ u).heap.size = w5.heap.size := by simp
  have hk : ∀ b, b < w2.heap.size → w0 + 2 < b → va.ownBlock ≠ some b → (w5.setCell ⟨w0 + 1 + 1, o, none⟩ u).heap[b]? = w2.heap[b]? := fun b h1 h2 h3 => by
    rw [RowKit.Below.heap_setCell _ _ _ _ (show b ≠ w0 + 1 + 1 by omega), hg.block b (by omega) (fun h => h3 h.symm), hA.block b h1]
  have hn : ∀ b, b < w2.heap.size → va.ownBlock ≠ some b → v'.ownBlock ≠ some b := fun b h1 h2 => by
    rcases hat with h | h
    · rw [h]; exact h2
    · rw [h]; intro h'; cases h'; omega
  refine Vals.snoc (hv.carry (fun b hb => ?_) (fun b hb => ?_)) (ht.carry (fun b hb => ?_) (fun b hb => ?_)) hl
  · obtain ⟨h1, h2, h3⟩ := hb
    rw [hk b (by omega) h1 h3, hB2.block b h2]
  · obtain ⟨h1, h2, h3⟩ := hb
    exact ⟨h1, by rw [hsf]; omega, hn b (by omega) h3⟩
  · obtain ⟨h1, h2⟩ := hb
    exact hk b h2 (by omega) (fun h => by have := hq b h; omega)
  · obtain ⟨h1, h2⟩ := hb
    exact ⟨by omega, by rw [hsf]; omega, hn b h2 (fun h => by have := hq b h; omega)⟩

set_option maxHeartbeats 2000000 in
set_option maxRecDepth 100000 in
theorem of_plain (B : Nat) (f : Nat) (p : Pt) (r : List Pt) (g o cap : Nat) (w : World) (hk : p.kind % 21 ≠ 14 ∧ p.kind % 21 ≠ 18 ∧ p.kind % 21 ≠ 19 ∧ p.kind % 21 ≠ 20) (hok : p.ok) (hp : PAt w g o (p :: r)) (hg : g < B) (hBw : B ≤ w.heap.size) (hc : r.length + 1 ≤ cap) (hm : cap ≤ maxLen) (hlen : r.length ≤ 1000)
    (ih : ∀ (l : List Pt) (v : Value) (W : World), B ≤ W.heap.size → l.length ≤ r.length → PV W B v l → Calls Tryd.prog 10 #[v] W (OfGives B W (ofL f l))) :
    Calls Tryd.prog 10 #[.slice (some ⟨g, o, none⟩) (r.length + 1) cap] w (OfGives B w (ofL (f + 1) (p :: r))) := by
  have hgw : g < w.heap.size := by omega
  obtain ⟨i0, hi, hz0, hz1, hz2⟩ := info_parts exInfo
  obtain ⟨h0, h1, h2, h3, h4, _⟩ := hp 0 (by simp)
  simp only [List.getElem_cons_zero, Nat.zero_mul, Nat.add_zero] at h0 h1 h2 h3 h4
  obtain ⟨ok1, ok2, ok3, ok4, ok5, ok6⟩ := hok
  have IH := Lib.hid ih
  have HP := Lib.hid hp.tail
  obtain ⟨k, s, n, a, t⟩ := p
  simp only at h0 h1 h2 h3 h4 hk ok1 ok2 ok3 ok4 ok5 ok6
  unfold maxLen at hm
  have z14 : (k % 21 == 14) = false := by simp; omega
  have z18 : (k % 21 == 18) = false := by simp; omega
  have z19 : (k % 21 == 19) = false := by simp; omega
  have z20 : (k % 21 == 20) = false := by simp; omega
  have hof : ofL (f + 1) (⟨k, s, n, a, t⟩ :: r) = (.ex (k % 21) s n [] [] (argsL (ofL f) (a % 4).toNat r).1 [], (argsL (ofL f) (a % 4).toNat r).2) := by
    rw [ofL]; simp [hk]
  have HF := Lib.hid hof
  clear ih hp hk hof
  obtain ⟨m, hm2⟩ : ∃ m : Nat, (a % 4).toNat = m := ⟨_, rfl⟩
  have ham : a % 4 = (m : Int) := by omega
  have hm3 : m ≤ 3 := by omega
  rw [hm2] at HF
  clear hm2
  go_enter Tryd.func10, Tryd.ntmps10
  go_wp2_with fail
  all_goals
    go_loopw [0, 12] (fun v i wr => ∃ (j : Nat) (done : List Nd) (cs : List (List Value)) (rest : List Pt) (va vn vt : Value), j ≤ m ∧ i = .int .i64 j ∧ PV wr B v rest ∧ rest.length ≤ r.length ∧ done.length = j ∧ done ++ (argsL (ofL f) (m - j) rest).1 = (argsL (ofL f) m r).1 ∧ (argsL (ofL f) (m - j) rest).2 = (argsL (ofL f) m r).2 ∧
      wr.heap[w.heap.size + 1 + 1]? = some (.cells #[.int .i64 (k % 21), .string s, .int .i64 n, va, vn, vt, .slice none 0 0] 33) ∧ NT wr (fun b => w.heap.size + 2 < b ∧ b < wr.heap.size ∧ va.ownBlock ≠ some b) vn vt [] [] ∧ wr.heap[w.heap.size]? = some (.cells #[.int .i64 0, .string ⟨#[]⟩, .int .i64 0, .slice none 0 0, .slice none 0 0, .slice none 0 0, .slice none 0 0] 33) ∧ wr.ownsRow (w.heap.size + 3) 33 7 va done.length cs.flatten ∧ Vals wr (fun b => w.heap.size + 2 < b ∧ b < wr.heap.size ∧ va.ownBlock ≠ some b) cs done ∧ (∀ x ∈ done, isEx x = true) ∧ Below w.heap.size w wr) (fun _ i _ => m - (intOf i).toNat)
    case atStart =>
      have hB0 : Below w.heap.size w (((w.alloc (.cells #[.int .i64 0, .string ⟨#[]⟩, .int .i64 0, .slice none 0 0, .slice none 0 0, .slice none 0 0, .slice none 0 0] 33)).alloc (.cells #[.int .u8 k, .string s, .int .i64 n, .int .u8 a, .int .u8 t] 54)).alloc (.cells #[.int .i64 (k % 21), .string s, .int .i64 n, .slice none 0 0, .slice none 0 0, .slice none 0 0, .slice none 0 0] 33)) :=
        (((Below.refl _ _).alloc (Nat.le_refl _) _).alloc (by simp) _).alloc (by simp; omega) _
      refine ⟨0, [], [], r, .slice none 0 0, .slice none 0 0, .slice none 0 0, Nat.zero_le _, rfl, ?_, Nat.le_refl _, rfl, rfl, rfl, heap_last (by simp), NT.none _ _, by rw [heap_old (by simp; omega), heap_old (by simp), heap_last rfl], World.ownsRow_nil _ _ _ _, trivial, fun _ h => (by cases h), hB0⟩
      first
        | exact .inr ⟨g, o + 5, cap - 1, rfl, by omega, by unfold maxLen; omega, hg, HP.out.carry hB0 (by omega)⟩
        | (have hr0 : r.length = 0 := by omega
           rw [hr0]
           exact .inl ⟨List.length_eq_zero_iff.1 hr0, _, _, rfl⟩)
    case round =>
      obtain ⟨j, done, cs, rest, va, vn, vt, hj, rfl, hpv, hrl, hdl, hd1, hd2, hbox, hnt, hres, hown, hvals, hex, hB⟩ := hrel
      obtain ⟨⟨xn, ln, cn, rfl⟩, ⟨xt, lt, ct, rfl⟩⟩ := hnt.shapes
      have HNT := Lib.hid hnt
      have HV := Lib.hid hvals
      have HX := Lib.hid hex
      have HD := Lib.hid (And.intro hd1 (And.intro hd2 hdl))
      have HPV := Lib.hid hpv
      have HBX := Lib.hid hbox
      have HRES := Lib.hid hres
      have HOWN := Lib.hid hown
      clear hvals hex hd1 hd2 hdl hpv hbox hres hown hnt
      by_cases hlt : j < m
      · have hi' : (j : Int) < (m : Int) := by omega
        have cc := Lib.hid (IH.out rest u0 wr (Nat.le_trans hBw hB.size) hrl HPV.out)
        obtain ⟨xa, ca, hva⟩ : ∃ x c, va = .slice x done.length c := by
          rcases HOWN.out.2 with ⟨h, h0⟩ | ⟨gx, cx, cur, h, _⟩
          · exact ⟨none, 0, by rw [h, h0]⟩
          · exact ⟨_, _, h⟩
        subst hva
        have hl2 : w.heap.size + 1 + 1 < wr.heap.size := by
          rcases Nat.lt_or_ge (w.heap.size + 1 + 1) wr.heap.size with h | h
          · exact h
          · have := HBX.out; rw [Array.getElem?_eq_none h] at this; cases this
        go_wp2_with fail
        refine cc.out.mono ?_
        rintro e' w2 ⟨c0, c1, c2, c3, c4, c5, c6, rest2, rfl, hex2, hpv2, hB2⟩
        obtain ⟨⟨x3, l3, e3, rfl⟩, ⟨x4, l4, e4, rfl⟩, ⟨x5, l5, e5, rfl⟩, ⟨x6, l6, e6, rfl⟩⟩ := hex2.shapes
        obtain ⟨k2, s2, n2, rfl, rfl, rfl⟩ := hex2.heads
        have HX2 := Lib.hid hex2
        have HPV2 := Lib.hid hpv2
        clear hex2 hpv2 cc
        have hbw := hB.size
        have hbw2 := hB2.size
        have hbox2 := Lib.hid ((hB2.block _ (by omega)).trans HBX.out)
        have hres2 := Lib.hid ((hB2.block _ (by omega)).trans HRES.out)
        have hown2 := Lib.hid ((own_below HOWN.out hB2).alloc (.cells #[.int .i64 k2, .string s2, .int .i64 n2, .slice x3 l3 e3, .slice x4 l4 e4, .slice x5 l5 e5, .slice x6 l6 e6] 33))
        have hb3 : (w2.alloc (.cells #[.int .i64 k2, .string s2, .int .i64 n2, .slice x3 l3 e3, .slice x4 l4 e4, .slice x5 l5 e5, .slice x6 l6 e6] 33)).heap[w.heap.size + 1 + 1]? = _ := (heap_old (by omega)).trans hbox2.out
        have b3 := Lib.cell_of_heap hb3 3
        simp only [List.getElem?_toArray, List.getElem?_cons_zero, List.getElem?_cons_succ] at b3
        have hn := new_cells (w2.alloc (.cells #[.int .i64 k2, .string s2, .int .i64 n2, .slice x3 l3 e3, .slice x4 l4 e4, .slice x5 l5 e5, .slice x6 l6 e6] 33)) [.int .i64 k2, .string s2, .int .i64 n2, .slice x3 l3 e3, .slice x4 l4 e4, .slice x5 l5 e5, .slice x6 l6 e6] 33
        rw [World.size_alloc] at hn
        have HN := Lib.hid hn
        clear hn
        have HO := Lib.hid (hown2.out.alloc (.cells #[.int .i64 k2, .string s2, .int .i64 n2, .slice x3 l3 e3, .slice x4 l4 e4, .slice x5 l5 e5, .slice x6 l6 e6] 33))
        have h1 : ∀ u ∈ ([.int .i64 k2, .string s2, .int .i64 n2, .slice x3 l3 e3, .slice x4 l4 e4, .slice x5 l5 e5, .slice x6 l6 e6] : List Value), u.oneCell' = true := by
          intro u hu
          simp only [List.mem_cons, List.not_mem_nil, or_false] at hu
          rcases hu with rfl | rfl | rfl | rfl | rfl | rfl | rfl <;> rfl
        have H1 := Lib.hid h1
        have hdn : done.length ≤ 3 := by have := HD.out.2.2; omega
        clear h1
        go_wp2_with (at_builtin; (refine wpList_append_own_at _ rfl (.tmp 149) (.tmp 151) _ rfl (w.heap.size + 3) 33 i0 _ 7 128 Tryd.underlying28 hi hz0 hz1 hz2 rfl (by decide) (.slice xa done.length ca) done.length cs.flatten rfl HO.out ⟨w2.heap.size + 1, 0, none⟩ 1 1 [.int .i64 k2, .string s2, .int .i64 n2, .slice x3 l3 e3, .slice x4 l4 e4, .slice x5 l5 e5, .slice x6 l6 e6] rfl rfl HN.out H1.out (by unfold maxLen; omega) (by omega) (by simp; omega) ?_); (intro v' w5 hown5 hg5 _ hat5); (obtain ⟨g5, cap5, rfl⟩ : ∃ g c, v' = .slice (some ⟨g, 0, none⟩) (done.length + 1) c := (by rcases hown5.2 with ⟨_, h⟩ | ⟨g, c, _, h, _⟩; exact absurd h (Nat.succ_ne_zero _); exact ⟨g, c, h⟩)); (have hB6 : Below (w.heap.size + 3) ((w2.alloc (.cells #[.int .i64 k2, .string s2, .int .i64 n2, .slice x3 l3 e3, .slice x4 l4 e4, .slice x5 l5 e5, .slice x6 l6 e6] 33)).alloc (.cells #[.int .i64 k2, .string s2, .int .i64 n2, .slice x3 l3 e3, .slice x4 l4 e4, .slice x5 l5 e5, .slice x6 l6 e6] 33)) w5 := (Below.refl _ _).grown hg5 (by simp; omega) (fun q hq => (HO.out.lt q hq).1)); (have hb5 := (hB6.block (w.heap.size + 1 + 1) (by omega)).trans ((heap_old (by simp; omega)).trans hb3)); (have c5 := Lib.cell_of_heap hb5 3); (have fz5 := Lib.frozen_of_heap hb5 3); (simp only [List.getElem?_toArray, List.getElem?_cons_zero, List.getElem?_cons_succ] at c5))
        obtain ⟨hd1, hd2, hdl⟩ := HD.out
        obtain ⟨m', hm'⟩ : ∃ m', m - j = m' + 1 := ⟨m - j - 1, by omega⟩
        have hmj : m - (j + 1) = m' := by omega
        rw [hm'] at hd1 hd2
        simp only [argsL] at hd1 hd2
        have hA2 : Below w2.heap.size w2 ((w2.alloc (.cells #[.int .i64 k2, .string s2, .int .i64 n2, .slice x3 l3 e3, .slice x4 l4 e4, .slice x5 l5 e5, .slice x6 l6 e6] 33)).alloc (.cells #[.int .i64 k2, .string s2, .int .i64 n2, .slice x3 l3 e3, .slice x4 l4 e4, .slice x5 l5 e5, .slice x6 l6 e6] 33)) :=
          ((Below.refl _ _).alloc (Nat.le_refl _) _).alloc (by simp) _
        have hBe1 : Below (w.heap.size + 1) w2 (w5.setCell ⟨w.heap.size + 1 + 1, 3, none⟩ (.slice (some ⟨g5, 0, none⟩) (done.length + 1) cap5)) :=
          ((hA2.mono (by omega)).trans (hB6.mono (by omega))).setCell (p := ⟨w.heap.size + 1 + 1, 3, none⟩) (by simp only; omega) _
        have hBe := hBe1.mono (Nat.le_succ w.heap.size)
        have hq : ∀ q, (Value.slice xa done.length ca).ownBlock = some q → q < wr.heap.size := fun q h => (HOWN.out.lt q h).2
        have hkr := round_keeps (w0 := w.heap.size) hB2 hA2 hg5 hat5 3 (.slice (some ⟨g5, 0, none⟩) (done.length + 1) cap5)
        have hvr := vals_round HV.out HX2.out rfl hB2 hA2 hg5 hq hat5 hl2 3 (.slice (some ⟨g5, 0, none⟩) (done.length + 1) cap5)
        refine ⟨⟨j + 1, done ++ [(ofL f rest).1], cs ++ [[.int .i64 k2, .string s2, .int .i64 n2, .slice x3 l3 e3, .slice x4 l4 e4, .slice x5 l5 e5, .slice x6 l6 e6]], (ofL f rest).2, .slice (some ⟨g5, 0, none⟩) (done.length + 1) cap5, .slice xn ln cn, .slice xt lt ct, hlt, by simp, HPV2.out.carry' hBe hBw, Nat.le_trans (ofL_fine f rest).1 hrl, by simp [hdl], ?_, ?_, ?_, HNT.out.carry hkr.1 hkr.2, ?_, ?_, hvr, ?_, hB.trans ((hB2.mono hbw).trans hBe)⟩, ?_⟩
        · rw [hmj, List.append_assoc]; exact hd1
        · rw [hmj]; exact hd2
        · have := heap_setCell_same _ _ 3 _ _ (.slice (some ⟨g5, 0, none⟩) (done.length + 1) cap5) hb5
          simpa using this
        · exact (hBe1.block w.heap.size (by omega)).trans hres2.out
        · rw [List.length_append, List.flatten_append]
          have := ownsRow_setCell_below hown5 (a := ⟨w.heap.size + 1 + 1, 3, none⟩) (by simp only; omega) (.slice (some ⟨g5, 0, none⟩) (done.length + 1) cap5)
          simpa using this
        · intro x hx
          rcases List.mem_append.1 hx with h | h
          · exact HX.out x h
          · rw [List.mem_singleton.1 h]; exact ofL_ex f rest
        · simp [intOf]; omega
      · have hi' : ¬ (j : Int) < (m : Int) := by omega
        obtain ⟨xa, ca, hva⟩ : ∃ x c, va = .slice x done.length c := by
          rcases HOWN.out.2 with ⟨h, h0⟩ | ⟨gx, cx, cur, h, _⟩
          · exact ⟨none, 0, by rw [h, h0]⟩
          · exact ⟨_, _, h⟩
        subst hva
        obtain ⟨hd1, hd2, hdl⟩ := HD.out
        have hjm : m - j = 0 := by omega
        rw [hjm] at hd1 hd2
        have hd1' : done = (argsL (ofL f) m r).1 := by simpa [argsL] using hd1
        have hd2' : rest = (argsL (ofL f) m r).2 := by simpa [argsL] using hd2
        have HE := Lib.hid (And.intro hd1' hd2')
        clear hd1 hd2 hd1' hd2' hdl hjm
        have b0 := Lib.cell_of_heap HBX.out 0
        have b1 := Lib.cell_of_heap HBX.out 1
        have b2 := Lib.cell_of_heap HBX.out 2
        have b3 := Lib.cell_of_heap HBX.out 3
        have b4 := Lib.cell_of_heap HBX.out 4
        have b5 := Lib.cell_of_heap HBX.out 5
        have b6 := Lib.cell_of_heap HBX.out 6
        have r0 := Lib.cell_of_heap HRES.out 0
        have r1 := Lib.cell_of_heap HRES.out 1
        have r2 := Lib.cell_of_heap HRES.out 2
        have r3 := Lib.cell_of_heap HRES.out 3
        have r4 := Lib.cell_of_heap HRES.out 4
        have r5 := Lib.cell_of_heap HRES.out 5
        have r6 := Lib.cell_of_heap HRES.out 6
        have f0 := Lib.frozen_of_heap HRES.out 0
        have f1 := Lib.frozen_of_heap HRES.out 1
        have f2 := Lib.frozen_of_heap HRES.out 2
        have f3 := Lib.frozen_of_heap HRES.out 3
        have f4 := Lib.frozen_of_heap HRES.out 4
        have f5 := Lib.frozen_of_heap HRES.out 5
        have f6 := Lib.frozen_of_heap HRES.out 6
        simp only [List.getElem?_toArray, List.getElem?_cons_zero, List.getElem?_cons_succ] at b0 b1 b2 b3 b4 b5 b6 r0 r1 r2 r3 r4 r5 r6
        go_wp2_with fail
        refine bodyPost_ret (v := .tuple #[.agg #[.int .i64 (k % 21), .string s, .int .i64 n, .slice xa done.length ca, .slice xn ln cn, .slice xt lt ct, .slice none 0 0], u0]) (by simp [results, Tryd.results10, go_sem, r0, r1, r2, r3, r4, r5, r6]) rfl ?_
        have hBf : ∀ C, C ≤ w.heap.size → Below C wr (((((((wr.setCell ⟨w.heap.size, 0, none⟩ (.int .i64 (k % 21))).setCell ⟨w.heap.size, 1, none⟩ (.string s)).setCell ⟨w.heap.size, 2, none⟩ (.int .i64 n)).setCell ⟨w.heap.size, 3, none⟩ (.slice xa done.length ca)).setCell ⟨w.heap.size, 4, none⟩ (.slice xn ln cn)).setCell ⟨w.heap.size, 5, none⟩ (.slice xt lt ct)).setCell ⟨w.heap.size, 6, none⟩ (.slice none 0 0)) := fun C hC =>
          (((((((Below.refl C wr).setCell (p := ⟨w.heap.size, 0, none⟩) hC _).setCell (p := ⟨w.heap.size, 1, none⟩) hC _).setCell (p := ⟨w.heap.size, 2, none⟩) hC _).setCell (p := ⟨w.heap.size, 3, none⟩) hC _).setCell (p := ⟨w.heap.size, 4, none⟩) hC _).setCell (p := ⟨w.heap.size, 5, none⟩) hC _).setCell (p := ⟨w.heap.size, 6, none⟩) hC _
        have hkp : ∀ b, b ≠ w.heap.size → (((((((wr.setCell ⟨w.heap.size, 0, none⟩ (.int .i64 (k % 21))).setCell ⟨w.heap.size, 1, none⟩ (.string s)).setCell ⟨w.heap.size, 2, none⟩ (.int .i64 n)).setCell ⟨w.heap.size, 3, none⟩ (.slice xa done.length ca)).setCell ⟨w.heap.size, 4, none⟩ (.slice xn ln cn)).setCell ⟨w.heap.size, 5, none⟩ (.slice xt lt ct)).setCell ⟨w.heap.size, 6, none⟩ (.slice none 0 0)).heap[b]? = wr.heap[b]? := fun b hb => by
          rw [RowKit.Below.heap_setCell _ _ _ _ hb, RowKit.Below.heap_setCell _ _ _ _ hb, RowKit.Below.heap_setCell _ _ _ _ hb, RowKit.Below.heap_setCell _ _ _ _ hb, RowKit.Below.heap_setCell _ _ _ _ hb, RowKit.Below.heap_setCell _ _ _ _ hb, RowKit.Below.heap_setCell _ _ _ _ hb]
        have hsz := (hBf w.heap.size (Nat.le_refl _)).size
        generalize (((((((wr.setCell ⟨w.heap.size, 0, none⟩ (.int .i64 (k % 21))).setCell ⟨w.heap.size, 1, none⟩ (.string s)).setCell ⟨w.heap.size, 2, none⟩ (.int .i64 n)).setCell ⟨w.heap.size, 3, none⟩ (.slice xa done.length ca)).setCell ⟨w.heap.size, 4, none⟩ (.slice xn ln cn)).setCell ⟨w.heap.size, 5, none⟩ (.slice xt lt ct)).setCell ⟨w.heap.size, 6, none⟩ (.slice none 0 0)) = wf at *
        have hbw := hB.size
        refine ⟨_, _, _, _, _, _, _, _, rfl, ?_, ?_, hB.trans (hBf _ (Nat.le_refl _))⟩
        · rw [HF.out, ← HE.out.1]
          have hnt' := HNT.out.carry (S' := fun b => w.heap.size < b ∧ b < wf.heap.size) (fun b hb => hkp b (by have := hb.1; omega)) (fun b hb => ⟨by have := hb.1; omega, by have := hb.2.1; omega⟩)
          obtain ⟨gn, on, gt, ot, n1, n2, n3, n4⟩ := hnt'
          rcases HOWN.out.2 with ⟨hv, hl⟩ | ⟨gx, cx, cur, hv, hgx, hgh, hcx, hmx, _⟩
          · simp only [Value.slice.injEq] at hv
            obtain ⟨rfl, -, rfl⟩ := hv
            have hd0 : done = [] := List.length_eq_zero_iff.1 hl
            subst hd0
            exact ⟨_, _, _, _, _, _, _, [], [], [], [], 0, 0, gn, on, gt, ot, 0, 0, rfl, rfl, .inl ⟨rfl, rfl⟩, n1, n2, .inl ⟨rfl, rfl⟩, fun _ h => absurd h (Nat.not_lt_zero _), n3, n4, fun _ h => absurd h (Nat.not_lt_zero _), fun _ h => (by cases h), fun _ h => (by cases h)⟩
          · cases hv
            have hgl : gx < wr.heap.size := by
              rcases Nat.lt_or_ge gx wr.heap.size with h | h
              · exact h
              · rw [Array.getElem?_eq_none h] at hgh; cases hgh
            have htr := row_trees (S' := fun b => w.heap.size < b ∧ b < wf.heap.size) HV.out HOWN.out (fun b hb => hkp b (by have := hb.1; omega)) (fun b hb => ⟨by have := hb.1; omega, by have := hb.2.1; omega⟩) ⟨by omega, by omega⟩ (hkp gx (by omega))
            exact ⟨_, _, _, _, _, _, _, [], [], done, [], gx, 0, gn, on, gt, ot, 0, 0, rfl, rfl, .inr ⟨ca, rfl, hcx, hmx, ⟨by omega, by omega⟩⟩, n1, n2, .inl ⟨rfl, rfl⟩, htr, n3, n4, fun _ h => absurd h (Nat.not_lt_zero _), HX.out, fun _ h => (by cases h)⟩
        · rw [HF.out]
          simp only
          rw [← HE.out.2]
          exact HPV.out.carry (hBf B hBw)
end Go.Proofs.YtoopndgdaiblpaaDoor
