/- tree.Check at a fair tree. -/
import Derived.Test.YtoopndgdaiblpaaDoorSize
import Derived.Test.YtoopndgdaiblpaaDoorRangeB
import Derived.Test.YtoopndgdaiblpaaDoorFit1
namespace Go.Proofs.YtoopndgdaiblpaaDoor
open Go.ChangeShapes Go.WideShapes Go.ChangeAt Go.RowKit Go.Shelf
attribute [local go_sem] Oper.semAt_some

def partBad (t : Nd) : Prop := partB t = false ∨ ∃ y ∈ ndTypes t, errT y = 2
def partLate (p : Nd × Nat) : Prop := 200 < p.2 ∨ ∃ y ∈ ndTypes p.1, errT y = 4
noncomputable def errE (t : Nd) : Int := open Classical in if ∃ p ∈ trav 1 t, partBad p.1 then 2 else if ∃ p ∈ trav 1 t, partLate p then 4 else 0
/-- What is said of the parts gone by. -/
def Gone (D : Bool) (pre : List It) : Prop := (D = true ↔ ∃ x ∈ pre, partLate (x.t, x.d)) ∧ ∀ x ∈ pre, ¬ partBad x.t
theorem Gone.bad {D : Bool} {xs : List It} {t : Nd} (h : Gone D xs) (hx : xs.map (fun x => (x.t, x.d)) = trav 1 t) : errE t = if D = true then 4 else 0 := by
  unfold errE
  have e1 : ¬ ∃ p ∈ trav 1 t, partBad p.1 := by
    rintro ⟨p, hp, hb⟩
    rw [← hx] at hp
    obtain ⟨x, hx1, rfl⟩ := List.mem_map.1 hp
    exact h.2 x hx1 hb
  have e2 : (∃ p ∈ trav 1 t, partLate p) ↔ D = true := by
    rw [h.1, ← hx]
    constructor
    · rintro ⟨p, hp, hb⟩
      obtain ⟨x, hx1, rfl⟩ := List.mem_map.1 hp
      exact ⟨x, hx1, hb⟩
    · rintro ⟨x, hx1, hb⟩
      exact ⟨_, List.mem_map.2 ⟨x, hx1, rfl⟩, hb⟩
  rw [if_neg e1]
  by_cases hd : D = true
  · rw [if_pos (e2.2 hd), if_pos hd]
  · rw [if_neg (fun h => hd (e2.1 h)), if_neg hd]
theorem errE_bad {t : Nd} {pre : List It} (h : pre.map (fun x => (x.t, x.d)) <+: trav 1 t) (hb : ∃ x ∈ pre, partBad x.t) : errE t = 2 := by
  unfold errE
  obtain ⟨x, hx, hb⟩ := hb
  rw [if_pos ⟨(x.t, x.d), h.subset (List.mem_map.2 ⟨x, hx, rfl⟩), hb⟩]

/-- What is said of the types gone by. -/
def Seen (D1 : Bool) (l : List Ty) (j : Nat) (E : Bool) : Prop := (E = true ↔ D1 = true ∨ ∃ y ∈ l.take j, errT y = 4) ∧ ∀ y ∈ l.take j, errT y ≠ 2
theorem seen_zero (D1 : Bool) (l : List Ty) : Seen D1 l 0 D1 := by simp [Seen]
theorem mem_take_step {l : List Ty} {j : Nat} (h : j < l.length) (y : Ty) : y ∈ l.take (j + 1) ↔ y ∈ l.take j ∨ y = l[j] := by
  rw [List.take_succ_eq_append_getElem h, List.mem_append, List.mem_singleton]
theorem Seen.step0 {D1 E : Bool} {l : List Ty} {j : Nat} (h : j < l.length) (hs : Seen D1 l j E) (he : errT l[j] = 0) : Seen D1 l (j + 1) E := by
  refine ⟨?_, fun y hy => ?_⟩
  · rw [hs.1]
    constructor
    · rintro (a | ⟨y, h1, h2⟩)
      · exact .inl a
      · exact .inr ⟨y, (mem_take_step h y).2 (.inl h1), h2⟩
    · rintro (a | ⟨y, h1, h2⟩)
      · exact .inl a
      · rcases (mem_take_step h y).1 h1 with h1 | rfl
        · exact .inr ⟨y, h1, h2⟩
        · rw [he] at h2; exact absurd h2 (by decide)
  · rcases (mem_take_step h y).1 hy with h1 | rfl
    · exact hs.2 y h1
    · rw [he]; decide
theorem Seen.step4 {D1 E : Bool} {l : List Ty} {j : Nat} (h : j < l.length) (hs : Seen D1 l j E) (he : errT l[j] = 4) : Seen D1 l (j + 1) true := by
  refine ⟨⟨fun _ => .inr ⟨_, (mem_take_step h _).2 (.inr rfl), he⟩, fun _ => rfl⟩, fun y hy => ?_⟩
  rcases (mem_take_step h y).1 hy with h1 | rfl
  · exact hs.2 y h1
  · rw [he]; decide
theorem errT_ways (t : Ty) : errT t = 0 ∨ errT t = 2 ∨ errT t = 4 := by
  unfold errT
  split
  · split
    · exact .inr (.inr rfl)
    · exact .inl rfl
  · exact .inr (.inl rfl)
theorem Seen.all {D E : Bool} {pre : List It} {x : It} (hG : Gone D pre) (hs : Seen (D || decide (200 < x.d)) (ndTypes x.t) (ndTypes x.t).length E) (hf : partB x.t = true) : Gone E (pre ++ [x]) := by
  obtain ⟨h1, h2⟩ := hs
  rw [List.take_length] at h1 h2
  have hl : partLate (x.t, x.d) ↔ 200 < x.d ∨ ∃ y ∈ ndTypes x.t, errT y = 4 := Iff.rfl
  refine ⟨?_, fun y hy => ?_⟩
  · rw [h1, Bool.or_eq_true, hG.1, decide_eq_true_iff]
    constructor
    · rintro ((⟨y, a, b⟩ | a) | a)
      · exact ⟨y, by simp [a], b⟩
      · exact ⟨x, by simp, hl.2 (.inl a)⟩
      · exact ⟨x, by simp, hl.2 (.inr a)⟩
    · rintro ⟨y, a, b⟩
      rcases List.mem_append.1 a with a | a
      · exact .inl (.inl ⟨y, a, b⟩)
      · rw [List.mem_singleton.1 a] at b
        rcases hl.1 b with b | b
        · exact .inl (.inr b)
        · exact .inr b
  · rcases List.mem_append.1 hy with a | a
    · exact hG.2 y a
    · rw [List.mem_singleton.1 a]
      rintro (b | ⟨z, b, c⟩)
      · rw [hf] at b; cases b
      · exact h2 z b c

set_option maxHeartbeats 4000000 in
set_option maxRecDepth 100000 in
theorem check_any (k : Int) (s : ByteArray) (n : Int) (va vn vt vm : Value) (w : World) (t : Nd) (T : TypeId) (v : Value) (hg : w.cell? ⟨0, 0, none⟩ = some (.iface T v)) (hgl : 0 < w.heap.size)
    (hsz : ndSize t ≤ 900000) (ht : NdAt (w.alloc (.cells #[.int .i64 k, .string s, .int .i64 n, va, vn, vt, vm] 33)) (fun b => b < w.heap.size + 1) w.heap.size 0 t) (he : isEx t = true) (hok : Fair t) :
    Calls Tryd.prog 18 #[.agg #[.int .i64 k, .string s, .int .i64 n, va, vn, vt, vm]] w fun e w' => e = .returned (.int .i64 (errE t)) ∧ Below w.heap.size w w' := by
  have HT := Lib.hid (And.intro ht (And.intro he hok))
  have HG := Lib.hid hg
  clear ht he hok hg
  refine (callsIn_wide (n := 5)).1 ?_
  have hf31 : Fence.wide.fn 31 := trivial
  have hf32 : Fence.wide.fn 32 := trivial
  have hf40 : Fence.wide.fn 40 := trivial
  have hdp : Fence.wide.depth.isSome = false := rfl
  refine callsIn_of_wp_marks Tryd.func18 rfl trivial ?_ rfl
  simp only [Tryd.ntmps18, List.size_toArray, List.length_cons, List.length_nil, Nat.reduceAdd, Nat.reduceSub, Array.replicate_succ, Array.replicate_zero, List.push_toArray, List.append_toArray, List.nil_append, List.cons_append]
  gi_wp2_with (gi_at_call 31; refine (callsIn_wide.2 (parts_make _ _)).mono ?_; rintro e w' ⟨rfl, rfl⟩)
  obtain ⟨W0, hW0⟩ : ∃ W0, ((((w.alloc (.cells #[.int .i64 k, .string s, .int .i64 n, va, vn, vt, vm] 33)).alloc (.cells #[.int .i64 0] 41)).alloc (.cells #[.bool false] 4)).alloc (.cells #[.pointer (some ⟨w.heap.size, 0, none⟩)] 55)) = W0 := ⟨_, rfl⟩
  rw [hW0]
  have hs0 : W0.heap.size = w.heap.size + 4 := by rw [← hW0]; simp
  have hB0 : Below w.heap.size w W0 := by
    rw [← hW0]
    exact ((((Below.refl _ _).alloc (Nat.le_refl _) _).alloc (by simp) _).alloc (by simp; omega) _).alloc (by simp; omega) _
  have hE : ∀ b, b < w.heap.size + 1 → W0.heap[b]? = (w.alloc (.cells #[.int .i64 k, .string s, .int .i64 n, va, vn, vt, vm] 33)).heap[b]? := fun b hb => by
    rw [← hW0, heap_old (by simp; omega), heap_old (by simp; omega), heap_old (by simp; omega)]
  have hR0 : W0.heap[w.heap.size + 1]? = some (.cells #[.int .i64 0] 41) := by rw [← hW0, heap_old (by simp), heap_old (by simp), heap_last (by simp)]
  have hC : W0.heap[w.heap.size + 1 + 1]? = some (.cells #[.bool false] 4) := by rw [← hW0, heap_old (by simp), heap_last (by simp)]
  have hP : W0.heap[w.heap.size + 1 + 1 + 1]? = some (.cells #[.pointer (some ⟨w.heap.size, 0, none⟩)] 55) := by rw [← hW0, heap_last (by simp)]
  clear hW0
  have F0 := Lib.hid (And.intro hB0 (And.intro hE (And.intro hR0 (And.intro hC hP))))
  clear hB0 hE hR0 hC hP
  refine range_law_b (gf := 40) (lb := #[.pointer (some ⟨w.heap.size + 1 + 1 + 1, 0, none⟩)]) rfl (enters_of Tryd.func40 (by kernel_rfl) rfl) (encs := encIt) (fun _ => rfl) (S := fun xs => xs.map (fun x => (x.t, x.d)) = trav 1 t) (Sp := fun pre => pre.map (fun x => (x.t, x.d)) <+: trav 1 t) (R := fun pre x => (pre ++ [x]).map (fun x => (x.t, x.d)) <+: trav 1 t ∧ NdAt W0 (fun b => b < w.heap.size + 1) x.b x.o x.t)
    (M := fun b => b = w.heap.size + 1 ∨ b = w.heap.size + 1 + 1) (fun b hb => by omega) ?iter
    (fun pre B => (∃ D, B.heap[w.heap.size + 1 + 1]? = some (.cells #[.bool D] 4) ∧ Gone D pre) ∧ B.heap[w.heap.size + 1]? = some (.cells #[.int .i64 0] 41) ∧ Below w.heap.size w B ∧ ∀ b, b < w.heap.size + 1 → B.heap[b]? = W0.heap[b]?)
    (fun pre B => (∃ x ∈ pre, partBad x.t) ∧ B.heap[w.heap.size + 1]? = some (.cells #[.int .i64 2] 41) ∧ Below w.heap.size w B) ?hI ?hIx ⟨⟨false, F0.out.2.2.2.1, ⟨⟨fun h => (by cases h), fun ⟨_, h, _⟩ => (by cases h)⟩, fun _ h => (by cases h)⟩⟩, F0.out.2.2.1, F0.out.1, fun _ _ => rfl⟩
    (fun x a' B => ∃ q, w.heap.size + 6 ≤ q ∧ B.heap[q]? = some (.cells (pcell x).toArray 76) ∧ a' = { tmps := #[.agg #[.int .i64 k, .string s, .int .i64 n, va, vn, vt, vm], .pointer (some ⟨w.heap.size, 0, none⟩), .pointer (some ⟨w.heap.size + 1, 0, none⟩), .pointer (some ⟨w.heap.size + 1 + 1, 0, none⟩), .pointer (some ⟨q, 0, none⟩), .int .i64 x.d, undef, undef, undef, .func (.func 40) #[] #[.pointer (some ⟨w.heap.size + 1 + 1 + 1, 0, none⟩)], .agg (pcell x).toArray, .int .i64 x.d, undef, undef, undef, undef, undef, undef, undef, undef, undef, undef, undef, undef, undef, undef, undef, undef, undef, undef, undef, undef, undef, undef, undef, undef, undef, undef, undef, undef], defers := [] }) ?hAx ?assign ?body ?done ?stop
  case iter =>
    intro A hA hB
    refine parts_iter _ _ (w.heap.size + 1 + 1 + 1) w.heap.size 0 t (fun b => b < w.heap.size + 1) _ A ?_ HT.out.2.1 (HT.out.1.carry (fun b hb => ?_) fun _ h => h) (fun b hb => ⟨by omega, by omega⟩) (fun b hb => by omega) hsz _ (fun pre x h1 h2 => ⟨h1, h2.carry (fun b hb => ?_) fun _ h => h⟩)
    · rw [Lib.cell_of_heap ((hB.block _ (by omega)).trans F0.out.2.2.2.2) 0]; rfl
    · rw [hB.block b (by omega), F0.out.2.1 b hb]
    · exact (hB.block b (by omega)).symm
  case hI =>
    rintro pre B B' ⟨⟨D, h1, hG⟩, h2, h3, h4⟩ hb
    exact ⟨⟨D, (hb.block _ (by omega)).trans h1, hG⟩, (hb.block _ (by omega)).trans h2, h3.trans (hb.mono (by omega)), fun b hb' => (hb.block b (by omega)).trans (h4 b hb')⟩
  case hIx =>
    rintro pre B B' ⟨h1, h2, h3⟩ hb
    exact ⟨h1, (hb.block _ (by omega)).trans h2, h3.trans (hb.mono (by omega))⟩
  case hAx =>
    rintro x a' B B' ⟨q, h1, h2, h3⟩ hF
    exact ⟨q, h1, (hF.block q (Array.getElem?_eq_some_iff.1 h2).1 (fun h => by omega)).trans h2, h3⟩
  case assign =>
    intro x B K hBs hK
    unfold encIt
    by_cases hex : isEx x.t = true
    · have hp : pcell x = [.pointer (some ⟨x.b, x.o, none⟩), .pointer none, .int .i64 x.d] := by unfold pcell; rw [if_pos hex]
      have HP := Lib.hid hp
      rw [hp]
      clear hp
      gi_wp2
      exact hK _ _ ((Free.refl _ B).alloc _) ⟨B.heap.size, by omega, by rw [HP.out]; exact heap_last rfl, by rw [HP.out]⟩
    · have hp : pcell x = [.pointer none, .pointer (some ⟨x.b, x.o, none⟩), .int .i64 x.d] := by unfold pcell; rw [if_neg hex]
      have HP := Lib.hid hp
      rw [hp]
      clear hp
      gi_wp2
      exact hK _ _ ((Free.refl _ B).alloc _) ⟨B.heap.size, by omega, by rw [HP.out]; exact heap_last rfl, by rw [HP.out]⟩
  case body =>
    rintro pre x a' B ⟨⟨D, h1, hG⟩, h2, h3, h4⟩ ⟨q, hq, hqc, rfl⟩ ⟨hR, hnd⟩ hBs
    have hfx : Fair x.t := HT.out.2.2.trav 1 (x.t, x.d) (hR.subset (by simp))
    have hql : q < B.heap.size := (Array.getElem?_eq_some_iff.1 hqc).1
    have hSB : ∀ b, b < w.heap.size + 1 → b < B.heap.size := fun b hb => by omega
    obtain ⟨ty, gt, ot, hsl, htys, hcf⟩ := fits_it (fun b => b < w.heap.size + 1) x T v B ((h3.cell (p := ⟨0, 0, none⟩) hgl).trans HG.out) (by omega) hSB (hnd.carry (fun b hb => h4 b hb) fun _ h => h) hfx
    obtain ⟨xt, ct, rfl, hxt⟩ := hsl.shape
    obtain ⟨u0, u1, hp⟩ : ∃ u0 u1, pcell x = [u0, u1, .int .i64 x.d] := by unfold pcell; split <;> exact ⟨_, _, rfl⟩
    rw [hp] at hqc hcf
    have e0 := Lib.cell_of_heap hqc 0
    have e1 := Lib.cell_of_heap hqc 1
    have e2 := Lib.cell_of_heap hqc 2
    simp only [List.getElem?_toArray, List.getElem?_cons_zero, List.getElem?_cons_succ] at e0 e1 e2
    have CF := Lib.hid hcf
    have H1 := Lib.hid (And.intro h1 (And.intro h2 (And.intro h3 h4)))
    have HF := Lib.hid (And.intro hG (And.intro hfx (And.intro hxt htys)))
    have hdp2 : (Fence.wide.inRound (W0.heap.size + 1)).depth.isSome = false := rfl
    have hf32' : (Fence.wide.inRound (W0.heap.size + 1)).fn 32 := trivial
    obtain ⟨nt, hnt⟩ : ∃ nt, (ndTypes x.t).length = nt := ⟨_, rfl⟩
    obtain ⟨fb, hfb⟩ : ∃ fb, partB x.t = fb := ⟨_, rfl⟩
    rw [hfb, hnt] at CF
    have HN := Lib.hid (And.intro hnt hfb)
    clear h1 h2 h3 h4 hR hnd hp hqc hcf hsl hxt htys hG hfx hnt hfb
    cases fb with
    | false =>
      gi_wp2_with (gi_at_call 32; refine (CallsIn.inRound _ (callsIn_wide.2 CF.out)).mono ?_; rintro e3 W2 ⟨vv, rfl, -, hB2⟩; have hs2 := hB2.size; have hc2 := (hB2.block (w.heap.size + 1) (by omega)).trans H1.out.2.1; have c2 := Lib.cell_of_heap hc2 0; have f2 := Lib.frozen_of_heap hc2 0; simp only [List.getElem?_toArray, List.getElem?_cons_zero] at c2)
      have hF2 : Free (fun b => b = w.heap.size + 1 ∨ b = w.heap.size + 1 + 1) B W2 := ⟨hB2.os, hB2.tape, hB2.output, hB2.size, fun k hk _ => hB2.block k hk⟩
      have hbad : partBad x.t := .inl HN.out.2
      refine ⟨hF2.setCell (p := ⟨w.heap.size + 1, 0, none⟩) (.inl rfl) _, ⟨x, by simp, hbad⟩, ?_, (H1.out.2.2.1.trans (hB2.mono (by omega))).setCell (p := ⟨w.heap.size + 1, 0, none⟩) (by simp only; omega) _⟩
      have h := heap_setCell_same _ _ 0 _ _ (.int .i64 2) hc2
      simpa using h
    | true =>
      have c0 := Lib.cell_of_heap H1.out.1 0
      simp only [List.getElem?_toArray, List.getElem?_cons_zero] at c0
      obtain ⟨D1, hD1⟩ : ∃ D1 : Bool, (D || decide (200 < x.d)) = D1 := ⟨_, rfl⟩
      have HD := Lib.hid hD1
      clear c0
      cases D with
      | true =>
        obtain rfl : D1 = true := by rw [← hD1]; rfl
        clear hD1
        gi_wp2_with (gi_at_call 32; refine (CallsIn.inRound _ (callsIn_wide.2 CF.out)).mono ?_; rintro e3 W2 ⟨vv, rfl, hvv, hB2⟩; obtain rfl := hvv rfl; have hs2 := hB2.size; have hc2 := (hB2.block (w.heap.size + 1 + 1) (by omega)).trans H1.out.1; have c2 := Lib.cell_of_heap hc2 0; have f2 := Lib.frozen_of_heap hc2 0; simp only [List.getElem?_toArray, List.getElem?_cons_zero] at c2)

        have hF2 : Free (fun b => b = w.heap.size + 1 + 1) B W2 := ⟨hB2.os, hB2.tape, hB2.output, hB2.size, fun k hk _ => hB2.block k hk⟩
        have hW3 := hF2.setCell (p := ⟨w.heap.size + 1 + 1, 0, none⟩) rfl (.bool true)
        have hb3 : (W2.setCell ⟨w.heap.size + 1 + 1, 0, none⟩ (.bool true)).heap[w.heap.size + 1 + 1]? = some (.cells #[.bool true] 4) := by
          have h := heap_setCell_same _ _ 0 _ _ (.bool true) hc2
          simpa using h
        obtain ⟨W3, hW3e⟩ : ∃ W3, W2.setCell ⟨w.heap.size + 1 + 1, 0, none⟩ (.bool true) = W3 := ⟨_, rfl⟩
        rw [hW3e]
        rw [hW3e] at hW3 hb3
        have H3 := Lib.hid (And.intro hb3 hW3)
        clear hW3e hW3 hb3 hF2
        gi_loopw [26] (fun i wr => ∃ (j : Nat) (E : Bool), i = .int .i64 j ∧ j ≤ nt ∧ wr.heap[w.heap.size + 1 + 1]? = some (.cells #[.bool E] 4) ∧ Seen true (ndTypes x.t) j E ∧ Free (fun b => b = w.heap.size + 1 + 1) B wr) (fun i _ => match i with | .int _ z => nt - z.toNat | _ => 0)
        case atStart => exact ⟨0, true, rfl, Nat.zero_le _, H3.out.1, seen_zero _ _, H3.out.2⟩
        case round =>
          obtain ⟨j, E, rfl, hj, hbE, hSn, hFr⟩ := hrel
          have hrs := hFr.size
          have HR := Lib.hid (And.intro hbE (And.intro hSn hFr))
          clear hbE hSn hFr
          by_cases hlt : j < nt
          · have hi' : (j : Int) < (nt : Int) := by omega
            have hjl : j < (ndTypes x.t).length := by have := HN.out.1; omega
            obtain ⟨rfl, hc1, hcx, _⟩ := HF.out.2.2.1 (by have := HN.out.1; omega)
            rw [HN.out.1] at hc1
            unfold maxLen at hcx
            have hkp : ∀ b, b < w.heap.size + 1 → wr.heap[b]? = B.heap[b]? := fun b hb => HR.out.2.2.block b (by omega) (by omega)
            obtain ⟨k1, s1, xa1, xl1, na1, ca1, nl1, cl1, o1, sb, c0, c1, c2', c3, c4, hv1⟩ := (HF.out.2.2.2 j hjl).carry (fun b hb => hkp b hb) (fun _ h => h) |>.open_
            have hgl0 := hgl
            have hgl : gt < wr.heap.size := by omega
            have hty := HF.out.2.1.types _ (List.getElem_mem hjl)
            have hBw : Below w.heap.size B wr := ⟨HR.out.2.2.os, HR.out.2.2.tape, HR.out.2.2.output, HR.out.2.2.size, fun b hb => HR.out.2.2.block b (by omega) (by omega)⟩
            have hEr : ErrAt T v wr := ⟨((H1.out.2.2.1.trans hBw).cell (p := ⟨0, 0, none⟩) hgl0).trans HG.out, by omega⟩
            have HBW := Lib.hid hBw
            have CT := Lib.hid (checkType_v T v (fun b => b < w.heap.size + 1) k1 s1 (.slice xa1 na1 ca1) (.slice xl1 nl1 cl1) o1 wr _ hEr hty.2 hty.1 (fun b hb => by omega) hv1)
            clear hv1 sb hty hEr hkp hBw
            obtain ⟨ee, hee⟩ : ∃ ee, errT (ndTypes x.t)[j] = ee := ⟨_, rfl⟩
            have hway := errT_ways (ndTypes x.t)[j]
            unfold ctGives at CT
            rw [hee] at CT hway
            have HEE := Lib.hid hee
            clear hee
            have hf33 : Fence.wide.fn 16 := trivial
            rcases hway with rfl | rfl | rfl
            · gi_wp2_with (gi_at_call 16; refine (CallsIn.inRound _ (callsIn_wide.2 CT.out)).mono ?_; rintro e9 w9 ⟨rfl, hB9⟩; have hs9 := hB9.size; have hb9 := (hB9.block (w.heap.size + 1 + 1) (by omega)).trans HR.out.1)
              go_roundw
              case rel => exact ⟨j + 1, E, rfl, hlt, hb9, HR.out.2.1.step0 hjl HEE.out, HR.out.2.2.trans ⟨hB9.os, hB9.tape, hB9.output, hB9.size, fun k hk _ => hB9.block k hk⟩⟩
              case measure => simp only; omega
            · gi_wp2_with (gi_at_call 16; refine (CallsIn.inRound _ (callsIn_wide.2 CT.out)).mono ?_; rintro e9 w9 ⟨rfl, hB9⟩; have hs9 := hB9.size; have hb9 := ((hB9.block (w.heap.size + 1) (by omega)).trans (HR.out.2.2.block (w.heap.size + 1) (by omega) (by omega))).trans H1.out.2.1; have c9 := Lib.cell_of_heap hb9 0; have f9 := Lib.frozen_of_heap hb9 0; simp only [List.getElem?_toArray, List.getElem?_cons_zero] at c9)
              have hF9 : Free (fun b => b = w.heap.size + 1 ∨ b = w.heap.size + 1 + 1) B w9 := ⟨hB9.os.trans HR.out.2.2.os, hB9.tape.trans HR.out.2.2.tape, hB9.output.trans HR.out.2.2.output, Nat.le_trans HR.out.2.2.size hB9.size, fun k hk hn => (hB9.block k (by omega)).trans (HR.out.2.2.block k hk (fun h => hn (.inr h)))⟩
              have hbad : partBad x.t := .inr ⟨_, List.getElem_mem hjl, HEE.out⟩
              refine ⟨hF9.setCell (p := ⟨w.heap.size + 1, 0, none⟩) (.inl rfl) _, ⟨x, by simp, hbad⟩, ?_, ((H1.out.2.2.1.trans HBW.out).trans (hB9.mono (by omega))).setCell (p := ⟨w.heap.size + 1, 0, none⟩) (by simp only; omega) _⟩
              have h := heap_setCell_same _ _ 0 _ _ (.int .i64 2) hb9
              simpa using h
            · gi_wp2_with (gi_at_call 16; refine (CallsIn.inRound _ (callsIn_wide.2 CT.out)).mono ?_; rintro e9 w9 ⟨rfl, hB9⟩; have hs9 := hB9.size; have hb9 := (hB9.block (w.heap.size + 1 + 1) (by omega)).trans HR.out.1; have c9 := Lib.cell_of_heap hb9 0; have f9 := Lib.frozen_of_heap hb9 0; simp only [List.getElem?_toArray, List.getElem?_cons_zero] at c9)
              have h9 : (w9.setCell ⟨w.heap.size + 1 + 1, 0, none⟩ (.bool true)).heap[w.heap.size + 1 + 1]? = some (.cells #[.bool true] 4) := by
                have h := heap_setCell_same _ _ 0 _ _ (.bool true) hb9
                simpa using h
              have hF9 : Free (fun b => b = w.heap.size + 1 + 1) B w9 := HR.out.2.2.trans ⟨hB9.os, hB9.tape, hB9.output, hB9.size, fun k hk _ => hB9.block k hk⟩
              go_roundw
              case rel => exact ⟨j + 1, true, rfl, hlt, h9, HR.out.2.1.step4 hjl HEE.out, hF9.setCell (p := ⟨w.heap.size + 1 + 1, 0, none⟩) rfl _⟩
              case measure => simp only; omega
          · obtain rfl : j = nt := by omega
            gi_wp2
            have hSa : Seen (true || decide (200 < x.d)) (ndTypes x.t) (ndTypes x.t).length E := by
              rw [HN.out.1, HD.out]; exact HR.out.2.1
            refine ⟨⟨HR.out.2.2.os, HR.out.2.2.tape, HR.out.2.2.output, HR.out.2.2.size, fun k hk hn => HR.out.2.2.block k hk fun h => hn (.inr h)⟩, ⟨E, HR.out.1, Seen.all HF.out.1 hSa HN.out.2⟩, (HR.out.2.2.block _ (by omega) (by omega)).trans H1.out.2.1, H1.out.2.2.1.trans ⟨HR.out.2.2.os, HR.out.2.2.tape, HR.out.2.2.output, HR.out.2.2.size, fun b hb => HR.out.2.2.block b (by omega) (by omega)⟩, fun b hb => (HR.out.2.2.block b (by omega) (by omega)).trans (H1.out.2.2.2 b hb)⟩
      | false =>
        have hD2 : decide ((200 : Int) < (x.d : Int)) = D1 := by rw [← hD1]; simp only [Bool.false_or]; congr 1; simp only [eq_iff_iff]; omega
        have HD2 := Lib.hid hD2
        clear hD1 hD2
        gi_wp2_with (gi_at_call 32; refine (CallsIn.inRound _ (callsIn_wide.2 CF.out)).mono ?_; rintro e3 W2 ⟨vv, rfl, hvv, hB2⟩; obtain rfl := hvv rfl; have hs2 := hB2.size; have hc2 := (hB2.block (w.heap.size + 1 + 1) (by omega)).trans H1.out.1; have c2 := Lib.cell_of_heap hc2 0; have f2 := Lib.frozen_of_heap hc2 0; simp only [List.getElem?_toArray, List.getElem?_cons_zero] at c2)

        have hF2 : Free (fun b => b = w.heap.size + 1 + 1) B W2 := ⟨hB2.os, hB2.tape, hB2.output, hB2.size, fun k hk _ => hB2.block k hk⟩
        have hW3 := hF2.setCell (p := ⟨w.heap.size + 1 + 1, 0, none⟩) rfl (.bool D1)
        have hb3 : (W2.setCell ⟨w.heap.size + 1 + 1, 0, none⟩ (.bool D1)).heap[w.heap.size + 1 + 1]? = some (.cells #[.bool D1] 4) := by
          have h := heap_setCell_same _ _ 0 _ _ (.bool D1) hc2
          simpa using h
        obtain ⟨W3, hW3e⟩ : ∃ W3, W2.setCell ⟨w.heap.size + 1 + 1, 0, none⟩ (.bool D1) = W3 := ⟨_, rfl⟩
        rw [HD2.out, hW3e]
        rw [hW3e] at hW3 hb3
        have H3 := Lib.hid (And.intro hb3 hW3)
        clear hW3e hW3 hb3 hF2
        gi_loopw [26] (fun i wr => ∃ (j : Nat) (E : Bool), i = .int .i64 j ∧ j ≤ nt ∧ wr.heap[w.heap.size + 1 + 1]? = some (.cells #[.bool E] 4) ∧ Seen D1 (ndTypes x.t) j E ∧ Free (fun b => b = w.heap.size + 1 + 1) B wr) (fun i _ => match i with | .int _ z => nt - z.toNat | _ => 0)
        case atStart => exact ⟨0, D1, rfl, Nat.zero_le _, H3.out.1, seen_zero _ _, H3.out.2⟩
        case round =>
          obtain ⟨j, E, rfl, hj, hbE, hSn, hFr⟩ := hrel
          have hrs := hFr.size
          have HR := Lib.hid (And.intro hbE (And.intro hSn hFr))
          clear hbE hSn hFr
          by_cases hlt : j < nt
          · have hi' : (j : Int) < (nt : Int) := by omega
            have hjl : j < (ndTypes x.t).length := by have := HN.out.1; omega
            obtain ⟨rfl, hc1, hcx, _⟩ := HF.out.2.2.1 (by have := HN.out.1; omega)
            rw [HN.out.1] at hc1
            unfold maxLen at hcx
            have hkp : ∀ b, b < w.heap.size + 1 → wr.heap[b]? = B.heap[b]? := fun b hb => HR.out.2.2.block b (by omega) (by omega)
            obtain ⟨k1, s1, xa1, xl1, na1, ca1, nl1, cl1, o1, sb, c0, c1, c2', c3, c4, hv1⟩ := (HF.out.2.2.2 j hjl).carry (fun b hb => hkp b hb) (fun _ h => h) |>.open_
            have hgl0 := hgl
            have hgl : gt < wr.heap.size := by omega
            have hty := HF.out.2.1.types _ (List.getElem_mem hjl)
            have hBw : Below w.heap.size B wr := ⟨HR.out.2.2.os, HR.out.2.2.tape, HR.out.2.2.output, HR.out.2.2.size, fun b hb => HR.out.2.2.block b (by omega) (by omega)⟩
            have hEr : ErrAt T v wr := ⟨((H1.out.2.2.1.trans hBw).cell (p := ⟨0, 0, none⟩) hgl0).trans HG.out, by omega⟩
            have HBW := Lib.hid hBw
            have CT := Lib.hid (checkType_v T v (fun b => b < w.heap.size + 1) k1 s1 (.slice xa1 na1 ca1) (.slice xl1 nl1 cl1) o1 wr _ hEr hty.2 hty.1 (fun b hb => by omega) hv1)
            clear hv1 sb hty hEr hkp hBw
            obtain ⟨ee, hee⟩ : ∃ ee, errT (ndTypes x.t)[j] = ee := ⟨_, rfl⟩
            have hway := errT_ways (ndTypes x.t)[j]
            unfold ctGives at CT
            rw [hee] at CT hway
            have HEE := Lib.hid hee
            clear hee
            have hf33 : Fence.wide.fn 16 := trivial
            rcases hway with rfl | rfl | rfl
            · gi_wp2_with (gi_at_call 16; refine (CallsIn.inRound _ (callsIn_wide.2 CT.out)).mono ?_; rintro e9 w9 ⟨rfl, hB9⟩; have hs9 := hB9.size; have hb9 := (hB9.block (w.heap.size + 1 + 1) (by omega)).trans HR.out.1)
              go_roundw
              case rel => exact ⟨j + 1, E, rfl, hlt, hb9, HR.out.2.1.step0 hjl HEE.out, HR.out.2.2.trans ⟨hB9.os, hB9.tape, hB9.output, hB9.size, fun k hk _ => hB9.block k hk⟩⟩
              case measure => simp only; omega
            · gi_wp2_with (gi_at_call 16; refine (CallsIn.inRound _ (callsIn_wide.2 CT.out)).mono ?_; rintro e9 w9 ⟨rfl, hB9⟩; have hs9 := hB9.size; have hb9 := ((hB9.block (w.heap.size + 1) (by omega)).trans (HR.out.2.2.block (w.heap.size + 1) (by omega) (by omega))).trans H1.out.2.1; have c9 := Lib.cell_of_heap hb9 0; have f9 := Lib.frozen_of_heap hb9 0; simp only [List.getElem?_toArray, List.getElem?_cons_zero] at c9)
              have hF9 : Free (fun b => b = w.heap.size + 1 ∨ b = w.heap.size + 1 + 1) B w9 := ⟨hB9.os.trans HR.out.2.2.os, hB9.tape.trans HR.out.2.2.tape, hB9.output.trans HR.out.2.2.output, Nat.le_trans HR.out.2.2.size hB9.size, fun k hk hn => (hB9.block k (by omega)).trans (HR.out.2.2.block k hk (fun h => hn (.inr h)))⟩
              have hbad : partBad x.t := .inr ⟨_, List.getElem_mem hjl, HEE.out⟩
              refine ⟨hF9.setCell (p := ⟨w.heap.size + 1, 0, none⟩) (.inl rfl) _, ⟨x, by simp, hbad⟩, ?_, ((H1.out.2.2.1.trans HBW.out).trans (hB9.mono (by omega))).setCell (p := ⟨w.heap.size + 1, 0, none⟩) (by simp only; omega) _⟩
              have h := heap_setCell_same _ _ 0 _ _ (.int .i64 2) hb9
              simpa using h
            · gi_wp2_with (gi_at_call 16; refine (CallsIn.inRound _ (callsIn_wide.2 CT.out)).mono ?_; rintro e9 w9 ⟨rfl, hB9⟩; have hs9 := hB9.size; have hb9 := (hB9.block (w.heap.size + 1 + 1) (by omega)).trans HR.out.1; have c9 := Lib.cell_of_heap hb9 0; have f9 := Lib.frozen_of_heap hb9 0; simp only [List.getElem?_toArray, List.getElem?_cons_zero] at c9)
              have h9 : (w9.setCell ⟨w.heap.size + 1 + 1, 0, none⟩ (.bool true)).heap[w.heap.size + 1 + 1]? = some (.cells #[.bool true] 4) := by
                have h := heap_setCell_same _ _ 0 _ _ (.bool true) hb9
                simpa using h
              have hF9 : Free (fun b => b = w.heap.size + 1 + 1) B w9 := HR.out.2.2.trans ⟨hB9.os, hB9.tape, hB9.output, hB9.size, fun k hk _ => hB9.block k hk⟩
              go_roundw
              case rel => exact ⟨j + 1, true, rfl, hlt, h9, HR.out.2.1.step4 hjl HEE.out, hF9.setCell (p := ⟨w.heap.size + 1 + 1, 0, none⟩) rfl _⟩
              case measure => simp only; omega
          · obtain rfl : j = nt := by omega
            gi_wp2
            have hSa : Seen (false || decide (200 < x.d)) (ndTypes x.t) (ndTypes x.t).length E := by
              rw [HN.out.1, HD.out]; exact HR.out.2.1
            refine ⟨⟨HR.out.2.2.os, HR.out.2.2.tape, HR.out.2.2.output, HR.out.2.2.size, fun k hk hn => HR.out.2.2.block k hk fun h => hn (.inr h)⟩, ⟨E, HR.out.1, Seen.all HF.out.1 hSa HN.out.2⟩, (HR.out.2.2.block _ (by omega) (by omega)).trans H1.out.2.1, H1.out.2.2.1.trans ⟨HR.out.2.2.os, HR.out.2.2.tape, HR.out.2.2.output, HR.out.2.2.size, fun b hb => HR.out.2.2.block b (by omega) (by omega)⟩, fun b hb => (HR.out.2.2.block b (by omega) (by omega)).trans (H1.out.2.2.2 b hb)⟩
  case done =>
    rintro xs B hS ⟨⟨D, h1, hG⟩, h2, h3, h4⟩ hD
    have hE := hG.bad hS
    have c0 := Lib.cell_of_heap h1 0
    have c1 := Lib.cell_of_heap h2 0
    have f1 := Lib.frozen_of_heap h2 0
    simp only [List.getElem?_toArray, List.getElem?_cons_zero] at c0 c1
    have H1 := Lib.hid (And.intro h2 (And.intro h3 hD))
    clear h1 h2 h3 h4 hS hD hG
    have h2s := H1.out.2.1.size
    have HE := Lib.hid hE
    have HS0 := Lib.hid hs0
    clear hE
    cases D with
    | false =>
      gi_wp2
      have hd2 : (B.setCell ⟨w.heap.size + 1, 0, none⟩ (.int .i64 0)).heap[W0.heap.size]? = some (.deferred (some [])) := (RowKit.Below.heap_setCell _ _ _ _ (show W0.heap.size ≠ w.heap.size + 1 by omega)).trans H1.out.2.2
      have hr2 := heap_setCell_same _ _ 0 _ _ (.int .i64 0) H1.out.1
      have hr3 : ((B.setCell ⟨w.heap.size + 1, 0, none⟩ (.int .i64 0)).putObj W0.heap.size (.deferred none)).heap[w.heap.size + 1]? = _ := (World.putObj_heap_other (by omega)).trans hr2
      have cr := Lib.cell_of_heap hr3 0
      simp at cr
      refine ⟨by simp, .inl ⟨_, _, rfl, run_takeDeferred hd2, ?_⟩⟩
      refine ⟨.int .i64 0, by simp [results, Tryd.results18, go_sem, cr], by rw [HE.out]; rfl, (H1.out.2.1.setCell (p := ⟨w.heap.size + 1, 0, none⟩) (Nat.le_succ _) _).trans (below_put (by omega) _)⟩
    | true =>
      gi_wp2
      have hd2 : (B.setCell ⟨w.heap.size + 1, 0, none⟩ (.int .i64 4)).heap[w.heap.size + 4]? = some (.deferred (some [])) := by rw [← HS0.out]; exact (RowKit.Below.heap_setCell _ _ _ _ (show W0.heap.size ≠ w.heap.size + 1 by omega)).trans H1.out.2.2
      have hr2 := heap_setCell_same _ _ 0 _ _ (.int .i64 4) H1.out.1
      have hr3 : ((B.setCell ⟨w.heap.size + 1, 0, none⟩ (.int .i64 4)).putObj (w.heap.size + 4) (.deferred none)).heap[w.heap.size + 1]? = _ := (World.putObj_heap_other (by omega)).trans hr2
      have cr := Lib.cell_of_heap hr3 0
      simp at cr
      refine ⟨by simp, .inl ⟨_, _, rfl, run_takeDeferred hd2, ?_⟩⟩
      refine ⟨.int .i64 4, by simp [results, Tryd.results18, go_sem, cr], by rw [HE.out]; rfl, (H1.out.2.1.setCell (p := ⟨w.heap.size + 1, 0, none⟩) (Nat.le_succ _) _).trans (below_put (by omega) _)⟩
  case stop =>
    rintro pre B hS ⟨hb, h2, h3⟩ hD
    have hE := errE_bad hS hb
    have h2s := h3.size
    have HE := Lib.hid hE
    clear hE
    gi_wp2
    have hr3 : (B.putObj W0.heap.size (.deferred none)).heap[w.heap.size + 1]? = _ := (World.putObj_heap_other (by omega)).trans h2
    have cr := Lib.cell_of_heap hr3 0
    simp at cr
    refine ⟨by simp, .inl ⟨_, _, rfl, run_takeDeferred hD, ?_⟩⟩
    refine ⟨.int .i64 2, by simp [results, Tryd.results18, go_sem, cr], by rw [HE.out], h3.trans (below_put (by omega) _)⟩
end Go.Proofs.YtoopndgdaiblpaaDoor
