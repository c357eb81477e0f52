/- trefoilref02.Of at a kind 20: with two types. -/
import Derived.Test.YtoopndgdaiblpaaDoorOfJ
import Derived.Deep.Cut
import Derived.Deep.RegionWith
namespace Go.Proofs.YtoopndgdaiblpaaDoor
open Go.ChangeShapes Go.WideShapes Go.ChangeAt Go.RowKit

/-- What follows the last statement of a sequence, behind a variable. -/
theorem wp_last {P : Program} {c : Code} {Q : Exit → Act → World → Prop} {a : Act} {w : World} (h : ∀ K : Act → World → Prop, (∀ a w, Q .normal a w → K a w) → c.wp P (Exit.then K Q) a w) : c.wp P Q a w := by
  refine wp_mono (h (fun a w => Q .normal a w) (fun _ _ h => h)) ?_
  intro e a' w' hq
  cases e <;> exact hq

theorem ty_shape {W : World} {B : Nat → Prop} {v0 v1 v2 v3 v4 : Value} {t : Ty} (h : TyV W B [v0, v1, v2, v3, v4] t) : ∃ (k : Int) (s : ByteArray) (a : Option Addr) (la ca : Nat) (b : Option Addr) (lb cb : Nat) (z : Bool), v0 = .int .i64 k ∧ v1 = .string s ∧ v2 = .slice a la ca ∧ v3 = .slice b lb cb ∧ v4 = .bool z := by
  obtain ⟨k2, s2, va2, vl2, op2, args2, labels2, ga2, oa2, gl2, ol2, h0', _, h1', h2', _⟩ := h
  simp only [List.cons.injEq, and_true] at h0'
  obtain ⟨rfl, rfl, rfl, rfl, rfl⟩ := h0'
  obtain ⟨x3, e3, rfl, _⟩ := h1'.shape
  obtain ⟨x4, e4, rfl, _⟩ := h2'.shape
  exact ⟨k2, s2, x3, _, e3, x4, _, e4, op2, rfl, rfl, rfl, rfl, rfl⟩

set_option maxHeartbeats 2000000 in
set_option maxRecDepth 100000 in
theorem of_20 (B : Nat) (f : Nat) (p : Pt) (r : List Pt) (g o cap : Nat) (w : World) (hk : p.kind % 21 = 20) (hok : p.ok) (hp : PAt w g o (p :: r)) (hg : g < B) (hBw : B ≤ w.heap.size) (hc : r.length + 1 ≤ cap) (hm : cap ≤ maxLen) (hlen : r.length ≤ 1000)
    (ih : ∀ (l : List Pt) (v : Value) (W : World), B ≤ W.heap.size → l.length ≤ r.length → PV W B v l → Calls Tryd.prog 10 #[v] W (OfGives B W (ofL f l))) :
    Calls Tryd.prog 10 #[.slice (some ⟨g, o, none⟩) (r.length + 1) cap] w (OfGives B w (ofL (f + 1) (p :: r))) := by
  have hgw : g < w.heap.size := by omega
  obtain ⟨i0, hi, hz0, hz1, hz2⟩ := info_parts exInfo
  obtain ⟨h0, h1, h2, h3, h4, _⟩ := hp 0 (by simp)
  simp only [List.getElem_cons_zero, Nat.zero_mul, Nat.add_zero] at h0 h1 h2 h3 h4
  obtain ⟨ok1, ok2, ok3, ok4, ok5, ok6⟩ := hok
  have IH := Lib.hid ih
  have HP := Lib.hid hp.tail
  obtain ⟨k, s, n, a, t⟩ := p
  simp only at h0 h1 h2 h3 h4 hk ok1 ok2 ok3 ok4 ok5 ok6
  unfold maxLen at hm
  have z14 : (k % 21 == 14) = false := by simp; omega
  have z19 : (k % 21 == 19) = false := by simp; omega
  have z20 : (k % 21 == 20) = true := by simp; omega
  have hof : ofL (f + 1) (⟨k, s, n, a, t⟩ :: r) = (.ex (k % 21) s n [] [typeOf t, typeOf (t / 8)] (argsL (ofL f) (a % 4).toNat r).1 [], (argsL (ofL f) (a % 4).toNat r).2) := by
    rw [ofL]; simp [hk]
  have HF := Lib.hid hof
  clear ih hp hk hof
  obtain ⟨m, hm2⟩ : ∃ m : Nat, (a % 4).toNat = m := ⟨_, rfl⟩
  have ham : a % 4 = (m : Int) := by omega
  have hm3 : m ≤ 3 := by omega
  rw [hm2] at HF
  clear hm2
  have C9 : Hid (∀ W, Calls Tryd.prog 11 #[.int .u8 (IntKind.u8.wrap (t.tdiv 8))] W (typGives W (t / 8))) := Lib.hid fun W => by
    have e : IntKind.u8.wrap (t.tdiv 8) = t / 8 := by
      rw [Int.tdiv_eq_ediv_of_nonneg ok5]; simp [IntKind.wrap, IntKind.bits, IntKind.signed]; omega
    rw [e]; exact typ_any (t / 8) W (by omega) (by omega)
  go_enter Tryd.func10, Tryd.ntmps10
  go_wp2_with fail
  all_goals
    refine wp_last fun K hK => ?_
    go_cut [] from 114 (fun wx => ∃ gt : Nat, wx.heap[w.heap.size + 1 + 1]? = some (.cells #[.int .i64 (k % 21), .string s, .int .i64 n, .slice none 0 0, .slice none 0 0, .slice (some ⟨gt, 0, none⟩) 2 2, .slice none 0 0] 33) ∧ NT wx (fun b => w.heap.size + 2 < b ∧ b < wx.heap.size ∧ (Value.slice none 0 0).ownBlock ≠ some b) (.slice none 0 0) (.slice (some ⟨gt, 0, none⟩) 2 2) [] [typeOf t, typeOf (t / 8)] ∧
      wx.heap[w.heap.size]? = some (.cells #[.int .i64 0, .string ⟨#[]⟩, .int .i64 0, .slice none 0 0, .slice none 0 0, .slice none 0 0, .slice none 0 0] 33) ∧ Below w.heap.size w wx)
    case first =>
      go_region_with (first
        | (go_at_call 11; (with_reducible refine (C9.out _).mono ?_); (rintro e9 w9 ⟨u0, u1, u2, u3, u4, rfl, hty9, hB9⟩); (obtain ⟨k9, s9, a9, la9, ca9, b9, lb9, cb9, z9, rfl, rfl, rfl, rfl, rfl⟩ := ty_shape hty9); have HU := Lib.hid hty9; clear hty9; have hs9 := hB9.size; (have hx9 := Lib.hid ((hB9.block (w.heap.size + 1 + 1) (by omega)).trans ((hB2.block (w.heap.size + 1 + 1) (by simp)).trans (heap_last (by simp))))); (have hb9 : (w9.alloc (.cells #[.int .i64 k2, .string s2, .slice a2 la2 ca2, .slice b2 lb2 cb2, .bool z2, .int .i64 k9, .string s9, .slice a9 la9 ca9, .slice b9 lb9 cb9, .bool z9] 37)).heap[w.heap.size + 1 + 1]? = _ := (heap_old (by omega)).trans hx9.out); have b5 := Lib.cell_of_heap hb9 5; have fz5 := Lib.frozen_of_heap hb9 5; (simp only [List.getElem?_toArray, List.getElem?_cons_zero, List.getElem?_cons_succ] at b5))
        | (go_at_call 11; (with_reducible refine (typ_any t _ (by omega) (by omega)).mono ?_); (rintro e2 w2 ⟨v0, v1, v2, v3, v4, rfl, hty, hB2⟩); (obtain ⟨k2, s2, a2, la2, ca2, b2, lb2, cb2, z2, rfl, rfl, rfl, rfl, rfl⟩ := ty_shape hty); have HTY := Lib.hid hty; clear hty; have hs2 := hB2.size; (simp only [World.size_alloc, World.size_drew] at hs2); (have p4 := hB2.cell (p := ⟨w.heap.size + 1, 4, none⟩) (by simp)); (simp [go_sem] at p4)))
      all_goals
        go_wp2_with fail
        go_meet
        case rel =>
          have hB01 : Below w.heap.size w (((w.alloc (.cells #[.int .i64 0, .string ⟨#[]⟩, .int .i64 0, .slice none 0 0, .slice none 0 0, .slice none 0 0, .slice none 0 0] 33)).alloc (.cells #[.int .u8 k, .string s, .int .i64 n, .int .u8 a, .int .u8 t] 54)).alloc (.cells #[.int .i64 (k % 21), .string s, .int .i64 n, .slice none 0 0, .slice none 0 0, .slice none 0 0, .slice none 0 0] 33)) :=
            (((Below.refl _ _).alloc (Nat.le_refl _) _).alloc (by simp) _).alloc (by simp; omega) _
          have hBw2 : Below w.heap.size w w2 := by
            first
              | exact hB01.trans (hB2.mono (by simp; omega))
              | exact hB01.drew.trans (hB2.mono (by simp; omega))
          obtain ⟨WF, hWF⟩ : ∃ WF, ((w9.alloc (.cells #[.int .i64 k2, .string s2, .slice a2 la2 ca2, .slice b2 lb2 cb2, .bool z2, .int .i64 k9, .string s9, .slice a9 la9 ca9, .slice b9 lb9 cb9, .bool z9] 37)).setCell ⟨w.heap.size + 1 + 1, 5, none⟩ (.slice (some ⟨w9.heap.size, 0, none⟩) 2 2)) = WF := ⟨_, rfl⟩
          have hB90 : Below (w.heap.size + 2) w9 WF := by
            rw [← hWF]
            exact ((Below.refl _ w9).alloc (by omega) _).setCell (p := ⟨w.heap.size + 1 + 1, 5, none⟩) (by simp only; omega) _
          have hsz : WF.heap.size = w9.heap.size + 1 := by rw [← hWF]; simp
          have hbf : WF.heap[w.heap.size + 1 + 1]? = some (.cells #[.int .i64 (k % 21), .string s, .int .i64 n, .slice none 0 0, .slice none 0 0, .slice (some ⟨w9.heap.size, 0, none⟩) 2 2, .slice none 0 0] 33) := by
            have := heap_setCell_same _ _ 5 _ _ (.slice (some ⟨w9.heap.size, 0, none⟩) 2 2) hb9
            rw [hWF] at this
            simpa using this
          have hk9 : ∀ b, b < w9.heap.size → w.heap.size + 2 < b → WF.heap[b]? = w9.heap[b]? := fun b h1 h2 => by
            rw [← hWF, RowKit.Below.heap_setCell _ _ _ _ (show b ≠ w.heap.size + 1 + 1 by omega), heap_old h1]
          have hlast : WF.heap[w9.heap.size]? = some (.cells #[.int .i64 k2, .string s2, .slice a2 la2 ca2, .slice b2 lb2 cb2, .bool z2, .int .i64 k9, .string s9, .slice a9 la9 ca9, .slice b9 lb9 cb9, .bool z9] 37) := by
            rw [← hWF, RowKit.Below.heap_setCell _ _ _ _ (show w9.heap.size ≠ w.heap.size + 1 + 1 by omega), heap_last rfl]
          rw [hWF]
          refine ⟨w9.heap.size, hbf, ?_, ?_, hBw2.trans ((hB9.mono (by omega)).trans (hB90.mono (by omega)))⟩
          · refine ⟨0, 0, w9.heap.size, 0, .inl ⟨rfl, rfl⟩, .inr ⟨2, rfl, by simp, by decide, ⟨by omega, by omega, by simp [Value.ownBlock]⟩⟩, fun _ h => absurd h (Nat.not_lt_zero _), fun i hi => ?_⟩
            match i, hi with
            | 0, _ =>
              refine ty_row (o := 0) (HTY.out.carry (keeps_of hB9 fun b hb => hb.2) (fun b hb => hb)) (fun b hb => hk9 b (by have := hb.2; omega) (by have := hb.1; simp at this; omega)) (fun b hb => ⟨by have := hb.1; simp at this; omega, by have := hb.2; omega, by simp [Value.ownBlock]⟩) ⟨by omega, by omega, by simp [Value.ownBlock]⟩ hlast (fun j u hj => ?_)
              have hj5 : j < 5 := by have := (List.getElem?_eq_some_iff.1 hj).1; simpa using this
              rcases j with _ | _ | _ | _ | _ | j <;> first | exact hj | omega
            | 1, _ =>
              refine ty_row (o := 5) HU.out (fun b hb => hk9 b hb.2 (by have := hb.1; omega)) (fun b hb => ⟨by have := hb.1; omega, by have := hb.2; omega, by simp [Value.ownBlock]⟩) ⟨by omega, by omega, by simp [Value.ownBlock]⟩ hlast (fun j u hj => ?_)
              have hj5 : j < 5 := by have := (List.getElem?_eq_some_iff.1 hj).1; simpa using this
              rcases j with _ | _ | _ | _ | _ | j <;> first | exact hj | omega
          · exact (hB90.block _ (by omega)).trans ((hB9.block _ (by omega)).trans ((hB2.block w.heap.size (by simp; omega)).trans (by first | (rw [heap_old (by simp; omega), heap_old (by simp), heap_last rfl]) | (show (World.alloc _ _).heap[_]? = _; rw [heap_old (by simp; omega), heap_old (by simp), heap_last rfl]))))
    case rest =>
      obtain ⟨gt, hbf, hnt, hrf, hBc⟩ := hcut
      refine hK _ _ ?_
      go_wp2_with fail
      go_loopw [0, 12] (fun v i wr => ∃ (j : Nat) (done : List Nd) (cs : List (List Value)) (rest : List Pt) (va vn vt : Value), j ≤ m ∧ i = .int .i64 j ∧ PV wr B v rest ∧ rest.length ≤ r.length ∧ done.length = j ∧ done ++ (argsL (ofL f) (m - j) rest).1 = (argsL (ofL f) m r).1 ∧ (argsL (ofL f) (m - j) rest).2 = (argsL (ofL f) m r).2 ∧
      wr.heap[w.heap.size + 1 + 1]? = some (.cells #[.int .i64 (k % 21), .string s, .int .i64 n, va, vn, vt, .slice none 0 0] 33) ∧ NT wr (fun b => w.heap.size + 2 < b ∧ b < wr.heap.size ∧ va.ownBlock ≠ some b) vn vt [] [typeOf t, typeOf (t / 8)] ∧ wr.heap[w.heap.size]? = some (.cells #[.int .i64 0, .string ⟨#[]⟩, .int .i64 0, .slice none 0 0, .slice none 0 0, .slice none 0 0, .slice none 0 0] 33) ∧ wr.ownsRow (w.heap.size + 3) 33 7 va done.length cs.flatten ∧ Vals wr (fun b => w.heap.size + 2 < b ∧ b < wr.heap.size ∧ va.ownBlock ≠ some b) cs done ∧ (∀ x ∈ done, isEx x = true) ∧ Below w.heap.size w wr) (fun _ i _ => m - (intOf i).toNat)
      case atStart =>
        refine ⟨0, [], [], r, .slice none 0 0, .slice none 0 0, .slice (some ⟨gt, 0, none⟩) 2 2, Nat.zero_le _, rfl, ?_, Nat.le_refl _, rfl, rfl, rfl, hbf, hnt, hrf, World.ownsRow_nil _ _ _ _, trivial, fun _ h => (by cases h), hBc⟩
        first
          | exact .inr ⟨g, o + 5, cap - 1, rfl, by omega, by unfold maxLen; omega, hg, HP.out.carry hBc (by omega)⟩
          | (have hr0 : r.length = 0 := by omega
             rw [hr0]
             exact .inl ⟨List.length_eq_zero_iff.1 hr0, _, _, rfl⟩)
          | exact .inr ⟨g, o + 5, 0, by simp, by omega, by unfold maxLen; omega, hg, HP.out.carry hBc (by omega)⟩
      case round =>
        obtain ⟨j, done, cs, rest, va, vn, vt, hj, rfl, hpv, hrl, hdl, hd1, hd2, hbox, hnt, hres, hown, hvals, hex, hB⟩ := hrel
        obtain ⟨⟨xn, ln, cn, rfl⟩, ⟨xt, lt, ct, rfl⟩⟩ := hnt.shapes
        have HNT := Lib.hid hnt
        have HV := Lib.hid hvals
        have HX := Lib.hid hex
        have HD := Lib.hid (And.intro hd1 (And.intro hd2 hdl))
        have HPV := Lib.hid hpv
        have HBX := Lib.hid hbox
        have HRES := Lib.hid hres
        have HOWN := Lib.hid hown
        clear hvals hex hd1 hd2 hdl hpv hbox hres hown hnt
        by_cases hlt : j < m
        · have hi' : (j : Int) < (m : Int) := by omega
          have cc := Lib.hid (IH.out rest u0 wr (Nat.le_trans hBw hB.size) hrl HPV.out)
          obtain ⟨xa, ca, hva⟩ : ∃ x c, va = .slice x done.length c := by
            rcases HOWN.out.2 with ⟨h, h0⟩ | ⟨gx, cx, cur, h, _⟩
            · exact ⟨none, 0, by rw [h, h0]⟩
            · exact ⟨_, _, h⟩
          subst hva
          have hl2 : w.heap.size + 1 + 1 < wr.heap.size := by
            rcases Nat.lt_or_ge (w.heap.size + 1 + 1) wr.heap.size with h | h
            · exact h
            · have := HBX.out; rw [Array.getElem?_eq_none h] at this; cases this
          go_wp2_with fail
          refine cc.out.mono ?_
          rintro e' w2 ⟨c0, c1, c2, c3, c4, c5, c6, rest2, rfl, hex2, hpv2, hB2⟩
          obtain ⟨⟨x3, l3, e3, rfl⟩, ⟨x4, l4, e4, rfl⟩, ⟨x5, l5, e5, rfl⟩, ⟨x6, l6, e6, rfl⟩⟩ := hex2.shapes
          obtain ⟨k2, s2, n2, rfl, rfl, rfl⟩ := hex2.heads
          have HX2 := Lib.hid hex2
          have HPV2 := Lib.hid hpv2
          clear hex2 hpv2 cc
          have hbw := hB.size
          have hbw2 := hB2.size
          have hbox2 := Lib.hid ((hB2.block _ (by omega)).trans HBX.out)
          have hres2 := Lib.hid ((hB2.block _ (by omega)).trans HRES.out)
          have hown2 := Lib.hid ((own_below HOWN.out hB2).alloc (.cells #[.int .i64 k2, .string s2, .int .i64 n2, .slice x3 l3 e3, .slice x4 l4 e4, .slice x5 l5 e5, .slice x6 l6 e6] 33))
          have hb3 : (w2.alloc (.cells #[.int .i64 k2, .string s2, .int .i64 n2, .slice x3 l3 e3, .slice x4 l4 e4, .slice x5 l5 e5, .slice x6 l6 e6] 33)).heap[w.heap.size + 1 + 1]? = _ := (heap_old (by omega)).trans hbox2.out
          have b3 := Lib.cell_of_heap hb3 3
          simp only [List.getElem?_toArray, List.getElem?_cons_zero, List.getElem?_cons_succ] at b3
          have hn := new_cells (w2.alloc (.cells #[.int .i64 k2, .string s2, .int .i64 n2, .slice x3 l3 e3, .slice x4 l4 e4, .slice x5 l5 e5, .slice x6 l6 e6] 33)) [.int .i64 k2, .string s2, .int .i64 n2, .slice x3 l3 e3, .slice x4 l4 e4, .slice x5 l5 e5, .slice x6 l6 e6] 33
          rw [World.size_alloc] at hn
          have HN := Lib.hid hn
          clear hn
          have HO := Lib.hid (hown2.out.alloc (.cells #[.int .i64 k2, .string s2, .int .i64 n2, .slice x3 l3 e3, .slice x4 l4 e4, .slice x5 l5 e5, .slice x6 l6 e6] 33))
          have h1 : ∀ u ∈ ([.int .i64 k2, .string s2, .int .i64 n2, .slice x3 l3 e3, .slice x4 l4 e4, .slice x5 l5 e5, .slice x6 l6 e6] : List Value), u.oneCell' = true := by
            intro u hu
            simp only [List.mem_cons, List.not_mem_nil, or_false] at hu
            rcases hu with rfl | rfl | rfl | rfl | rfl | rfl | rfl <;> rfl
          have H1 := Lib.hid h1
          have hdn : done.length ≤ 3 := by have := HD.out.2.2; omega
          clear h1
          go_wp2_with (at_builtin; (refine wpList_append_own_at _ rfl (.tmp 149) (.tmp 151) _ rfl (w.heap.size + 3) 33 i0 _ 7 128 Tryd.underlying28 hi hz0 hz1 hz2 rfl (by decide) (.slice xa done.length ca) done.length cs.flatten rfl HO.out ⟨w2.heap.size + 1, 0, none⟩ 1 1 [.int .i64 k2, .string s2, .int .i64 n2, .slice x3 l3 e3, .slice x4 l4 e4, .slice x5 l5 e5, .slice x6 l6 e6] rfl rfl HN.out H1.out (by unfold maxLen; omega) (by omega) (by simp; omega) ?_); (intro v' w5 hown5 hg5 _ hat5); (obtain ⟨g5, cap5, rfl⟩ : ∃ g c, v' = .slice (some ⟨g, 0, none⟩) (done.length + 1) c := (by rcases hown5.2 with ⟨_, h⟩ | ⟨g, c, _, h, _⟩; exact absurd h (Nat.succ_ne_zero _); exact ⟨g, c, h⟩)); (have hB6 : Below (w.heap.size + 3) ((w2.alloc (.cells #[.int .i64 k2, .string s2, .int .i64 n2, .slice x3 l3 e3, .slice x4 l4 e4, .slice x5 l5 e5, .slice x6 l6 e6] 33)).alloc (.cells #[.int .i64 k2, .string s2, .int .i64 n2, .slice x3 l3 e3, .slice x4 l4 e4, .slice x5 l5 e5, .slice x6 l6 e6] 33)) w5 := (Below.refl _ _).grown hg5 (by simp; omega) (fun q hq => (HO.out.lt q hq).1)); (have hb5 := (hB6.block (w.heap.size + 1 + 1) (by omega)).trans ((heap_old (by simp; omega)).trans hb3)); (have c5 := Lib.cell_of_heap hb5 3); (have fz5 := Lib.frozen_of_heap hb5 3); (simp only [List.getElem?_toArray, List.getElem?_cons_zero, List.getElem?_cons_succ] at c5))
          obtain ⟨hd1, hd2, hdl⟩ := HD.out
          obtain ⟨m', hm'⟩ : ∃ m', m - j = m' + 1 := ⟨m - j - 1, by omega⟩
          have hmj : m - (j + 1) = m' := by omega
          rw [hm'] at hd1 hd2
          simp only [argsL] at hd1 hd2
          have hA2 : Below w2.heap.size w2 ((w2.alloc (.cells #[.int .i64 k2, .string s2, .int .i64 n2, .slice x3 l3 e3, .slice x4 l4 e4, .slice x5 l5 e5, .slice x6 l6 e6] 33)).alloc (.cells #[.int .i64 k2, .string s2, .int .i64 n2, .slice x3 l3 e3, .slice x4 l4 e4, .slice x5 l5 e5, .slice x6 l6 e6] 33)) :=
            ((Below.refl _ _).alloc (Nat.le_refl _) _).alloc (by simp) _
          have hBe1 : Below (w.heap.size + 1) w2 (w5.setCell ⟨w.heap.size + 1 + 1, 3, none⟩ (.slice (some ⟨g5, 0, none⟩) (done.length + 1) cap5)) :=
            ((hA2.mono (by omega)).trans (hB6.mono (by omega))).setCell (p := ⟨w.heap.size + 1 + 1, 3, none⟩) (by simp only; omega) _
          have hBe := hBe1.mono (Nat.le_succ w.heap.size)
          have hq : ∀ q, (Value.slice xa done.length ca).ownBlock = some q → q < wr.heap.size := fun q h => (HOWN.out.lt q h).2
          have hkr := round_keeps (w0 := w.heap.size) hB2 hA2 hg5 hat5 3 (.slice (some ⟨g5, 0, none⟩) (done.length + 1) cap5)
          have hvr := vals_round HV.out HX2.out rfl hB2 hA2 hg5 hq hat5 hl2 3 (.slice (some ⟨g5, 0, none⟩) (done.length + 1) cap5)
          refine ⟨⟨j + 1, done ++ [(ofL f rest).1], cs ++ [[.int .i64 k2, .string s2, .int .i64 n2, .slice x3 l3 e3, .slice x4 l4 e4, .slice x5 l5 e5, .slice x6 l6 e6]], (ofL f rest).2, .slice (some ⟨g5, 0, none⟩) (done.length + 1) cap5, .slice xn ln cn, .slice xt lt ct, hlt, by simp, HPV2.out.carry' hBe hBw, Nat.le_trans (ofL_fine f rest).1 hrl, by simp [hdl], ?_, ?_, ?_, HNT.out.carry hkr.1 hkr.2, ?_, ?_, hvr, ?_, hB.trans ((hB2.mono hbw).trans hBe)⟩, ?_⟩
          · rw [hmj, List.append_assoc]; exact hd1
          · rw [hmj]; exact hd2
          · have := heap_setCell_same _ _ 3 _ _ (.slice (some ⟨g5, 0, none⟩) (done.length + 1) cap5) hb5
            simpa using this
          · exact (hBe1.block w.heap.size (by omega)).trans hres2.out
          · rw [List.length_append, List.flatten_append]
            have := ownsRow_setCell_below hown5 (a := ⟨w.heap.size + 1 + 1, 3, none⟩) (by simp only; omega) (.slice (some ⟨g5, 0, none⟩) (done.length + 1) cap5)
            simpa using this
          · intro x hx
            rcases List.mem_append.1 hx with h | h
            · exact HX.out x h
            · rw [List.mem_singleton.1 h]; exact ofL_ex f rest
          · simp [intOf]; omega
        · have hi' : ¬ (j : Int) < (m : Int) := by omega
          obtain ⟨xa, ca, hva⟩ : ∃ x c, va = .slice x done.length c := by
            rcases HOWN.out.2 with ⟨h, h0⟩ | ⟨gx, cx, cur, h, _⟩
            · exact ⟨none, 0, by rw [h, h0]⟩
            · exact ⟨_, _, h⟩
          subst hva
          obtain ⟨hd1, hd2, hdl⟩ := HD.out
          have hjm : m - j = 0 := by omega
          rw [hjm] at hd1 hd2
          have hd1' : done = (argsL (ofL f) m r).1 := by simpa [argsL] using hd1
          have hd2' : rest = (argsL (ofL f) m r).2 := by simpa [argsL] using hd2
          have HE := Lib.hid (And.intro hd1' hd2')
          clear hd1 hd2 hd1' hd2' hdl hjm
          have b0 := Lib.cell_of_heap HBX.out 0
          have b1 := Lib.cell_of_heap HBX.out 1
          have b2 := Lib.cell_of_heap HBX.out 2
          have b3 := Lib.cell_of_heap HBX.out 3
          have b4 := Lib.cell_of_heap HBX.out 4
          have b5 := Lib.cell_of_heap HBX.out 5
          have b6 := Lib.cell_of_heap HBX.out 6
          have r0 := Lib.cell_of_heap HRES.out 0
          have r1 := Lib.cell_of_heap HRES.out 1
          have r2 := Lib.cell_of_heap HRES.out 2
          have r3 := Lib.cell_of_heap HRES.out 3
          have r4 := Lib.cell_of_heap HRES.out 4
          have r5 := Lib.cell_of_heap HRES.out 5
          have r6 := Lib.cell_of_heap HRES.out 6
          have f0 := Lib.frozen_of_heap HRES.out 0
          have f1 := Lib.frozen_of_heap HRES.out 1
          have f2 := Lib.frozen_of_heap HRES.out 2
          have f3 := Lib.frozen_of_heap HRES.out 3
          have f4 := Lib.frozen_of_heap HRES.out 4
          have f5 := Lib.frozen_of_heap HRES.out 5
          have f6 := Lib.frozen_of_heap HRES.out 6
          simp only [List.getElem?_toArray, List.getElem?_cons_zero, List.getElem?_cons_succ] at b0 b1 b2 b3 b4 b5 b6 r0 r1 r2 r3 r4 r5 r6
          go_wp2_with fail
          refine bodyPost_ret (v := .tuple #[.agg #[.int .i64 (k % 21), .string s, .int .i64 n, .slice xa done.length ca, .slice xn ln cn, .slice xt lt ct, .slice none 0 0], u0]) (by simp [results, Tryd.results10, go_sem, r0, r1, r2, r3, r4, r5, r6]) rfl ?_
          have hBf : ∀ C, C ≤ w.heap.size → Below C wr (((((((wr.setCell ⟨w.heap.size, 0, none⟩ (.int .i64 (k % 21))).setCell ⟨w.heap.size, 1, none⟩ (.string s)).setCell ⟨w.heap.size, 2, none⟩ (.int .i64 n)).setCell ⟨w.heap.size, 3, none⟩ (.slice xa done.length ca)).setCell ⟨w.heap.size, 4, none⟩ (.slice xn ln cn)).setCell ⟨w.heap.size, 5, none⟩ (.slice xt lt ct)).setCell ⟨w.heap.size, 6, none⟩ (.slice none 0 0)) := fun C hC =>
            (((((((Below.refl C wr).setCell (p := ⟨w.heap.size, 0, none⟩) hC _).setCell (p := ⟨w.heap.size, 1, none⟩) hC _).setCell (p := ⟨w.heap.size, 2, none⟩) hC _).setCell (p := ⟨w.heap.size, 3, none⟩) hC _).setCell (p := ⟨w.heap.size, 4, none⟩) hC _).setCell (p := ⟨w.heap.size, 5, none⟩) hC _).setCell (p := ⟨w.heap.size, 6, none⟩) hC _
          have hkp : ∀ b, b ≠ w.heap.size → (((((((wr.setCell ⟨w.heap.size, 0, none⟩ (.int .i64 (k % 21))).setCell ⟨w.heap.size, 1, none⟩ (.string s)).setCell ⟨w.heap.size, 2, none⟩ (.int .i64 n)).setCell ⟨w.heap.size, 3, none⟩ (.slice xa done.length ca)).setCell ⟨w.heap.size, 4, none⟩ (.slice xn ln cn)).setCell ⟨w.heap.size, 5, none⟩ (.slice xt lt ct)).setCell ⟨w.heap.size, 6, none⟩ (.slice none 0 0)).heap[b]? = wr.heap[b]? := fun b hb => by
            rw [RowKit.Below.heap_setCell _ _ _ _ hb, RowKit.Below.heap_setCell _ _ _ _ hb, RowKit.Below.heap_setCell _ _ _ _ hb, RowKit.Below.heap_setCell _ _ _ _ hb, RowKit.Below.heap_setCell _ _ _ _ hb, RowKit.Below.heap_setCell _ _ _ _ hb, RowKit.Below.heap_setCell _ _ _ _ hb]
          have hsz := (hBf w.heap.size (Nat.le_refl _)).size
          generalize (((((((wr.setCell ⟨w.heap.size, 0, none⟩ (.int .i64 (k % 21))).setCell ⟨w.heap.size, 1, none⟩ (.string s)).setCell ⟨w.heap.size, 2, none⟩ (.int .i64 n)).setCell ⟨w.heap.size, 3, none⟩ (.slice xa done.length ca)).setCell ⟨w.heap.size, 4, none⟩ (.slice xn ln cn)).setCell ⟨w.heap.size, 5, none⟩ (.slice xt lt ct)).setCell ⟨w.heap.size, 6, none⟩ (.slice none 0 0)) = wf at *
          have hbw := hB.size
          refine ⟨_, _, _, _, _, _, _, _, rfl, ?_, ?_, hB.trans (hBf _ (Nat.le_refl _))⟩
          · rw [HF.out, ← HE.out.1]
            have hnt' := HNT.out.carry (S' := fun b => w.heap.size < b ∧ b < wf.heap.size) (fun b hb => hkp b (by have := hb.1; omega)) (fun b hb => ⟨by have := hb.1; omega, by have := hb.2.1; omega⟩)
            obtain ⟨gn, on, gt, ot, n1, n2, n3, n4⟩ := hnt'
            rcases HOWN.out.2 with ⟨hv, hl⟩ | ⟨gx, cx, cur, hv, hgx, hgh, hcx, hmx, _⟩
            · simp only [Value.slice.injEq] at hv
              obtain ⟨rfl, -, rfl⟩ := hv
              have hd0 : done = [] := List.length_eq_zero_iff.1 hl
              subst hd0
              exact ⟨_, _, _, _, _, _, _, [], [typeOf t, typeOf (t / 8)], [], [], 0, 0, gn, on, gt, ot, 0, 0, rfl, rfl, .inl ⟨rfl, rfl⟩, n1, n2, .inl ⟨rfl, rfl⟩, fun _ h => absurd h (Nat.not_lt_zero _), n3, n4, fun _ h => absurd h (Nat.not_lt_zero _), fun _ h => (by cases h), fun _ h => (by cases h)⟩
            · cases hv
              have hgl : gx < wr.heap.size := by
                rcases Nat.lt_or_ge gx wr.heap.size with h | h
                · exact h
                · rw [Array.getElem?_eq_none h] at hgh; cases hgh
              have htr := row_trees (S' := fun b => w.heap.size < b ∧ b < wf.heap.size) HV.out HOWN.out (fun b hb => hkp b (by have := hb.1; omega)) (fun b hb => ⟨by have := hb.1; omega, by have := hb.2.1; omega⟩) ⟨by omega, by omega⟩ (hkp gx (by omega))
              exact ⟨_, _, _, _, _, _, _, [], [typeOf t, typeOf (t / 8)], done, [], gx, 0, gn, on, gt, ot, 0, 0, rfl, rfl, .inr ⟨ca, rfl, hcx, hmx, ⟨by omega, by omega⟩⟩, n1, n2, .inl ⟨rfl, rfl⟩, htr, n3, n4, fun _ h => absurd h (Nat.not_lt_zero _), HX.out, fun _ h => (by cases h)⟩
          · rw [HF.out]
            simp only
            rw [← HE.out.2]
            exact HPV.out.carry (hBf B hBw)
end Go.Proofs.YtoopndgdaiblpaaDoor
