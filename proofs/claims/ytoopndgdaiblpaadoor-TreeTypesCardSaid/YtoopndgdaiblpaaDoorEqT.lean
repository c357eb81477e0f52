/- slices.EqualFunc at two lists of types, by tree.SameType, told whole. -/
import Derived.Test.YtoopndgdaiblpaaDoorTyEq
namespace Go.Proofs.YtoopndgdaiblpaaDoor
open Go.ChangeShapes Go.WideShapes Go.ChangeAt Go.RowKit

/-- A type that lies at a place, as a value. -/
theorem TyAt.open_ {W : World} {S : Nat → Prop} {b o : Nat} {t : Ty} (h : TyAt W S b o t) : ∃ (k : Int) (s : ByteArray) (xa xl : Option Addr) (na ca nl cl : Nat) (op : Bool), S b ∧ W.cell? ⟨b, o, none⟩ = some (.int .i64 k) ∧ W.cell? ⟨b, o + 1, none⟩ = some (.string s) ∧ W.cell? ⟨b, o + 2, none⟩ = some (.slice xa na ca) ∧ W.cell? ⟨b, o + 3, none⟩ = some (.slice xl nl cl) ∧ W.cell? ⟨b, o + 4, none⟩ = some (.bool op) ∧
    TyV W S [.int .i64 k, .string s, .slice xa na ca, .slice xl nl cl, .bool op] t := by
  obtain ⟨hb, h0, h1, h2, h3, h4, ha, hl, hs, hls⟩ := h
  obtain ⟨x, c, rfl, _⟩ := ha.shape
  obtain ⟨y, d, rfl, _⟩ := hl.shape
  exact ⟨_, _, _, _, _, _, _, _, _, hb, h0, h1, h2, h3, h4, _, _, _, _, _, _, _, _, _, _, _, rfl, rfl, ha, hl, hs, hls⟩
theorem alloc_keeps {S : Nat → Prop} {W : World} {o : Obj} (hS : ∀ b, S b → b < W.heap.size) : Keeps S W (W.alloc o) := fun b hb => heap_old (hS b hb)

theorem sameTy_v (S : Nat → Prop) (k k' : Int) (s s' : ByteArray) (va vl va' vl' : Value) (op op' : Bool) (w : World) (t u : Ty) (hsz : tySize t ≤ 900000) (hS : ∀ b, S b → b < w.heap.size)
    (ht : TyV w S [.int .i64 k, .string s, va, vl, .bool op] t) (hu : TyV w S [.int .i64 k', .string s', va', vl', .bool op'] u) :
    Calls Tryd.prog 14 #[.agg #[.int .i64 k, .string s, va, vl, .bool op], .agg #[.int .i64 k', .string s', va', vl', .bool op']] w (tyGives w t u) := by
  have K : Keeps S w ((w.alloc (.cells #[.int .i64 k, .string s, va, vl, .bool op] 37)).alloc (.cells #[.int .i64 k', .string s', va', vl', .bool op'] 37)) := fun b hb => by
    have := hS b hb
    rw [heap_old (by simp; omega), heap_old this]
  refine sameTy_any k k' s s' va vl va' vl' op op' w t u hsz ((ht.carry K fun b hb => ?_).at_ ?_ fun j x hj => ?_) ((hu.carry K fun b hb => ?_).at_ ?_ fun j x hj => ?_)
  · have := hS b hb; omega
  · omega
  · rw [Nat.zero_add]
    refine cell_block (cs := #[.int .i64 k, .string s, va, vl, .bool op]) (T := 37) ((heap_old (by simp)).trans (heap_last rfl)) ?_
    simpa using hj
  · have := hS b hb; omega
  · omega
  · rw [Nat.zero_add]
    refine cell_block (cs := #[.int .i64 k', .string s', va', vl', .bool op']) (T := 37) (heap_last (by simp)) ?_
    simpa using hj

theorem tySum_at : ∀ {l : List Ty} {j : Nat} (h : j < l.length), tySize l[j] ≤ tySum l
  | t :: r, 0, _ => by simp [tySum]
  | t :: r, j + 1, h => by
    have := tySum_at (l := r) (j := j) (by simpa using h)
    simp only [tySum, List.map_cons, List.sum_cons, List.getElem_cons_succ] at this ⊢
    omega

set_option maxHeartbeats 1000000 in
set_option maxRecDepth 100000 in
theorem eqt_any (S : Nat → Prop) (l m : List Ty) (v u : Value) (gl ol gm om : Nat) (w : World) (hS : ∀ b, S b → b < w.heap.size) (hsz : tySum l ≤ 900000) (hv : Sl S v l.length gl ol) (hu : Sl S u m.length gm om)
    (hl : ∀ i (h : i < l.length), TyAt w S gl (ol + i * 5) l[i]) (hm : ∀ i (h : i < m.length), TyAt w S gm (om + i * 5) m[i]) :
    Calls Tryd.prog 33 #[v, u, .func (.func 14) #[] #[]] w fun e w' => e = .returned (.bool (same l m)) ∧ Below w.heap.size w w' := by
  obtain ⟨x, c, rfl, hx⟩ := hv.shape
  obtain ⟨y, d, rfl, hy⟩ := hu.shape
  obtain ⟨n, hn⟩ : ∃ n, l.length = n := ⟨_, rfl⟩
  obtain ⟨p, hp⟩ : ∃ p, m.length = p := ⟨_, rfl⟩
  have HL := Lib.hid (And.intro hn (And.intro hl hx))
  have HM := Lib.hid (And.intro hp (And.intro hm hy))
  have HS := Lib.hid (And.intro hS hsz)
  rw [hn, hp]
  clear hn hp hl hm hx hy hv hu hS hsz
  by_cases hnp : n = p
  · subst hnp
    have z : ((n : Int) != (n : Int)) = false := by simp
    go_enter Tryd.func33, Tryd.ntmps33
    go_wp2_with fail
    go_loopg [17] n (fun gk i wr => ∃ j, gk = n - j ∧ j ≤ n ∧ i = .int .i64 j ∧ Below w.heap.size w wr ∧ l.take j = m.take j)
    case atStart => exact ⟨0, rfl, Nat.zero_le _, rfl, Below.refl _ _, rfl⟩
    case round =>
      obtain ⟨j, rfl, hj, rfl, hB, htk⟩ := hrel
      have hbs := hB.size
      have HT := Lib.hid htk
      clear htk
      by_cases hlt : j < n
      · have hi' : (j : Int) < (n : Int) := by omega
        have hjl : j < l.length := by have := HL.out.1; omega
        have hjm : j < m.length := by have := HM.out.1; omega
        obtain ⟨rfl, hc1, hc2, _⟩ := HL.out.2.2 (by have := HL.out.1; omega)
        obtain ⟨rfl, hd1, hd2, _⟩ := HM.out.2.2 (by have := HM.out.1; omega)
        rw [HL.out.1] at hc1
        rw [HM.out.1] at hd1
        unfold maxLen at hc2 hd2
        obtain ⟨k1, s1, xa1, xl1, na1, ca1, nl1, cl1, o1, sb, c0, c1, c2, c3, c4, hv1⟩ := (HL.out.2.1 j hjl).carry (keeps_of hB HS.out.1) (fun _ h => h) |>.open_
        obtain ⟨k2, s2, xa2, xl2, na2, ca2, nl2, cl2, o2, sb', d0, d1, d2, d3, d4, hv2⟩ := (HM.out.2.1 j hjm).carry (keeps_of hB HS.out.1) (fun _ h => h) |>.open_
        have hsb := HS.out.1 _ sb
        have hsb' := HS.out.1 _ sb'
        have hgl : gl < wr.heap.size := by omega
        have hgm : gm < wr.heap.size := by omega
        have CS : Hid (∀ W, Below w.heap.size wr W → Calls Tryd.prog 14 #[.agg #[.int .i64 k1, .string s1, .slice xa1 na1 ca1, .slice xl1 nl1 cl1, .bool o1], .agg #[.int .i64 k2, .string s2, .slice xa2 na2 ca2, .slice xl2 nl2 cl2, .bool o2]] W fun e w' => e = .returned (.bool (same l[j] m[j])) ∧ Below w.heap.size wr w') := Lib.hid fun W hW => by
          have hws := hW.size
          refine (sameTy_v S k1 k2 s1 s2 (.slice xa1 na1 ca1) (.slice xl1 nl1 cl1) (.slice xa2 na2 ca2) (.slice xl2 nl2 cl2) o1 o2 W l[j] m[j] (Nat.le_trans (tySum_at hjl) HS.out.2) (fun b hb => by have := HS.out.1 b hb; omega) (hv1.carry (keeps_of hW HS.out.1) fun _ h => h) (hv2.carry (keeps_of hW HS.out.1) fun _ h => h)).mono ?_
          rintro e w' ⟨rfl, hB'⟩
          exact ⟨rfl, hW.trans (hB'.mono (by omega))⟩
        clear hv1 hv2 sb sb'
        by_cases hab : l[j] = m[j]
        · rw [same_yes hab] at CS
          have HE := Lib.hid hab
          clear hab
          go_wp2_with (go_at_call 14; with_reducible refine (CS.out _ (by go_grown)).mono ?_; rintro e9 w9 ⟨rfl, hB9⟩)
          go_roundg (n - (j + 1))
          case measure => omega
          case rel => exact ⟨j + 1, rfl, hlt, by first | rfl | simp, hB.trans hB9, take_step hjl hjm HT.out HE.out⟩
        · rw [same_no hab] at CS
          have hne : l ≠ m := fun h => hab (by simp [h])
          have HN := Lib.hid (same_no hne)
          clear hab hne
          go_wp2_with (go_at_call 14; with_reducible refine (CS.out _ (by go_grown)).mono ?_; rintro e9 w9 ⟨rfl, hB9⟩)
          go_ret
          exact ⟨by rw [HN.out]; rfl, hB.trans hB9⟩
      · have hi' : ¬ (j : Int) < (n : Int) := by omega
        have hjn : j = n := by omega
        have he : l = m := by
          have h := HT.out
          rw [hjn] at h
          have h1 := HL.out.1
          have h2 := HM.out.1
          rwa [← h1, List.take_length, h1, ← h2, List.take_length] at h
        have HN := Lib.hid (same_yes he)
        clear he hjn
        go_wp2_with fail
        go_ret
        exact ⟨by rw [HN.out]; rfl, hB⟩
  · have z : ((n : Int) != (p : Int)) = true := by simp; omega
    have hne : l ≠ m := fun h => hnp (by rw [← HL.out.1, ← HM.out.1, h])
    have HN := Lib.hid (same_no hne)
    clear hne hnp
    go_enter Tryd.func33, Tryd.ntmps33
    go_wp2_with fail
    go_ret
    exact ⟨by rw [HN.out]; rfl, Below.refl _ _⟩
end Go.Proofs.YtoopndgdaiblpaaDoor
