/- tree.alikeMembers, and slices.EqualFunc at two lists of members by it, told whole. -/
import Derived.Test.YtoopndgdaiblpaaDoorEqT
import Derived.Deep.RegionHeld3
namespace Go.Proofs.YtoopndgdaiblpaaDoor
open Go.ChangeShapes Go.WideShapes Go.ChangeAt Go.RowKit

theorem same_congr {α β : Type} {a b : α} {c d : β} (h : a = b ↔ c = d) : same a b = same c d := by
  by_cases e : c = d
  · rw [same_yes e, same_yes (h.2 e)]
  · rw [same_no e, same_no (fun x => e (h.1 x))]

/-- A member without what its parts are. -/
def meKey : Nd → Option (Int × ByteArray × ByteArray × Nat × List Ty)
  | .me k name as_ types args => some (k, name, as_, args.length, types)
  | .ex .. => none
/-- A member's parts. -/
def meArgs : Nd → List Nd
  | .me _ _ _ _ args => args
  | .ex .. => []
/-- How great a tree's types are, one by one. -/
def tyOk (l : List Ty) : Prop := tySum l ≤ 900000

/-- A member as a value. -/
def MwV (W : World) (S : Nat → Prop) (vs : List Value) (t : Nd) : Prop := ∃ (k : Int) (name as_ : ByteArray) (va vt : Value) (types : List Ty) (args : List Nd) (ga oa gt ot : Nat),
  vs = [.int .i64 k, .string name, .string as_, va, vt] ∧ t = .me k name as_ types args ∧ Sl S va args.length ga oa ∧ Sl S vt types.length gt ot ∧ (∀ i (h : i < types.length), TyAt W S gt (ot + i * 5) types[i])
theorem MwV.carry {W W' : World} {B C : Nat → Prop} {vs : List Value} {t : Nd} (h : MwV W B vs t) (hB : Keeps B W W') (hC : ∀ b, B b → C b) : MwV W' C vs t := by
  obtain ⟨k, nm, a, va, vt, ts, ags, ga, oa, gt, ot, rfl, rfl, h1, h2, h3⟩ := h
  exact ⟨k, nm, a, va, vt, ts, ags, ga, oa, gt, ot, rfl, rfl, h1.mono hC, h2.mono hC, fun i hi => (h3 i hi).carry hB hC⟩
/-- A member that lies at a place, as a value. -/
theorem NdAt.openM {W : World} {S : Nat → Prop} {b o : Nat} {t : Nd} (h : NdAt W S b o t) (hx : isEx t = false) : ∃ (k : Int) (name as_ : ByteArray) (xa xl : Option Addr) (na ca nl cl : Nat), S b ∧ W.cell? ⟨b, o, none⟩ = some (.int .i64 k) ∧ W.cell? ⟨b, o + 1, none⟩ = some (.string name) ∧ W.cell? ⟨b, o + 2, none⟩ = some (.string as_) ∧ W.cell? ⟨b, o + 3, none⟩ = some (.slice xa na ca) ∧ W.cell? ⟨b, o + 4, none⟩ = some (.slice xl nl cl) ∧
    MwV W S [.int .i64 k, .string name, .string as_, .slice xa na ca, .slice xl nl cl] t := by
  cases h with
  | ex => cases hx
  | me hb h0 h1 h2 h3 h4 ha ht hs hts hax =>
    obtain ⟨x, c, rfl, _⟩ := ha.shape
    obtain ⟨y, d, rfl, _⟩ := ht.shape
    exact ⟨_, _, _, _, _, _, _, _, _, hb, h0, h1, h2, h3, h4, _, _, _, _, _, _, _, _, _, _, _, rfl, rfl, ha, ht, hts⟩

def meGives (w : World) (t u : Nd) (e : Ending) (w' : World) : Prop := e = .returned (.bool (same (meKey t) (meKey u))) ∧ Below w.heap.size w w'

set_option maxHeartbeats 4000000 in
set_option maxRecDepth 100000 in
theorem alikeM_any (S : Nat → Prop) (k k' : Int) (s s' a a' : ByteArray) (va vt va' vt' : Value) (w : World) (t u : Nd) (hS : ∀ b, S b → b < w.heap.size) (hsz : ∀ k s a ts ags, t = .me k s a ts ags → tySum ts ≤ 900000)
    (ht : MwV w S [.int .i64 k, .string s, .string a, va, vt] t) (hu : MwV w S [.int .i64 k', .string s', .string a', va', vt'] u) :
    Calls Tryd.prog 35 #[.agg #[.int .i64 k, .string s, .string a, va, vt], .agg #[.int .i64 k', .string s', .string a', va', vt']] w (meGives w t u) := by
  obtain ⟨_, _, _, _, _, ts, ags, ga, oa, gt, ot, e1, rfl, ha, hb, hc⟩ := ht
  obtain ⟨_, _, _, _, _, ts', ags', ga', oa', gt', ot', e2, rfl, ha', hb', hc'⟩ := hu
  simp only [List.cons.injEq, Value.int.injEq, Value.string.injEq, true_and, and_true] at e1 e2
  obtain ⟨rfl, rfl, rfl, rfl, rfl⟩ := e1
  obtain ⟨rfl, rfl, rfl, rfl, rfl⟩ := e2
  obtain ⟨x3, c3, rfl, _⟩ := ha.shape
  obtain ⟨y3, d3, rfl, _⟩ := ha'.shape
  have CT : Hid (∀ V, Below w.heap.size w V → Calls Tryd.prog 33 #[vt, vt', .func (.func 14) #[] #[]] V fun e w' => e = .returned (.bool (same ts ts')) ∧ Below w.heap.size w w') := Lib.hid fun V hV => by
    have hv := hV.size
    refine (eqt_any S ts ts' vt vt' gt ot gt' ot' V (fun b hb => by have := hS b hb; omega) (hsz _ _ _ _ _ rfl) hb hb' (fun i hi => (hc i hi).carry (keeps_of hV hS) fun _ h => h) (fun i hi => (hc' i hi).carry (keeps_of hV hS) fun _ h => h)).mono ?_
    rintro e w' ⟨rfl, hB⟩
    exact ⟨rfl, hV.trans (hB.mono hv)⟩
  obtain ⟨x4, c4, rfl, _⟩ := hb.shape
  obtain ⟨y4, d4, rfl, _⟩ := hb'.shape
  obtain ⟨n, hn⟩ : ∃ n, ags.length = n := ⟨_, rfl⟩
  obtain ⟨n', hn'⟩ : ∃ n, ags'.length = n := ⟨_, rfl⟩
  rw [hn, hn']
  obtain ⟨m, hm⟩ : ∃ m, ts.length = m := ⟨_, rfl⟩
  obtain ⟨m', hm'⟩ : ∃ m, ts'.length = m := ⟨_, rfl⟩
  rw [hm, hm'] at CT ⊢
  have KK : Hid (same (meKey (.me k s a ts ags)) (meKey (.me k' s' a' ts' ags')) = same (k, s, a, n, ts) (k', s', a', n', ts')) := Lib.hid (by
    rw [← hn, ← hn']; exact same_congr (by simp only [meKey, Option.some.injEq]))
  clear ha hb hc ha' hb' hc' hsz hS hn hn' hm hm'
  by_cases h1 : k = k'
  rotate_left
  · have z1 : (k == k') = false := by simpa using h1
    have KN := Lib.hid (KK.out.trans (same_no (fun h => h1 (congrArg (·.1) h))))
    clear h1 KK CT
    go_enter Tryd.func35, Tryd.ntmps35
    go_wp2_with fail
    go_ret
    exact ⟨by rw [KN.out]; rfl, by go_grown⟩
  by_cases h2 : s = s'
  rotate_left
  · have z1 : (k == k') = true := by simpa using h1
    have z2 : (s.toList == s'.toList) = false := (Lib.bytes_beq_false_iff s s').2 h2
    have KN := Lib.hid (KK.out.trans (same_no (fun h => h2 (congrArg (·.2.1) h))))
    clear h1 h2 KK CT
    go_enter Tryd.func35, Tryd.ntmps35
    go_wp2_with fail
    go_ret
    exact ⟨by rw [KN.out]; rfl, by go_grown⟩
  by_cases h3 : a = a'
  rotate_left
  · have z1 : (k == k') = true := by simpa using h1
    have z2 : (s.toList == s'.toList) = true := (Lib.bytes_beq_iff s s').2 h2
    have z3 : (a.toList == a'.toList) = false := (Lib.bytes_beq_false_iff a a').2 h3
    have KN := Lib.hid (KK.out.trans (same_no (fun h => h3 (congrArg (·.2.2.1) h))))
    clear h1 h2 h3 KK CT
    go_enter Tryd.func35, Tryd.ntmps35
    go_wp2_with fail
    go_ret
    exact ⟨by rw [KN.out]; rfl, by go_grown⟩
  by_cases h4 : n = n'
  rotate_left
  · have z1 : (k == k') = true := by simpa using h1
    have z2 : (s.toList == s'.toList) = true := (Lib.bytes_beq_iff s s').2 h2
    have z3 : (a.toList == a'.toList) = true := (Lib.bytes_beq_iff a a').2 h3
    have z4 : ((n : Int) == (n' : Int)) = false := by simp; omega
    have KN := Lib.hid (KK.out.trans (same_no (fun h => h4 (congrArg (·.2.2.2.1) h))))
    clear h1 h2 h3 h4 KK CT
    go_enter Tryd.func35, Tryd.ntmps35
    go_wp2_with fail
    go_ret
    exact ⟨by rw [KN.out]; rfl, by go_grown⟩
  have z1 : (k == k') = true := by simpa using h1
  have z2 : (s.toList == s'.toList) = true := (Lib.bytes_beq_iff s s').2 h2
  have z3 : (a.toList == a'.toList) = true := (Lib.bytes_beq_iff a a').2 h3
  have z4 : ((n : Int) == (n' : Int)) = true := by rw [h4]; exact beq_self_eq_true _
  have KE : Hid (same (meKey (.me k s a ts ags)) (meKey (.me k' s' a' ts' ags')) = same ts ts') := Lib.hid (by
    rw [KK.out, h1, h2, h3, h4]; simp [same])
  clear h1 h2 h3 h4 KK
  go_enter Tryd.func35, Tryd.ntmps35
  go_wp2_with (go_at_call 33; with_reducible refine (CT.out _ (by go_grown)).mono ?_; rintro e9 w9 ⟨rfl, hB9⟩)
  go_ret
  exact ⟨by rw [KE.out]; rfl, hB9⟩

/-- slices.EqualFunc at two lists of members. -/
def memsOk (l : List Nd) : Prop := ∀ x ∈ l, ∀ k s a ts ags, x = .me k s a ts ags → tySum ts ≤ 900000
set_option maxHeartbeats 1000000 in
set_option maxRecDepth 100000 in
theorem eqm_any (S : Nat → Prop) (l m : List Nd) (v u : Value) (gl ol gm om : Nat) (w : World) (hS : ∀ b, S b → b < w.heap.size) (hsz : memsOk l) (hv : Sl S v l.length gl ol) (hu : Sl S u m.length gm om)
    (hl : ∀ i (h : i < l.length), NdAt w S gl (ol + i * 5) l[i]) (hm : ∀ i (h : i < m.length), NdAt w S gm (om + i * 5) m[i]) (hxl : ∀ x ∈ l, isEx x = false) (hxm : ∀ x ∈ m, isEx x = false) :
    Calls Tryd.prog 34 #[v, u, .func (.func 35) #[] #[]] w fun e w' => e = .returned (.bool (same (l.map meKey) (m.map meKey))) ∧ Below w.heap.size w w' := by
  obtain ⟨x, c, rfl, hx⟩ := hv.shape
  obtain ⟨y, d, rfl, hy⟩ := hu.shape
  obtain ⟨n, hn⟩ : ∃ n, l.length = n := ⟨_, rfl⟩
  obtain ⟨p, hp⟩ : ∃ p, m.length = p := ⟨_, rfl⟩
  have HL := Lib.hid (And.intro hn (And.intro hl hx))
  have HM := Lib.hid (And.intro hp (And.intro hm hy))
  have HS := Lib.hid (And.intro hS (And.intro hsz (And.intro hxl hxm)))
  rw [hn, hp]
  clear hn hp hl hm hx hy hv hu hS hsz hxl hxm
  by_cases hnp : n = p
  · subst hnp
    have z : ((n : Int) != (n : Int)) = false := by simp
    go_enter Tryd.func34, Tryd.ntmps34
    go_wp2_with fail
    go_loopg [17] n (fun gk i wr => ∃ j, gk = n - j ∧ j ≤ n ∧ i = .int .i64 j ∧ Below w.heap.size w wr ∧ (l.map meKey).take j = (m.map meKey).take j)
    case atStart => exact ⟨0, rfl, Nat.zero_le _, rfl, Below.refl _ _, rfl⟩
    case round =>
      obtain ⟨j, rfl, hj, rfl, hB, htk⟩ := hrel
      have hbs := hB.size
      have HT := Lib.hid htk
      clear htk
      by_cases hlt : j < n
      · have hi' : (j : Int) < (n : Int) := by omega
        have hjl : j < l.length := by have := HL.out.1; omega
        have hjm : j < m.length := by have := HM.out.1; omega
        obtain ⟨rfl, hc1, hc2, _⟩ := HL.out.2.2 (by have := HL.out.1; omega)
        obtain ⟨rfl, hd1, hd2, _⟩ := HM.out.2.2 (by have := HM.out.1; omega)
        rw [HL.out.1] at hc1
        rw [HM.out.1] at hd1
        unfold maxLen at hc2 hd2
        obtain ⟨k1, s1, a1, xa1, xl1, na1, ca1, nl1, cl1, sb, c0, c1, c2, c3, c4, hv1⟩ := ((HL.out.2.1 j hjl).carry (keeps_of hB HS.out.1) (fun _ h => h)).openM (HS.out.2.2.1 _ (List.getElem_mem hjl))
        obtain ⟨k2, s2, a2, xa2, xl2, na2, ca2, nl2, cl2, sb', d0, d1, d2, d3, d4, hv2⟩ := ((HM.out.2.1 j hjm).carry (keeps_of hB HS.out.1) (fun _ h => h)).openM (HS.out.2.2.2 _ (List.getElem_mem hjm))
        have hsb := HS.out.1 _ sb
        have hsb' := HS.out.1 _ sb'
        have hgl : gl < wr.heap.size := by omega
        have hgm : gm < wr.heap.size := by omega
        have CS : Hid (∀ W, Below w.heap.size wr W → Calls Tryd.prog 35 #[.agg #[.int .i64 k1, .string s1, .string a1, .slice xa1 na1 ca1, .slice xl1 nl1 cl1], .agg #[.int .i64 k2, .string s2, .string a2, .slice xa2 na2 ca2, .slice xl2 nl2 cl2]] W fun e w' => e = .returned (.bool (same (meKey l[j]) (meKey m[j]))) ∧ Below w.heap.size wr w') := Lib.hid fun W hW => by
          have hws := hW.size
          refine (alikeM_any S k1 k2 s1 s2 a1 a2 (.slice xa1 na1 ca1) (.slice xl1 nl1 cl1) (.slice xa2 na2 ca2) (.slice xl2 nl2 cl2) W l[j] m[j] (fun b hb => by have := HS.out.1 b hb; omega) (HS.out.2.1 _ (List.getElem_mem hjl)) (hv1.carry (keeps_of hW HS.out.1) fun _ h => h) (hv2.carry (keeps_of hW HS.out.1) fun _ h => h)).mono ?_
          rintro e w' ⟨rfl, hB'⟩
          exact ⟨rfl, hW.trans (hB'.mono (by omega))⟩
        clear hv1 hv2 sb sb'
        by_cases hab : meKey l[j] = meKey m[j]
        · rw [same_yes hab] at CS
          have HE := Lib.hid hab
          clear hab
          go_wp2_with (go_at_call 35; with_reducible refine (CS.out _ (by go_grown)).mono ?_; rintro e9 w9 ⟨rfl, hB9⟩)
          go_roundg (n - (j + 1))
          case measure => omega
          case rel => exact ⟨j + 1, rfl, hlt, by first | rfl | simp, hB.trans hB9, take_step (by simpa using hjl) (by simpa using hjm) HT.out (by simpa using HE.out)⟩
        · rw [same_no hab] at CS
          have hne : l.map meKey ≠ m.map meKey := fun h => hab (by have := List.getElem_of_eq h (i := j) (by simpa using hjl); simpa using this)
          have HN := Lib.hid (same_no hne)
          clear hab hne
          go_wp2_with (go_at_call 35; with_reducible refine (CS.out _ (by go_grown)).mono ?_; rintro e9 w9 ⟨rfl, hB9⟩)
          go_ret
          exact ⟨by rw [HN.out]; rfl, hB.trans hB9⟩
      · have hi' : ¬ (j : Int) < (n : Int) := by omega
        have hjn : j = n := by omega
        have he : l.map meKey = m.map meKey := by
          have h := HT.out
          rw [hjn] at h
          have h1 := HL.out.1
          have h2 := HM.out.1
          rwa [List.take_of_length_le (by simp; omega), List.take_of_length_le (by simp; omega)] at h
        have HN := Lib.hid (same_yes he)
        clear he hjn
        go_wp2_with fail
        go_ret
        exact ⟨by rw [HN.out]; rfl, hB⟩
  · have z : ((n : Int) != (p : Int)) = true := by simp; omega
    have hne : l.map meKey ≠ m.map meKey := fun h => hnp (by rw [← HL.out.1, ← HM.out.1]; simpa using congrArg List.length h)
    have HN := Lib.hid (same_no hne)
    clear hne hnp
    go_enter Tryd.func34, Tryd.ntmps34
    go_wp2_with fail
    go_ret
    exact ⟨by rw [HN.out]; rfl, Below.refl _ _⟩
end Go.Proofs.YtoopndgdaiblpaaDoor
