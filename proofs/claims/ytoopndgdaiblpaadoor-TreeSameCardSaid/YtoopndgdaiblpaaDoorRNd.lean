/- trefoilref02.Same, told whole. -/
import Derived.Test.YtoopndgdaiblpaaDoorRTy
import Derived.Test.YtoopndgdaiblpaaDoorAp
import Derived.Deep.RegionHeld3
namespace Go.Proofs.YtoopndgdaiblpaaDoor
open Go.ChangeShapes Go.WideShapes Go.ChangeAt Go.RowKit

theorem ndSum_at : ∀ {l : List Nd} {j : Nat} (h : j < l.length), ndSize l[j] ≤ ndSum l
  | t :: r, 0, _ => by simp [ndSum]
  | t :: r, j + 1, h => by
    have := ndSum_at (l := r) (j := j) (by simpa using h)
    simp only [ndSum, List.map_cons, List.sum_cons, List.getElem_cons_succ] at this ⊢
    omega
/-- An expression that lies at a place, as a value. -/
theorem NdAt.openE {W : World} {S : Nat → Prop} {b o : Nat} {t : Nd} (h : NdAt W S b o t) (hx : isEx t = true) : ∃ (k : Int) (s : ByteArray) (n : Int) (xa xn xt xm : Option Addr) (na ca nn cn nt ct nm cm : Nat), S b ∧ W.cell? ⟨b, o, none⟩ = some (.int .i64 k) ∧ W.cell? ⟨b, o + 1, none⟩ = some (.string s) ∧ W.cell? ⟨b, o + 2, none⟩ = some (.int .i64 n) ∧ W.cell? ⟨b, o + 3, none⟩ = some (.slice xa na ca) ∧ W.cell? ⟨b, o + 4, none⟩ = some (.slice xn nn cn) ∧ W.cell? ⟨b, o + 5, none⟩ = some (.slice xt nt ct) ∧ W.cell? ⟨b, o + 6, none⟩ = some (.slice xm nm cm) ∧
    ExV W S [.int .i64 k, .string s, .int .i64 n, .slice xa na ca, .slice xn nn cn, .slice xt nt ct, .slice xm nm cm] t := by
  obtain ⟨hb, h0, h1, h2, h3, h4, h5, h6, ha, hnn, htt, hm, hs, hns, hts, hms, hax, hmx⟩ | _ := h
  rotate_left
  · cases hx
  obtain ⟨x3, c3, rfl, _⟩ := ha.shape
  obtain ⟨x4, c4, rfl, _⟩ := hnn.shape
  obtain ⟨x5, c5, rfl, _⟩ := htt.shape
  obtain ⟨x6, c6, rfl, _⟩ := hm.shape
  exact ⟨_, _, _, _, _, _, _, _, _, _, _, _, _, _, _, hb, h0, h1, h2, h3, h4, h5, h6, _, _, _, _, _, _, _, _, _, _, _, _, _, _, _, _, _, _, _, rfl, rfl, ha, hnn, htt, hm, hs, hns, hts, hms, hax, hmx⟩

/-- A member that lies at a place, as a value with its parts. -/
theorem NdAt.openMv {W : World} {S : Nat → Prop} {b o : Nat} {t : Nd} (h : NdAt W S b o t) (hx : isEx t = false) : ∃ (k : Int) (name as_ : ByteArray) (xa xl : Option Addr) (na ca nl cl : Nat), S b ∧ W.cell? ⟨b, o, none⟩ = some (.int .i64 k) ∧ W.cell? ⟨b, o + 1, none⟩ = some (.string name) ∧ W.cell? ⟨b, o + 2, none⟩ = some (.string as_) ∧ W.cell? ⟨b, o + 3, none⟩ = some (.slice xa na ca) ∧ W.cell? ⟨b, o + 4, none⟩ = some (.slice xl nl cl) ∧
    MeV W S [.int .i64 k, .string name, .string as_, .slice xa na ca, .slice xl nl cl] t := by
  obtain _ | ⟨hb, h0, h1, h2, h3, h4, ha, ht, hs, hts, hax⟩ := h
  · cases hx
  obtain ⟨x, c, rfl, _⟩ := ha.shape
  obtain ⟨y, d, rfl, _⟩ := ht.shape
  exact ⟨_, _, _, _, _, _, _, _, _, hb, h0, h1, h2, h3, h4, _, _, _, _, _, _, _, _, _, _, _, rfl, rfl, ha, ht, hs, hts, hax⟩

/-- Same at expressions as values, the first one no greater than so. -/
def RefSameN (f : Nat) : Prop := ∀ (S : Nat → Prop) (k k' : Int) (s s' : ByteArray) (n n' : Int) (va vn vt vm va' vn' vt' vm' : Value) (w : World) (t u : Nd), ndSize t ≤ f → TyFine t → (∀ b, S b → b < w.heap.size) →
    ExV w S [.int .i64 k, .string s, .int .i64 n, va, vn, vt, vm] t → ExV w S [.int .i64 k', .string s', .int .i64 n', va', vn', vt', vm'] u →
    Calls Tryd.prog 13 #[.agg #[.int .i64 k, .string s, .int .i64 n, va, vn, vt, vm], .agg #[.int .i64 k', .string s', .int .i64 n', va', vn', vt', vm']] w (ndGives w t u)

theorem boxRule {B : Nat} {W W' : World} (h : Below B W W') (b : Nat) (hb : b < B) : ∀ o, W'.cell? ⟨b, o, none⟩ = W.cell? ⟨b, o, none⟩ := fun o => h.cell (p := ⟨b, o, none⟩) hb

set_option linter.unusedSimpArgs false in
set_option maxHeartbeats 4000000 in
set_option maxRecDepth 100000 in
/-- sames, where Same is told at expressions that are no greater than so. -/
theorem sames_of (f : Nat) (ih : RefSameN f) (S : Nat → Prop) (l m : List Nd) (v u : Value) (gl ol gm om : Nat) (w : World) (hS : ∀ b, S b → b < w.heap.size) (hsz : ndSum l ≤ f) (hfi : ∀ x ∈ l, TyFine x) (hxl : ∀ x ∈ l, isEx x = true) (hxm : ∀ x ∈ m, isEx x = true) (hv : Sl S v l.length gl ol) (hu : Sl S u m.length gm om)
    (hl : ∀ i (h : i < l.length), NdAt w S gl (ol + i * 7) l[i]) (hm : ∀ i (h : i < m.length), NdAt w S gm (om + i * 7) m[i]) :
    Calls Tryd.prog 26 #[v, u] w fun e w' => e = .returned (.bool (same l m)) ∧ Below w.heap.size w w' := by
  obtain ⟨x, c, rfl, hx⟩ := hv.shape
  obtain ⟨y, d, rfl, hy⟩ := hu.shape
  obtain ⟨n, hn⟩ : ∃ n, l.length = n := ⟨_, rfl⟩
  obtain ⟨p, hp⟩ : ∃ p, m.length = p := ⟨_, rfl⟩
  have HL := Lib.hid (And.intro hn (And.intro hl hx))
  have HM := Lib.hid (And.intro hp (And.intro hm hy))
  have HS := Lib.hid (And.intro hS (And.intro hsz (And.intro ih (And.intro hfi (And.intro hxl hxm)))))
  rw [hn, hp]
  clear hn hp hl hm hx hy hv hu hS hsz ih hfi hxl hxm
  by_cases hnp : n = p
  · subst hnp
    have z : ((n : Int) != (n : Int)) = false := by simp
    go_enter Tryd.func26, Tryd.ntmps26
    go_wp2_with fail
    go_loopg [13] n (fun gk i wr => ∃ j, gk = n - j ∧ j ≤ n ∧ i = .int .i64 j ∧ Below w.heap.size w wr ∧ l.take j = m.take j)
    case atStart => exact ⟨0, rfl, Nat.zero_le _, rfl, Below.refl _ _, rfl⟩
    case round =>
      obtain ⟨j, rfl, hj, rfl, hB, htk⟩ := hrel
      have hbs := hB.size
      have HT := Lib.hid htk
      clear htk
      by_cases hlt : j < n
      · have hi' : (j : Int) < (n : Int) := by omega
        have hjl : j < l.length := by have := HL.out.1; omega
        have hjm : j < m.length := by have := HM.out.1; omega
        obtain ⟨rfl, hc1, hc2, _⟩ := HL.out.2.2 (by have := HL.out.1; omega)
        obtain ⟨rfl, hd1, hd2, _⟩ := HM.out.2.2 (by have := HM.out.1; omega)
        rw [HL.out.1] at hc1
        rw [HM.out.1] at hd1
        unfold maxLen at hc2 hd2
        obtain ⟨k1, s1, n1, xa1, xn1, xt1, xm1, na1, ca1, nn1, cn1, nt1, ct1, nm1, cm1, sb, c0, c1, c2, c3, c4, c5, c6, hv1⟩ := ((HL.out.2.1 j hjl).carry (keeps_of hB HS.out.1) (fun _ h => h)).openE (HS.out.2.2.2.2.1 _ (List.getElem_mem hjl))
        obtain ⟨k2, s2, n2, xa2, xn2, xt2, xm2, na2, ca2, nn2, cn2, nt2, ct2, nm2, cm2, sb', d0, d1, d2, d3, d4, d5, d6, hv2⟩ := ((HM.out.2.1 j hjm).carry (keeps_of hB HS.out.1) (fun _ h => h)).openE (HS.out.2.2.2.2.2 _ (List.getElem_mem hjm))
        have hsb := HS.out.1 _ sb
        have hsb' := HS.out.1 _ sb'
        have hgl : gl < wr.heap.size := by omega
        have hgm : gm < wr.heap.size := by omega
        have CS : Hid (∀ W, Below w.heap.size wr W → Calls Tryd.prog 13 #[.agg #[.int .i64 k1, .string s1, .int .i64 n1, .slice xa1 na1 ca1, .slice xn1 nn1 cn1, .slice xt1 nt1 ct1, .slice xm1 nm1 cm1], .agg #[.int .i64 k2, .string s2, .int .i64 n2, .slice xa2 na2 ca2, .slice xn2 nn2 cn2, .slice xt2 nt2 ct2, .slice xm2 nm2 cm2]] W fun e w' => e = .returned (.bool (same l[j] m[j])) ∧ Below w.heap.size wr w') := Lib.hid fun W hW => by
          have hws := hW.size
          refine (HS.out.2.2.1 S k1 k2 s1 s2 n1 n2 _ _ _ _ _ _ _ _ W l[j] m[j] (Nat.le_trans (ndSum_at hjl) HS.out.2.1) (HS.out.2.2.2.1 _ (List.getElem_mem hjl)) (fun b hb => by have := HS.out.1 b hb; omega) (hv1.carry (keeps_of hW HS.out.1) fun _ h => h) (hv2.carry (keeps_of hW HS.out.1) fun _ h => h)).mono ?_
          rintro e w' ⟨rfl, hB'⟩
          exact ⟨rfl, hW.trans (hB'.mono (by omega))⟩
        clear hv1 hv2 sb sb'
        have SO : Hid (∀ V, Below w.heap.size wr V → V.cell? ⟨gl, ol + j * 7, none⟩ = some (.int .i64 k1) ∧ V.cell? ⟨gl, ol + j * 7 + 1, none⟩ = some (.string s1) ∧ V.cell? ⟨gl, ol + j * 7 + 2, none⟩ = some (.int .i64 n1) ∧ V.cell? ⟨gl, ol + j * 7 + 3, none⟩ = some (.slice xa1 na1 ca1) ∧ V.cell? ⟨gl, ol + j * 7 + 4, none⟩ = some (.slice xn1 nn1 cn1) ∧ V.cell? ⟨gl, ol + j * 7 + 5, none⟩ = some (.slice xt1 nt1 ct1) ∧ V.cell? ⟨gl, ol + j * 7 + 6, none⟩ = some (.slice xm1 nm1 cm1) ∧ V.cell? ⟨gm, om + j * 7, none⟩ = some (.int .i64 k2) ∧ V.cell? ⟨gm, om + j * 7 + 1, none⟩ = some (.string s2) ∧ V.cell? ⟨gm, om + j * 7 + 2, none⟩ = some (.int .i64 n2) ∧ V.cell? ⟨gm, om + j * 7 + 3, none⟩ = some (.slice xa2 na2 ca2) ∧ V.cell? ⟨gm, om + j * 7 + 4, none⟩ = some (.slice xn2 nn2 cn2) ∧ V.cell? ⟨gm, om + j * 7 + 5, none⟩ = some (.slice xt2 nt2 ct2) ∧ V.cell? ⟨gm, om + j * 7 + 6, none⟩ = some (.slice xm2 nm2 cm2)) := Lib.hid fun V hV =>
          ⟨(hV.cell (p := ⟨gl, _, none⟩) hsb).trans c0, (hV.cell (p := ⟨gl, _, none⟩) hsb).trans c1, (hV.cell (p := ⟨gl, _, none⟩) hsb).trans c2, (hV.cell (p := ⟨gl, _, none⟩) hsb).trans c3, (hV.cell (p := ⟨gl, _, none⟩) hsb).trans c4, (hV.cell (p := ⟨gl, _, none⟩) hsb).trans c5, (hV.cell (p := ⟨gl, _, none⟩) hsb).trans c6, (hV.cell (p := ⟨gm, _, none⟩) hsb').trans d0, (hV.cell (p := ⟨gm, _, none⟩) hsb').trans d1, (hV.cell (p := ⟨gm, _, none⟩) hsb').trans d2, (hV.cell (p := ⟨gm, _, none⟩) hsb').trans d3, (hV.cell (p := ⟨gm, _, none⟩) hsb').trans d4, (hV.cell (p := ⟨gm, _, none⟩) hsb').trans d5, (hV.cell (p := ⟨gm, _, none⟩) hsb').trans d6⟩
        have hBB : Below w.heap.size wr wr.drew := (Below.refl _ _).drew
        clear c0 c1 c2 c3 c4 c5 c6 d0 d1 d2 d3 d4 d5 d6
        by_cases hab : l[j] = m[j]
        · rw [same_yes hab] at CS
          have HE := Lib.hid hab
          clear hab
          go_wp2_with fail
          refine wp_region_held_drew (S := fun V => V.cell? ⟨gl, ol + j * 7, none⟩ = some (.int .i64 k1) ∧ V.cell? ⟨gl, ol + j * 7 + 1, none⟩ = some (.string s1) ∧ V.cell? ⟨gl, ol + j * 7 + 2, none⟩ = some (.int .i64 n1) ∧ V.cell? ⟨gl, ol + j * 7 + 3, none⟩ = some (.slice xa1 na1 ca1) ∧ V.cell? ⟨gl, ol + j * 7 + 4, none⟩ = some (.slice xn1 nn1 cn1) ∧ V.cell? ⟨gl, ol + j * 7 + 5, none⟩ = some (.slice xt1 nt1 ct1) ∧ V.cell? ⟨gl, ol + j * 7 + 6, none⟩ = some (.slice xm1 nm1 cm1) ∧ V.cell? ⟨gm, om + j * 7, none⟩ = some (.int .i64 k2) ∧ V.cell? ⟨gm, om + j * 7 + 1, none⟩ = some (.string s2) ∧ V.cell? ⟨gm, om + j * 7 + 2, none⟩ = some (.int .i64 n2) ∧ V.cell? ⟨gm, om + j * 7 + 3, none⟩ = some (.slice xa2 na2 ca2) ∧ V.cell? ⟨gm, om + j * 7 + 4, none⟩ = some (.slice xn2 nn2 cn2) ∧ V.cell? ⟨gm, om + j * 7 + 5, none⟩ = some (.slice xt2 nt2 ct2) ∧ V.cell? ⟨gm, om + j * 7 + 6, none⟩ = some (.slice xm2 nm2 cm2)) (by kernel_rfl) (SO.out _ hBB) (fun hHeld => ?_)
          refine wpAnyH_take (i := 0) (v := ?_) rfl (by kernel_rfl) (by kernel_rfl) (by kernel_rfl) (fun _ _ _ h => h) (Or.inl ⟨by rfl, ?_⟩) (by assumption) ?_
          rotate_left
          · intro w hSw
            (try dsimp only at hSw)
            go_simp
            try with_reducible rfl
          try simp only [List.getElem_toArray, List.getElem_cons_zero, List.getElem_cons_succ, Act.put, List.setIfInBounds_toArray, List.set_cons_zero, List.set_cons_succ]
          refine wpAnyH_take (i := 1) (v := ?_) rfl (by kernel_rfl) (by kernel_rfl) (by kernel_rfl) (fun _ _ _ h => h) (Or.inl ⟨by rfl, ?_⟩) (by assumption) ?_
          rotate_left
          · intro w hSw
            (try dsimp only at hSw)
            go_simp
            try with_reducible rfl
          try simp only [List.getElem_toArray, List.getElem_cons_zero, List.getElem_cons_succ, Act.put, List.setIfInBounds_toArray, List.set_cons_zero, List.set_cons_succ]
          refine wpAnyH_take (i := 2) (v := ?_) rfl (by kernel_rfl) (by kernel_rfl) (by kernel_rfl) (fun _ _ _ h => h) (Or.inl ⟨by rfl, ?_⟩) (by assumption) ?_
          rotate_left
          · intro w hSw
            (try dsimp only at hSw)
            go_simp
            try with_reducible rfl
          try simp only [List.getElem_toArray, List.getElem_cons_zero, List.getElem_cons_succ, Act.put, List.setIfInBounds_toArray, List.set_cons_zero, List.set_cons_succ]
          refine wpAnyH_take (i := 3) (v := ?_) rfl (by kernel_rfl) (by kernel_rfl) (by kernel_rfl) (fun _ _ _ h => h) (Or.inl ⟨by rfl, ?_⟩) (by assumption) ?_
          rotate_left
          · intro w hSw
            (try dsimp only at hSw)
            go_simp
            try with_reducible rfl
          try simp only [List.getElem_toArray, List.getElem_cons_zero, List.getElem_cons_succ, Act.put, List.setIfInBounds_toArray, List.set_cons_zero, List.set_cons_succ]
          refine wpAnyH_take (i := 4) (v := ?_) rfl (by kernel_rfl) (by kernel_rfl) (by kernel_rfl) (fun _ _ _ h => h) (Or.inl ⟨by rfl, ?_⟩) (by assumption) ?_
          rotate_left
          · intro w hSw
            (try dsimp only at hSw)
            go_simp
            try with_reducible rfl
          try simp only [List.getElem_toArray, List.getElem_cons_zero, List.getElem_cons_succ, Act.put, List.setIfInBounds_toArray, List.set_cons_zero, List.set_cons_succ]
          refine wpAnyH_take (i := 5) (v := ?_) rfl (by kernel_rfl) (by kernel_rfl) (by kernel_rfl) (fun _ _ _ h => h) (Or.inl ⟨by rfl, ?_⟩) (by assumption) ?_
          rotate_left
          · intro w hSw
            (try dsimp only at hSw)
            go_simp
            try with_reducible rfl
          try simp only [List.getElem_toArray, List.getElem_cons_zero, List.getElem_cons_succ, Act.put, List.setIfInBounds_toArray, List.set_cons_zero, List.set_cons_succ]
          refine wpAnyH_take (i := 6) (v := ?_) rfl (by kernel_rfl) (by kernel_rfl) (by kernel_rfl) (fun _ _ _ h => h) (Or.inl ⟨by rfl, ?_⟩) (by assumption) ?_
          rotate_left
          · intro w hSw
            (try dsimp only at hSw)
            go_simp
            try with_reducible rfl
          try simp only [List.getElem_toArray, List.getElem_cons_zero, List.getElem_cons_succ, Act.put, List.setIfInBounds_toArray, List.set_cons_zero, List.set_cons_succ]
          refine wpAnyH_take (i := 7) (v := ?_) rfl (by kernel_rfl) (by kernel_rfl) (by kernel_rfl) (fun _ _ _ h => h) (Or.inl ⟨by rfl, ?_⟩) (by assumption) ?_
          rotate_left
          · intro w hSw
            (try dsimp only at hSw)
            go_simp
            try with_reducible rfl
          try simp only [List.getElem_toArray, List.getElem_cons_zero, List.getElem_cons_succ, Act.put, List.setIfInBounds_toArray, List.set_cons_zero, List.set_cons_succ]
          refine wpAnyH_ready (rs := [8]) (by kernel_rfl) (by simp) ?_
          refine AllReadyH.cons (by simp only [List.getElem?_toArray, List.getElem?_cons_zero, List.getElem?_cons_succ]; rfl) (fun K hK => ?_) AllReadyH.nil
          go_simp
          (go_at_call 13; with_reducible refine (CS.out _ hBB).mono ?_; rintro e9 w9 ⟨rfl, hBB⟩)
          go_wp2_with fail
          refine hK.out _ _ (by first | assumption | exact SO.out _ (by first | exact hBB | exact dN_below hBB _)) (fun hHeld => ?_)
          try simp only [List.getElem_toArray, List.getElem_cons_zero, List.getElem_cons_succ, Act.put, List.setIfInBounds_toArray, List.set_cons_zero, List.set_cons_succ]
          refine wpAnyH_take (i := 9) (v := ?_) rfl (by kernel_rfl) (by kernel_rfl) (by kernel_rfl) (fun _ _ _ h => h) (Or.inl ⟨by rfl, ?_⟩) (by assumption) ?_
          rotate_left
          · intro w hSw
            (try dsimp only at hSw)
            go_simp
            try with_reducible rfl
          try simp only [List.getElem_toArray, List.getElem_cons_zero, List.getElem_cons_succ, Act.put, List.setIfInBounds_toArray, List.set_cons_zero, List.set_cons_succ]
          refine wpAnyH_done (by kernel_rfl) ?_ _
          go_wp2_with fail
          go_roundg (n - (j + 1))
          case measure => omega
          case rel => exact ⟨j + 1, rfl, hlt, by first | rfl | simp, hB.trans hBB, take_step hjl hjm HT.out HE.out⟩
        · rw [same_no hab] at CS
          have hne : l ≠ m := fun h => hab (by simp [h])
          have HN := Lib.hid (same_no hne)
          clear hab hne
          go_wp2_with fail
          refine wp_region_held_drew (S := fun V => V.cell? ⟨gl, ol + j * 7, none⟩ = some (.int .i64 k1) ∧ V.cell? ⟨gl, ol + j * 7 + 1, none⟩ = some (.string s1) ∧ V.cell? ⟨gl, ol + j * 7 + 2, none⟩ = some (.int .i64 n1) ∧ V.cell? ⟨gl, ol + j * 7 + 3, none⟩ = some (.slice xa1 na1 ca1) ∧ V.cell? ⟨gl, ol + j * 7 + 4, none⟩ = some (.slice xn1 nn1 cn1) ∧ V.cell? ⟨gl, ol + j * 7 + 5, none⟩ = some (.slice xt1 nt1 ct1) ∧ V.cell? ⟨gl, ol + j * 7 + 6, none⟩ = some (.slice xm1 nm1 cm1) ∧ V.cell? ⟨gm, om + j * 7, none⟩ = some (.int .i64 k2) ∧ V.cell? ⟨gm, om + j * 7 + 1, none⟩ = some (.string s2) ∧ V.cell? ⟨gm, om + j * 7 + 2, none⟩ = some (.int .i64 n2) ∧ V.cell? ⟨gm, om + j * 7 + 3, none⟩ = some (.slice xa2 na2 ca2) ∧ V.cell? ⟨gm, om + j * 7 + 4, none⟩ = some (.slice xn2 nn2 cn2) ∧ V.cell? ⟨gm, om + j * 7 + 5, none⟩ = some (.slice xt2 nt2 ct2) ∧ V.cell? ⟨gm, om + j * 7 + 6, none⟩ = some (.slice xm2 nm2 cm2)) (by kernel_rfl) (SO.out _ hBB) (fun hHeld => ?_)
          refine wpAnyH_take (i := 0) (v := ?_) rfl (by kernel_rfl) (by kernel_rfl) (by kernel_rfl) (fun _ _ _ h => h) (Or.inl ⟨by rfl, ?_⟩) (by assumption) ?_
          rotate_left
          · intro w hSw
            (try dsimp only at hSw)
            go_simp
            try with_reducible rfl
          try simp only [List.getElem_toArray, List.getElem_cons_zero, List.getElem_cons_succ, Act.put, List.setIfInBounds_toArray, List.set_cons_zero, List.set_cons_succ]
          refine wpAnyH_take (i := 1) (v := ?_) rfl (by kernel_rfl) (by kernel_rfl) (by kernel_rfl) (fun _ _ _ h => h) (Or.inl ⟨by rfl, ?_⟩) (by assumption) ?_
          rotate_left
          · intro w hSw
            (try dsimp only at hSw)
            go_simp
            try with_reducible rfl
          try simp only [List.getElem_toArray, List.getElem_cons_zero, List.getElem_cons_succ, Act.put, List.setIfInBounds_toArray, List.set_cons_zero, List.set_cons_succ]
          refine wpAnyH_take (i := 2) (v := ?_) rfl (by kernel_rfl) (by kernel_rfl) (by kernel_rfl) (fun _ _ _ h => h) (Or.inl ⟨by rfl, ?_⟩) (by assumption) ?_
          rotate_left
          · intro w hSw
            (try dsimp only at hSw)
            go_simp
            try with_reducible rfl
          try simp only [List.getElem_toArray, List.getElem_cons_zero, List.getElem_cons_succ, Act.put, List.setIfInBounds_toArray, List.set_cons_zero, List.set_cons_succ]
          refine wpAnyH_take (i := 3) (v := ?_) rfl (by kernel_rfl) (by kernel_rfl) (by kernel_rfl) (fun _ _ _ h => h) (Or.inl ⟨by rfl, ?_⟩) (by assumption) ?_
          rotate_left
          · intro w hSw
            (try dsimp only at hSw)
            go_simp
            try with_reducible rfl
          try simp only [List.getElem_toArray, List.getElem_cons_zero, List.getElem_cons_succ, Act.put, List.setIfInBounds_toArray, List.set_cons_zero, List.set_cons_succ]
          refine wpAnyH_take (i := 4) (v := ?_) rfl (by kernel_rfl) (by kernel_rfl) (by kernel_rfl) (fun _ _ _ h => h) (Or.inl ⟨by rfl, ?_⟩) (by assumption) ?_
          rotate_left
          · intro w hSw
            (try dsimp only at hSw)
            go_simp
            try with_reducible rfl
          try simp only [List.getElem_toArray, List.getElem_cons_zero, List.getElem_cons_succ, Act.put, List.setIfInBounds_toArray, List.set_cons_zero, List.set_cons_succ]
          refine wpAnyH_take (i := 5) (v := ?_) rfl (by kernel_rfl) (by kernel_rfl) (by kernel_rfl) (fun _ _ _ h => h) (Or.inl ⟨by rfl, ?_⟩) (by assumption) ?_
          rotate_left
          · intro w hSw
            (try dsimp only at hSw)
            go_simp
            try with_reducible rfl
          try simp only [List.getElem_toArray, List.getElem_cons_zero, List.getElem_cons_succ, Act.put, List.setIfInBounds_toArray, List.set_cons_zero, List.set_cons_succ]
          refine wpAnyH_take (i := 6) (v := ?_) rfl (by kernel_rfl) (by kernel_rfl) (by kernel_rfl) (fun _ _ _ h => h) (Or.inl ⟨by rfl, ?_⟩) (by assumption) ?_
          rotate_left
          · intro w hSw
            (try dsimp only at hSw)
            go_simp
            try with_reducible rfl
          try simp only [List.getElem_toArray, List.getElem_cons_zero, List.getElem_cons_succ, Act.put, List.setIfInBounds_toArray, List.set_cons_zero, List.set_cons_succ]
          refine wpAnyH_take (i := 7) (v := ?_) rfl (by kernel_rfl) (by kernel_rfl) (by kernel_rfl) (fun _ _ _ h => h) (Or.inl ⟨by rfl, ?_⟩) (by assumption) ?_
          rotate_left
          · intro w hSw
            (try dsimp only at hSw)
            go_simp
            try with_reducible rfl
          try simp only [List.getElem_toArray, List.getElem_cons_zero, List.getElem_cons_succ, Act.put, List.setIfInBounds_toArray, List.set_cons_zero, List.set_cons_succ]
          refine wpAnyH_ready (rs := [8]) (by kernel_rfl) (by simp) ?_
          refine AllReadyH.cons (by simp only [List.getElem?_toArray, List.getElem?_cons_zero, List.getElem?_cons_succ]; rfl) (fun K hK => ?_) AllReadyH.nil
          go_simp
          (go_at_call 13; with_reducible refine (CS.out _ hBB).mono ?_; rintro e9 w9 ⟨rfl, hBB⟩)
          go_wp2_with fail
          refine hK.out _ _ (by first | assumption | exact SO.out _ (by first | exact hBB | exact dN_below hBB _)) (fun hHeld => ?_)
          try simp only [List.getElem_toArray, List.getElem_cons_zero, List.getElem_cons_succ, Act.put, List.setIfInBounds_toArray, List.set_cons_zero, List.set_cons_succ]
          refine wpAnyH_take (i := 9) (v := ?_) rfl (by kernel_rfl) (by kernel_rfl) (by kernel_rfl) (fun _ _ _ h => h) (Or.inl ⟨by rfl, ?_⟩) (by assumption) ?_
          rotate_left
          · intro w hSw
            (try dsimp only at hSw)
            go_simp
            try with_reducible rfl
          try simp only [List.getElem_toArray, List.getElem_cons_zero, List.getElem_cons_succ, Act.put, List.setIfInBounds_toArray, List.set_cons_zero, List.set_cons_succ]
          refine wpAnyH_done (by kernel_rfl) ?_ _
          go_wp2_with fail
          go_ret
          exact ⟨by rw [HN.out]; rfl, hB.trans hBB⟩
      · have hi' : ¬ (j : Int) < (n : Int) := by omega
        have hjn : j = n := by omega
        have he : l = m := by
          have h := HT.out
          rw [hjn] at h
          have h1 := HL.out.1
          have h2 := HM.out.1
          rwa [← h1, List.take_length, h1, ← h2, List.take_length] at h
        have HN := Lib.hid (same_yes he)
        clear he hjn
        go_wp2_with fail
        go_ret
        exact ⟨by rw [HN.out]; rfl, hB⟩
  · have z : ((n : Int) != (p : Int)) = true := by simp; omega
    have hne : l ≠ m := fun h => hnp (by rw [← HL.out.1, ← HM.out.1, h])
    have HN := Lib.hid (same_no hne)
    clear hne hnp
    go_enter Tryd.func26, Tryd.ntmps26
    go_wp2_with fail
    go_ret
    exact ⟨by rw [HN.out]; rfl, Below.refl _ _⟩

set_option maxHeartbeats 8000000 in
set_option maxRecDepth 100000 in
/-- Same, at any expressions. -/
theorem refSameN : ∀ f, f ≤ 900000 → RefSameN f
  | 0, _ => fun _ _ _ _ _ _ _ _ _ _ _ _ _ _ _ _ t _ h => by have := ndSize_pos t; omega
  | f + 1, hf9 => fun S k k' s s' n n' va vn vt vm va' vn' vt' vm' w t u hsz hfi hS ht hu => by
    have ih := refSameN f (by omega)
    obtain ⟨_, _, _, _, _, _, _, nms, tys, ags, ms, ga, oa, gn, on, gt, ot, gm, om, e1, rfl, ha, hn, htt, hm, hs, hns, hts, hms, hax, hmx⟩ := ht
    obtain ⟨_, _, _, _, _, _, _, nms', tys', ags', ms', ga', oa', gn', on', gt', ot', gm', om', e2, rfl, ha', hn', htt', hm', hs', hns', hts', hms', hax', hmx'⟩ := hu
    simp only [List.cons.injEq, Value.int.injEq, Value.string.injEq, true_and, and_true] at e1 e2
    obtain ⟨rfl, rfl, rfl, rfl, rfl, rfl, rfl⟩ := e1
    obtain ⟨rfl, rfl, rfl, rfl, rfl, rfl, rfl⟩ := e2
    rw [ndSize_ex] at hsz
    obtain ⟨ht9, hfa, hfm⟩ : tySum tys ≤ 900000 ∧ (∀ x ∈ ags, TyFine x) ∧ (∀ x ∈ ms, TyFine x) := by
      cases hfi with
      | ex a b c => exact ⟨a, b, c⟩
    have CN : Hid (∀ V, Below w.heap.size w V → Calls Tryd.prog 24 #[vn, vn'] V fun e w' => e = .returned (.bool (same nms nms')) ∧ ∃ q, w' = V.drewN q) := Lib.hid fun V hV =>
      names_any S nms nms' vn vn' gn on gn' on' V hn hn' (fun i h => (hV.cell (p := ⟨gn, on + i, none⟩) (hS _ (hn.lt (by omega)))).trans (hns i h)) (fun i h => (hV.cell (p := ⟨gn', on' + i, none⟩) (hS _ (hn'.lt (by omega)))).trans (hns' i h))
    have CT : Hid (∀ V, Below w.heap.size w V → Calls Tryd.prog 25 #[vt, vt'] V fun e w' => e = .returned (.bool (same tys tys')) ∧ Below V.heap.size V w') := Lib.hid fun V hV => by
      have hv := hV.size
      exact sameTypes_of 900000 (refSame 900000) S tys tys' vt vt' gt ot gt' ot' V (fun b hb => by have := hS b hb; omega) ht9 htt htt' (fun i hi => (hts i hi).carry (keeps_of hV hS) fun _ h => h) (fun i hi => (hts' i hi).carry (keeps_of hV hS) fun _ h => h)
    have CS : Hid (∀ V, Below w.heap.size w V → Calls Tryd.prog 26 #[va, va'] V fun e w' => e = .returned (.bool (same ags ags')) ∧ Below V.heap.size V w') := Lib.hid fun V hV => by
      have hv := hV.size
      exact sames_of f ih S ags ags' va va' ga oa ga' oa' V (fun b hb => by have := hS b hb; omega) (by omega) hfa hax hax' ha ha' (fun i hi => (hs i hi).carry (keeps_of hV hS) fun _ h => h) (fun i hi => (hs' i hi).carry (keeps_of hV hS) fun _ h => h)
    obtain ⟨x3, c3, rfl, _⟩ := ha.shape
    obtain ⟨y3, d3, rfl, _⟩ := ha'.shape
    obtain ⟨x4, c4, rfl, _⟩ := hn.shape
    obtain ⟨y4, d4, rfl, _⟩ := hn'.shape
    obtain ⟨x5, c5, rfl, _⟩ := htt.shape
    obtain ⟨y5, d5, rfl, _⟩ := htt'.shape
    obtain ⟨x6, c6, rfl, hmh⟩ := hm.shape
    obtain ⟨y6, d6, rfl, hmh'⟩ := hm'.shape
    obtain ⟨na, hna⟩ : ∃ n, ags.length = n := ⟨_, rfl⟩
    obtain ⟨na', hna'⟩ : ∃ n, ags'.length = n := ⟨_, rfl⟩
    obtain ⟨nn, hnn⟩ : ∃ n, nms.length = n := ⟨_, rfl⟩
    obtain ⟨nn', hnn'⟩ : ∃ n, nms'.length = n := ⟨_, rfl⟩
    obtain ⟨nt, hnt⟩ : ∃ n, tys.length = n := ⟨_, rfl⟩
    obtain ⟨nt', hnt'⟩ : ∃ n, tys'.length = n := ⟨_, rfl⟩
    obtain ⟨nm, hnm⟩ : ∃ n, ms.length = n := ⟨_, rfl⟩
    obtain ⟨nm', hnm'⟩ : ∃ n, ms'.length = n := ⟨_, rfl⟩
    rw [hna, hna'] at CS ⊢
    rw [hnn, hnn'] at CN ⊢
    rw [hnt, hnt'] at CT ⊢
    have HM := Lib.hid (And.intro hnm (And.intro hmh (And.intro hms (And.intro hmx (And.intro hnm' (And.intro hmh' (And.intro hms' hmx')))))))
    have HF := Lib.hid (And.intro hfm (And.intro hS (And.intro ih hsz)))
    rw [hnm, hnm']
    have KK : Hid (same (Nd.ex k s n nms tys ags ms) (Nd.ex k' s' n' nms' tys' ags' ms') = same (k, s, n, nms, tys, ags, nm, ms) (k', s', n', nms', tys', ags', nm', ms')) := Lib.hid (same_congr (by
      simp only [Nd.ex.injEq, Prod.mk.injEq]
      constructor
      · rintro ⟨a, b, c, d, e, f, g⟩; exact ⟨a, b, c, d, e, f, by rw [← hnm, ← hnm', g], g⟩
      · rintro ⟨a, b, c, d, e, f, _, g⟩; exact ⟨a, b, c, d, e, f, g⟩))
    have hB0 : Hid (Below w.heap.size w ((w.alloc (.cells #[.int .i64 k, .string s, .int .i64 n, .slice x3 na c3, .slice x4 nn c4, .slice x5 nt c5, .slice x6 nm c6] 33)).alloc (.cells #[.int .i64 k', .string s', .int .i64 n', .slice y3 na' d3, .slice y4 nn' d4, .slice y5 nt' d5, .slice y6 nm' d6] 33))) := Lib.hid (((Below.refl _ _).alloc (Nat.le_refl _) _).alloc (by simp) _)
    clear ha hn htt hm hs hns hts hms hax hmx ha' hn' htt' hm' hs' hns' hts' hms' hax' hmx' ih hS hsz hna hna' hnn hnn' hnt hnt' hnm hnm' hmh hmh' hfi ht9 hfa hfm
    by_cases e0 : k = k'
    rotate_left
    · have z1 : (k != k') = true := by simpa using e0
      have KN := Lib.hid (KK.out.trans (same_no (fun h => e0 (congrArg (·.1) h))))
      clear e0 KK HM HF CN CT CS
      go_enter Tryd.func13, Tryd.ntmps13
      go_wp2_with fail
      go_ret
      exact ⟨by rw [KN.out]; rfl, hB0.out⟩
    by_cases e1 : s = s'
    rotate_left
    · have z1 : (k != k') = false := by simpa using e0
      have y2 : (s.toList == s'.toList) = false := (Lib.bytes_beq_false_iff s s').2 e1
      have z2 : (s.toList != s'.toList) = true := by simp [bne, y2]
      have KN := Lib.hid (KK.out.trans (same_no (fun h => e1 (congrArg (·.2.1) h))))
      clear e0 e1 KK HM HF CN CT CS
      go_enter Tryd.func13, Tryd.ntmps13
      go_wp2_with fail
      go_ret
      exact ⟨by rw [KN.out]; rfl, hB0.out⟩
    by_cases e2 : n = n'
    rotate_left
    · have z1 : (k != k') = false := by simpa using e0
      have y2 : (s.toList == s'.toList) = true := (Lib.bytes_beq_iff s s').2 e1
      have z2 : (s.toList != s'.toList) = false := by simp [bne, y2]
      have z3 : (n != n') = true := by simpa using e2
      have KN := Lib.hid (KK.out.trans (same_no (fun h => e2 (congrArg (·.2.2.1) h))))
      clear e0 e1 e2 KK HM HF CN CT CS
      go_enter Tryd.func13, Tryd.ntmps13
      go_wp2_with fail
      go_ret
      exact ⟨by rw [KN.out]; rfl, hB0.out⟩
    by_cases e3 : nms = nms'
    rotate_left
    · have z1 : (k != k') = false := by simpa using e0
      have y2 : (s.toList == s'.toList) = true := (Lib.bytes_beq_iff s s').2 e1
      have z2 : (s.toList != s'.toList) = false := by simp [bne, y2]
      have z3 : (n != n') = false := by simpa using e2
      rw [same_no e3] at CN
      have KN := Lib.hid (KK.out.trans (same_no (fun h => e3 (congrArg (·.2.2.2.1) h))))
      clear e0 e1 e2 e3 KK HM HF CT CS
      go_enter Tryd.func13, Tryd.ntmps13
      go_wp2_with (go_at_call 24; with_reducible refine (CN.out _ hB0.out).mono ?_; rintro e9 w9 ⟨rfl, q9, rfl⟩)
      go_ret
      exact ⟨by rw [KN.out]; rfl, dN_below hB0.out _⟩
    by_cases e4 : tys = tys'
    rotate_left
    · have z1 : (k != k') = false := by simpa using e0
      have y2 : (s.toList == s'.toList) = true := (Lib.bytes_beq_iff s s').2 e1
      have z2 : (s.toList != s'.toList) = false := by simp [bne, y2]
      have z3 : (n != n') = false := by simpa using e2
      rw [same_yes e3] at CN
      rw [same_no e4] at CT
      have KN := Lib.hid (KK.out.trans (same_no (fun h => e4 (congrArg (·.2.2.2.2.1) h))))
      clear e0 e1 e2 e3 e4 KK HM HF CS
      go_enter Tryd.func13, Tryd.ntmps13
      go_wp2_with (first | (go_at_call 24; with_reducible refine (CN.out _ hB0.out).mono ?_; rintro e9 w9 ⟨rfl, q9, rfl⟩) | (go_at_call 25; (with_reducible refine (CT.out _ (dN_below hB0.out _)).mono ?_); (rintro e8 w8 ⟨rfl, hB8⟩); (have r8 := boxRule hB8 w.heap.size (by simp; omega)); (have r8' := boxRule hB8 (w.heap.size + 1) (by simp)); (have hC8 : Below w.heap.size w w8 := (dN_below hB0.out _).trans (hB8.mono (by simp; omega)))))
      go_ret
      exact ⟨by rw [KN.out]; rfl, hC8⟩
    by_cases e5 : ags = ags'
    rotate_left
    · have z1 : (k != k') = false := by simpa using e0
      have y2 : (s.toList == s'.toList) = true := (Lib.bytes_beq_iff s s').2 e1
      have z2 : (s.toList != s'.toList) = false := by simp [bne, y2]
      have z3 : (n != n') = false := by simpa using e2
      rw [same_yes e3] at CN
      rw [same_yes e4] at CT
      rw [same_no e5] at CS
      have KN := Lib.hid (KK.out.trans (same_no (fun h => e5 (congrArg (·.2.2.2.2.2.1) h))))
      clear e0 e1 e2 e3 e4 e5 KK HM HF
      go_enter Tryd.func13, Tryd.ntmps13
      go_wp2_with (first | (go_at_call 24; with_reducible refine (CN.out _ hB0.out).mono ?_; rintro e9 w9 ⟨rfl, q9, rfl⟩) | (go_at_call 25; (with_reducible refine (CT.out _ (dN_below hB0.out _)).mono ?_); (rintro e8 w8 ⟨rfl, hB8⟩); (have r8 := boxRule hB8 w.heap.size (by simp; omega)); (have r8' := boxRule hB8 (w.heap.size + 1) (by simp)); (have hC8 : Below w.heap.size w w8 := (dN_below hB0.out _).trans (hB8.mono (by simp; omega)))) | (go_at_call 26; (with_reducible refine (CS.out _ hC8).mono ?_); (rintro e7 w7 ⟨rfl, hB7⟩); (have r7 := boxRule hB7 w.heap.size (by have h := hB8.size; simp at h; omega)); (have r7' := boxRule hB7 (w.heap.size + 1) (by have h := hB8.size; simp at h; omega)); (have hC7 : Below w.heap.size w w7 := hC8.trans (hB7.mono hC8.size))))
      go_ret
      exact ⟨by rw [KN.out]; rfl, hC7⟩
    by_cases e6 : nm = nm'
    rotate_left
    · have z1 : (k != k') = false := by simpa using e0
      have y2 : (s.toList == s'.toList) = true := (Lib.bytes_beq_iff s s').2 e1
      have z2 : (s.toList != s'.toList) = false := by simp [bne, y2]
      have z3 : (n != n') = false := by simpa using e2
      have z7 : ((nm : Int) != (nm' : Int)) = true := by simp; omega
      rw [same_yes e3] at CN
      rw [same_yes e4] at CT
      rw [same_yes e5] at CS
      have KN := Lib.hid (KK.out.trans (same_no (fun h => e6 (congrArg (·.2.2.2.2.2.2.1) h))))
      clear e0 e1 e2 e3 e4 e5 e6 KK HM HF
      go_enter Tryd.func13, Tryd.ntmps13
      go_wp2_with (first | (go_at_call 24; with_reducible refine (CN.out _ hB0.out).mono ?_; rintro e9 w9 ⟨rfl, q9, rfl⟩) | (go_at_call 25; (with_reducible refine (CT.out _ (dN_below hB0.out _)).mono ?_); (rintro e8 w8 ⟨rfl, hB8⟩); (have r8 := boxRule hB8 w.heap.size (by simp; omega)); (have r8' := boxRule hB8 (w.heap.size + 1) (by simp)); (have hC8 : Below w.heap.size w w8 := (dN_below hB0.out _).trans (hB8.mono (by simp; omega)))) | (go_at_call 26; (with_reducible refine (CS.out _ hC8).mono ?_); (rintro e7 w7 ⟨rfl, hB7⟩); (have r7 := boxRule hB7 w.heap.size (by have h := hB8.size; simp at h; omega)); (have r7' := boxRule hB7 (w.heap.size + 1) (by have h := hB8.size; simp at h; omega)); (have hC7 : Below w.heap.size w w7 := hC8.trans (hB7.mono hC8.size))))
      go_ret
      exact ⟨by rw [KN.out]; rfl, hC7⟩
    have z1 : (k != k') = false := by simpa using e0
    have y2 : (s.toList == s'.toList) = true := (Lib.bytes_beq_iff s s').2 e1
    have z2 : (s.toList != s'.toList) = false := by simp [bne, y2]
    have z3 : (n != n') = false := by simpa using e2
    have z7 : ((nm : Int) != (nm' : Int)) = false := by rw [e6]; simp
    rw [same_yes e3] at CN
    rw [same_yes e4] at CT
    rw [same_yes e5] at CS
    have KE := Lib.hid (KK.out.trans (same_congr (c := ms) (d := ms') (by rw [e0, e1, e2, e3, e4, e5, e6]; simp)))
    obtain rfl : nm = nm' := e6
    clear e0 e1 e2 e3 e4 e5 KK
    go_enter Tryd.func13, Tryd.ntmps13
    go_wp2_with (first | (go_at_call 24; with_reducible refine (CN.out _ hB0.out).mono ?_; rintro e9 w9 ⟨rfl, q9, rfl⟩) | (go_at_call 25; (with_reducible refine (CT.out _ (dN_below hB0.out _)).mono ?_); (rintro e8 w8 ⟨rfl, hB8⟩); (have r8 := boxRule hB8 w.heap.size (by simp; omega)); (have r8' := boxRule hB8 (w.heap.size + 1) (by simp)); (have hC8 : Below w.heap.size w w8 := (dN_below hB0.out _).trans (hB8.mono (by simp; omega)))) | (go_at_call 26; (with_reducible refine (CS.out _ hC8).mono ?_); (rintro e7 w7 ⟨rfl, hB7⟩); (have r7 := boxRule hB7 w.heap.size (by have h := hB8.size; simp at h; omega)); (have r7' := boxRule hB7 (w.heap.size + 1) (by have h := hB8.size; simp at h; omega)); (have hC7 : Below w.heap.size w w7 := hC8.trans (hB7.mono hC8.size))))
    have f6 : w7.cell? ⟨w.heap.size + 1, 6, none⟩ = some (.slice y6 nm d6) := by rw [r7' 6, r8' 6]; simp [go_sem]
    have F6 := Lib.hid f6
    have hs7 : w.heap.size + 1 < w7.heap.size := by have h := hB8.size; have h2 := hB7.size; simp at h; omega
    have hnm5 : nm ≤ 900000 := by have h1 := HF.out.2.2.2; have h2 := ndSum_len ms; have h3 := HM.out.1; have h4 := hf9; omega
    clear f6 r7 r7' r8 r8' hB7 hB8
    go_loopg [63] nm (fun gk i wr => ∃ j, gk = nm - j ∧ j ≤ nm ∧ i = .int .i64 j ∧ ms.take j = ms'.take j ∧ Below w7.heap.size w7 wr)
    case atStart => exact ⟨0, rfl, Nat.zero_le _, rfl, rfl, Below.refl _ _⟩
    case round =>
      obtain ⟨j, rfl, hj, rfl, htk, hB⟩ := hrel
      have hbs := hB.size
      have HTK := Lib.hid htk
      clear htk
      have q6 := (hB.cell (p := ⟨w.heap.size + 1, 6, none⟩) hs7).trans F6.out
      have hCw : Below w.heap.size w wr := hC7.trans (hB.mono (by omega))
      by_cases hlt : j < nm
      · have hi' : (j : Int) < (nm : Int) := by omega
        have hjl : j < ms.length := by have := HM.out.1; omega
        have hjm : j < ms'.length := by have := HM.out.2.2.2.2.1; omega
        obtain ⟨rfl, hc1, hc2, _⟩ := HM.out.2.1 (by have := HM.out.1; omega)
        obtain ⟨rfl, hd1, hd2, _⟩ := HM.out.2.2.2.2.2.1 (by have := HM.out.2.2.2.2.1; omega)
        rw [HM.out.1] at hc1
        rw [HM.out.2.2.2.2.1] at hd1
        unfold maxLen at hc2 hd2
        obtain ⟨k1, s1, a1, xa1, xt1, na1, ca1, nt1, ct1, sb, g0, g1, g2, g3, g4, hv1⟩ := ((HM.out.2.2.1 j hjl).carry (keeps_of hCw HF.out.2.1) (fun _ h => h)).openMv (HM.out.2.2.2.1 _ (List.getElem_mem hjl))
        obtain ⟨k2, s2, a2, xa2, xt2, na2, ca2, nt2, ct2, sb', l0, l1, l2, l3, l4, hv2⟩ := ((HM.out.2.2.2.2.2.2.1 j hjm).carry (keeps_of hCw HF.out.2.1) (fun _ h => h)).openMv (HM.out.2.2.2.2.2.2.2 _ (List.getElem_mem hjm))
        have hgm : gm < wr.heap.size := by have h1 := HF.out.2.1 _ sb; have h2 := hCw.size; omega
        have hgm' : gm' < wr.heap.size := by have h1 := HF.out.2.1 _ sb'; have h2 := hCw.size; omega
        obtain ⟨_, _, _, _, _, ts1, h1, gb, ob, gc, oc, e1, em1, p1, p2, p3, p4, p5⟩ := hv1
        obtain ⟨_, _, _, _, _, ts2, h2, gb', ob', gc', oc', e2, em2, q1, q2, q3, q4, q5⟩ := hv2
        simp only [List.cons.injEq, Value.int.injEq, Value.string.injEq, true_and, and_true] at e1 e2
        obtain ⟨rfl, rfl, rfl, rfl, rfl⟩ := e1
        obtain ⟨rfl, rfl, rfl, rfl, rfl⟩ := e2
        have hfin := HF.out.1 _ (List.getElem_mem hjl)
        have hsz9 := ndSum_at hjl
        rw [em1] at hfin hsz9
        rw [ndSize_me] at hsz9
        obtain ⟨ht9, hfa⟩ : tySum ts1 ≤ 900000 ∧ (∀ x ∈ h1, TyFine x) := by cases hfin with | me a b => exact ⟨a, b⟩
        have CT1 : Hid (∀ V, Below w.heap.size wr V → Calls Tryd.prog 25 #[.slice xt1 nt1 ct1, .slice xt2 nt2 ct2] V fun e w' => e = .returned (.bool (same ts1 ts2)) ∧ Below V.heap.size V w') := Lib.hid fun V hV => by
          have hv := hV.size
          have hS := HF.out.2.1
          exact sameTypes_of 900000 (refSame 900000) S ts1 ts2 _ _ gc oc gc' oc' V (fun b hb => by have := hS b hb; have := hCw.size; omega) ht9 p2 q2 (fun i hi => (p4 i hi).carry (keeps_of hV hS) fun _ h => h) (fun i hi => (q4 i hi).carry (keeps_of hV hS) fun _ h => h)
        have CS1 : Hid (∀ V, Below w.heap.size wr V → Calls Tryd.prog 26 #[.slice xa1 na1 ca1, .slice xa2 na2 ca2] V fun e w' => e = .returned (.bool (same h1 h2)) ∧ Below V.heap.size V w') := Lib.hid fun V hV => by
          have hv := hV.size
          have hS := HF.out.2.1
          have h9 := HF.out.2.2.2
          exact sames_of f HF.out.2.2.1 S h1 h2 _ _ gb ob gb' ob' V (fun b hb => by have := hS b hb; have := hCw.size; omega) (by omega) hfa p5 q5 p1 q1 (fun i hi => (p3 i hi).carry (keeps_of hV hS) fun _ h => h) (fun i hi => (q3 i hi).carry (keeps_of hV hS) fun _ h => h)
        have hVV : Hid (Below w.heap.size wr ((wr.alloc (.cells #[.int .i64 k1, .string s1, .string a1, .slice xa1 na1 ca1, .slice xt1 nt1 ct1] 47)).alloc (.cells #[.int .i64 k2, .string s2, .string a2, .slice xa2 na2 ca2, .slice xt2 nt2 ct2] 47)) ∧ Below wr.heap.size wr ((wr.alloc (.cells #[.int .i64 k1, .string s1, .string a1, .slice xa1 na1 ca1, .slice xt1 nt1 ct1] 47)).alloc (.cells #[.int .i64 k2, .string s2, .string a2, .slice xa2 na2 ca2, .slice xt2 nt2 ct2] 47))) := Lib.hid ⟨((Below.refl _ _).alloc (by have := hCw.size; omega) _).alloc (by simp; have := hCw.size; omega) _, ((Below.refl _ _).alloc (Nat.le_refl _) _).alloc (by simp) _⟩
        have KM : Hid (same ms[j] ms'[j] = same (k1, s1, a1, h1, ts1) (k2, s2, a2, h2, ts2)) := Lib.hid (by
          rw [em1, em2]
          exact same_congr (by
            simp only [Nd.me.injEq, Prod.mk.injEq]
            constructor
            · rintro ⟨a, b, c, d, e⟩; exact ⟨a, b, c, e, d⟩
            · rintro ⟨a, b, c, d, e⟩; exact ⟨a, b, c, e, d⟩))
        have NO : Hid (∀ {x y : Int × ByteArray × ByteArray × List Nd × List Ty}, x = (k1, s1, a1, h1, ts1) → y = (k2, s2, a2, h2, ts2) → x ≠ y → same ms ms' = false) := Lib.hid fun hx hy hne => by
          subst hx hy
          have h9 := KM.out
          rw [same_no hne] at h9
          exact same_no fun h => by
            have h10 : ms[j] = ms'[j] := List.getElem_of_eq h hjl
            rw [h10, same_self] at h9
            cases h9
        clear p1 p2 p3 p4 p5 q1 q2 q3 q4 q5 hfin hsz9 ht9 hfa sb sb' em1 em2
        have hbx : w.heap.size + 1 < wr.heap.size := by omega
        by_cases i0 : k1 = k2
        rotate_left
        · have y1 : (k1 != k2) = true := by simpa using i0
          have KN := Lib.hid (KE.out.trans (NO.out rfl rfl (fun h => i0 (congrArg (·.1) h))))
          clear i0 NO KM CS1 CT1
          go_wp2_with fail
          go_ret
          exact ⟨by rw [KN.out]; rfl, hCw.trans ((hVV.out.2).mono hCw.size)⟩
        by_cases i1 : s1 = s2
        rotate_left
        · have y1 : (k1 != k2) = false := by simpa using i0
          have y1' : (s1.toList == s2.toList) = false := (Lib.bytes_beq_false_iff s1 s2).2 i1
          have y6 : (s1.toList != s2.toList) = true := by simp [bne, y1']
          have KN := Lib.hid (KE.out.trans (NO.out rfl rfl (fun h => i1 (congrArg (·.2.1) h))))
          clear i0 i1 NO KM CS1 CT1
          go_wp2_with fail
          go_ret
          exact ⟨by rw [KN.out]; rfl, hCw.trans ((hVV.out.2).mono hCw.size)⟩
        by_cases i2 : a1 = a2
        rotate_left
        · have y1 : (k1 != k2) = false := by simpa using i0
          have y1' : (s1.toList == s2.toList) = true := (Lib.bytes_beq_iff s1 s2).2 i1
          have y6 : (s1.toList != s2.toList) = false := by simp [bne, y1']
          have y2' : (a1.toList == a2.toList) = false := (Lib.bytes_beq_false_iff a1 a2).2 i2
          have y7 : (a1.toList != a2.toList) = true := by simp [bne, y2']
          have KN := Lib.hid (KE.out.trans (NO.out rfl rfl (fun h => i2 (congrArg (·.2.2.1) h))))
          clear i0 i1 i2 NO KM CS1 CT1
          go_wp2_with fail
          go_ret
          exact ⟨by rw [KN.out]; rfl, hCw.trans ((hVV.out.2).mono hCw.size)⟩
        by_cases i3 : h1 = h2
        rotate_left
        · have y1 : (k1 != k2) = false := by simpa using i0
          have y1' : (s1.toList == s2.toList) = true := (Lib.bytes_beq_iff s1 s2).2 i1
          have y6 : (s1.toList != s2.toList) = false := by simp [bne, y1']
          have y2' : (a1.toList == a2.toList) = true := (Lib.bytes_beq_iff a1 a2).2 i2
          have y7 : (a1.toList != a2.toList) = false := by simp [bne, y2']
          rw [same_no i3] at CS1
          have KN := Lib.hid (KE.out.trans (NO.out rfl rfl (fun h => i3 (congrArg (·.2.2.2.1) h))))
          clear i0 i1 i2 i3 NO KM CT1
          go_wp2_with (go_at_call 26; (with_reducible refine (CS1.out _ hVV.out.1).mono ?_); (rintro e9 v9 ⟨rfl, hB9⟩); (have r9 := boxRule hB9 wr.heap.size (by simp; omega)); (have r9' := boxRule hB9 (wr.heap.size + 1) (by simp)); (have hC9 : Below w.heap.size wr v9 := hVV.out.1.trans (hB9.mono (by simp; have := hCw.size; omega))))
          go_ret
          exact ⟨by rw [KN.out]; rfl, hCw.trans ((hVV.out.2.trans (hB9.mono (by simp; omega))).mono hCw.size)⟩
        by_cases i4 : ts1 = ts2
        rotate_left
        · have y1 : (k1 != k2) = false := by simpa using i0
          have y1' : (s1.toList == s2.toList) = true := (Lib.bytes_beq_iff s1 s2).2 i1
          have y6 : (s1.toList != s2.toList) = false := by simp [bne, y1']
          have y2' : (a1.toList == a2.toList) = true := (Lib.bytes_beq_iff a1 a2).2 i2
          have y7 : (a1.toList != a2.toList) = false := by simp [bne, y2']
          rw [same_yes i3] at CS1
          rw [same_no i4] at CT1
          have KN := Lib.hid (KE.out.trans (NO.out rfl rfl (fun h => i4 (congrArg (·.2.2.2.2) h))))
          clear i0 i1 i2 i3 i4 NO KM
          go_wp2_with (first | (go_at_call 26; (with_reducible refine (CS1.out _ hVV.out.1).mono ?_); (rintro e9 v9 ⟨rfl, hB9⟩); (have r9 := boxRule hB9 wr.heap.size (by simp; omega)); (have r9' := boxRule hB9 (wr.heap.size + 1) (by simp)); (have hC9 : Below w.heap.size wr v9 := hVV.out.1.trans (hB9.mono (by simp; have := hCw.size; omega)))) | (go_at_call 25; (with_reducible refine (CT1.out _ hC9).mono ?_); (rintro e8 v8 ⟨rfl, hB8⟩)))
          go_ret
          exact ⟨by rw [KN.out]; rfl, hCw.trans (((hVV.out.2.trans (hB9.mono (by simp; omega))).trans (hB8.mono (by have h := hB9.size; simp at h; omega))).mono hCw.size)⟩
        have y1 : (k1 != k2) = false := by simpa using i0
        have y1' : (s1.toList == s2.toList) = true := (Lib.bytes_beq_iff s1 s2).2 i1
        have y6 : (s1.toList != s2.toList) = false := by simp [bne, y1']
        have y2' : (a1.toList == a2.toList) = true := (Lib.bytes_beq_iff a1 a2).2 i2
        have y7 : (a1.toList != a2.toList) = false := by simp [bne, y2']
        rw [same_yes i3] at CS1
        rw [same_yes i4] at CT1
        have HE : Hid (ms[j] = ms'[j]) := Lib.hid (same_iff.1 (KM.out.trans (same_yes (by rw [i0, i1, i2, i3, i4]))))
        clear i0 i1 i2 i3 i4 NO KM
        go_wp2_with (first | (go_at_call 26; (with_reducible refine (CS1.out _ hVV.out.1).mono ?_); (rintro e9 v9 ⟨rfl, hB9⟩); (have r9 := boxRule hB9 wr.heap.size (by simp; omega)); (have r9' := boxRule hB9 (wr.heap.size + 1) (by simp)); (have hC9 : Below w.heap.size wr v9 := hVV.out.1.trans (hB9.mono (by simp; have := hCw.size; omega)))) | (go_at_call 25; (with_reducible refine (CT1.out _ hC9).mono ?_); (rintro e8 v8 ⟨rfl, hB8⟩)))
        go_roundg (nm - (j + 1))
        case measure => omega
        case rel => exact ⟨j + 1, rfl, hlt, by first | rfl | simp, take_step hjl hjm HTK.out HE.out, hB.trans (((hVV.out.2.trans (hB9.mono (by simp; omega))).trans (hB8.mono (by have h := hB9.size; simp at h; omega))).mono hbs)⟩
      · have hi' : ¬ (j : Int) < (nm : Int) := by omega
        have he : ms = ms' := by
          have h := HTK.out
          have h1 := HM.out.1
          have h2 := HM.out.2.2.2.2.1
          rwa [List.take_of_length_le (by omega), List.take_of_length_le (by omega)] at h
        have HN := Lib.hid (KE.out.trans (same_yes he))
        clear he
        go_wp2_with fail
        go_ret
        exact ⟨by rw [HN.out]; rfl, hCw⟩
end Go.Proofs.YtoopndgdaiblpaaDoor
