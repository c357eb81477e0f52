/- trefoilref02.SameType, told whole. -/
import Derived.Test.YtoopndgdaiblpaaDoorEqM
import Derived.Deep.RegionHeld3
namespace Go.Proofs.YtoopndgdaiblpaaDoor
open Go.ChangeShapes Go.WideShapes Go.ChangeAt Go.RowKit

set_option maxRecDepth 100000 in
/-- names: as slices.Equal. -/
theorem names_any (S : Nat → Prop) (l m : List ByteArray) (v u : Value) (gl ol gm om : Nat) (w : World) (hv : Sl S v l.length gl ol) (hu : Sl S u m.length gm om)
    (hl : ∀ i (h : i < l.length), w.cell? ⟨gl, ol + i, none⟩ = some (.string l[i])) (hm : ∀ i (h : i < m.length), w.cell? ⟨gm, om + i, none⟩ = some (.string m[i])) :
    Calls Tryd.prog 24 #[v, u] w fun e w' => e = .returned (.bool (same l m)) ∧ ∃ q, w' = w.drewN q := by
  obtain ⟨x, c, rfl, hx⟩ := hv.shape
  obtain ⟨y, d, rfl, hy⟩ := hu.shape
  obtain ⟨n, hn⟩ : ∃ n, l.length = n := ⟨_, rfl⟩
  obtain ⟨p, hp⟩ : ∃ p, m.length = p := ⟨_, rfl⟩
  have HL := Lib.hid (And.intro hn (And.intro hl hx))
  have HM := Lib.hid (And.intro hp (And.intro hm hy))
  rw [hn, hp]
  clear hn hp hl hm hx hy hv hu
  by_cases hnp : n = p
  · subst hnp
    have z : ((n : Int) != (n : Int)) = false := by simp
    go_enter Tryd.func24, Tryd.ntmps24
    go_wp2_with fail
    go_loopg [13] n (fun gk i wr => ∃ j q, gk = n - j ∧ j ≤ n ∧ i = .int .i64 j ∧ wr = w.drewN q ∧ l.take j = m.take j)
    case atStart => exact ⟨0, 0, rfl, Nat.zero_le _, rfl, rfl, rfl⟩
    case round =>
      obtain ⟨j, q, rfl, hj, rfl, rfl, htk⟩ := hrel
      have HT := Lib.hid htk
      clear htk
      by_cases hlt : j < n
      · have hi' : (j : Int) < (n : Int) := by omega
        have hjl : j < l.length := by have := HL.out.1; omega
        have hjm : j < m.length := by have := HM.out.1; omega
        obtain ⟨rfl, hc1, hc2, _⟩ := HL.out.2.2 (by have := HL.out.1; omega)
        obtain ⟨rfl, hd1, hd2, _⟩ := HM.out.2.2 (by have := HM.out.1; omega)
        rw [HL.out.1] at hc1
        rw [HM.out.1] at hd1
        unfold maxLen at hc2 hd2
        have c1 := HL.out.2.1 j hjl
        have c2 := HM.out.2.1 j hjm
        obtain ⟨a, ha⟩ : ∃ a, l[j] = a := ⟨_, rfl⟩
        obtain ⟨b, hb⟩ : ∃ b, m[j] = b := ⟨_, rfl⟩
        rw [ha] at c1
        rw [hb] at c2
        have HAB := Lib.hid (And.intro ha hb)
        clear ha hb
        by_cases hab : a = b
        · have z2 : (a.toList == b.toList) = true := (Lib.bytes_beq_iff a b).2 hab
          have z3 : (a.toList != b.toList) = false := by simp [bne, z2]
          have HE := Lib.hid hab
          clear hab
          go_wp2_with fail
          go_quiet (fail)
          go_wp2_with fail
          go_roundg (n - (j + 1))
          case measure => omega
          case rel => exact ⟨j + 1, _, rfl, hlt, by first | rfl | simp, by first | rfl | exact (World.drewN_drewN ..), take_step hjl hjm HT.out (by rw [HAB.out.1, HAB.out.2]; exact HE.out)⟩
        · have z2 : (a.toList == b.toList) = false := (Lib.bytes_beq_false_iff a b).2 hab
          have z3 : (a.toList != b.toList) = true := by simp [bne, z2]
          have hne : l ≠ m := fun h => hab (by rw [← HAB.out.1, ← HAB.out.2]; simp [h])
          have HN := Lib.hid (same_no hne)
          clear hab hne
          go_wp2_with fail
          go_quiet (fail)
          go_wp2_with fail
          go_ret
          exact ⟨by rw [HN.out]; rfl, _, (World.drewN_drewN ..)⟩
      · have hi' : ¬ (j : Int) < (n : Int) := by omega
        have hjn : j = n := by omega
        have he : l = m := by
          have h := HT.out
          rw [hjn] at h
          have h1 := HL.out.1
          have h2 := HM.out.1
          rwa [← h1, List.take_length, h1, ← h2, List.take_length] at h
        have HN := Lib.hid (same_yes he)
        clear he hjn
        go_wp2_with fail
        go_ret
        exact ⟨by rw [HN.out]; rfl, _, rfl⟩
  · have z : ((n : Int) != (p : Int)) = true := by simp; omega
    have hne : l ≠ m := fun h => hnp (by rw [← HL.out.1, ← HM.out.1, h])
    have HN := Lib.hid (same_no hne)
    clear hne hnp
    go_enter Tryd.func24, Tryd.ntmps24
    go_wp2_with fail
    go_ret
    exact ⟨by rw [HN.out]; rfl, 0, rfl⟩

/-- SameType at types as values, the first one no greater than so. -/
def RefSame (f : Nat) : Prop := ∀ (S : Nat → Prop) (k k' : Int) (s s' : ByteArray) (va vl va' vl' : Value) (op op' : Bool) (w : World) (t u : Ty), tySize t ≤ f → (∀ b, S b → b < w.heap.size) →
    TyV w S [.int .i64 k, .string s, va, vl, .bool op] t → TyV w S [.int .i64 k', .string s', va', vl', .bool op'] u →
    Calls Tryd.prog 15 #[.agg #[.int .i64 k, .string s, va, vl, .bool op], .agg #[.int .i64 k', .string s', va', vl', .bool op']] w (tyGives w t u)

set_option linter.unusedSimpArgs false in
set_option maxHeartbeats 4000000 in
set_option maxRecDepth 100000 in
/-- sameTypes, where SameType is told at types that are no greater than so. -/
theorem sameTypes_of (f : Nat) (ih : RefSame f) (S : Nat → Prop) (l m : List Ty) (v u : Value) (gl ol gm om : Nat) (w : World) (hS : ∀ b, S b → b < w.heap.size) (hsz : tySum l ≤ f) (hv : Sl S v l.length gl ol) (hu : Sl S u m.length gm om)
    (hl : ∀ i (h : i < l.length), TyAt w S gl (ol + i * 5) l[i]) (hm : ∀ i (h : i < m.length), TyAt w S gm (om + i * 5) m[i]) :
    Calls Tryd.prog 25 #[v, u] w fun e w' => e = .returned (.bool (same l m)) ∧ Below w.heap.size w w' := by
  obtain ⟨x, c, rfl, hx⟩ := hv.shape
  obtain ⟨y, d, rfl, hy⟩ := hu.shape
  obtain ⟨n, hn⟩ : ∃ n, l.length = n := ⟨_, rfl⟩
  obtain ⟨p, hp⟩ : ∃ p, m.length = p := ⟨_, rfl⟩
  have HL := Lib.hid (And.intro hn (And.intro hl hx))
  have HM := Lib.hid (And.intro hp (And.intro hm hy))
  have HS := Lib.hid (And.intro hS (And.intro hsz ih))
  rw [hn, hp]
  clear hn hp hl hm hx hy hv hu hS hsz ih
  by_cases hnp : n = p
  · subst hnp
    have z : ((n : Int) != (n : Int)) = false := by simp
    go_enter Tryd.func25, Tryd.ntmps25
    go_wp2_with fail
    go_loopg [13] n (fun gk i wr => ∃ j, gk = n - j ∧ j ≤ n ∧ i = .int .i64 j ∧ Below w.heap.size w wr ∧ l.take j = m.take j)
    case atStart => exact ⟨0, rfl, Nat.zero_le _, rfl, Below.refl _ _, rfl⟩
    case round =>
      obtain ⟨j, rfl, hj, rfl, hB, htk⟩ := hrel
      have hbs := hB.size
      have HT := Lib.hid htk
      clear htk
      by_cases hlt : j < n
      · have hi' : (j : Int) < (n : Int) := by omega
        have hjl : j < l.length := by have := HL.out.1; omega
        have hjm : j < m.length := by have := HM.out.1; omega
        obtain ⟨rfl, hc1, hc2, _⟩ := HL.out.2.2 (by have := HL.out.1; omega)
        obtain ⟨rfl, hd1, hd2, _⟩ := HM.out.2.2 (by have := HM.out.1; omega)
        rw [HL.out.1] at hc1
        rw [HM.out.1] at hd1
        unfold maxLen at hc2 hd2
        obtain ⟨k1, s1, xa1, xl1, na1, ca1, nl1, cl1, o1, sb, c0, c1, c2, c3, c4, hv1⟩ := (HL.out.2.1 j hjl).carry (keeps_of hB HS.out.1) (fun _ h => h) |>.open_
        obtain ⟨k2, s2, xa2, xl2, na2, ca2, nl2, cl2, o2, sb', d0, d1, d2, d3, d4, hv2⟩ := (HM.out.2.1 j hjm).carry (keeps_of hB HS.out.1) (fun _ h => h) |>.open_
        have hsb := HS.out.1 _ sb
        have hsb' := HS.out.1 _ sb'
        have hgl : gl < wr.heap.size := by omega
        have hgm : gm < wr.heap.size := by omega
        have CS : Hid (∀ W, Below w.heap.size wr W → Calls Tryd.prog 15 #[.agg #[.int .i64 k1, .string s1, .slice xa1 na1 ca1, .slice xl1 nl1 cl1, .bool o1], .agg #[.int .i64 k2, .string s2, .slice xa2 na2 ca2, .slice xl2 nl2 cl2, .bool o2]] W fun e w' => e = .returned (.bool (same l[j] m[j])) ∧ Below w.heap.size wr w') := Lib.hid fun W hW => by
          have hws := hW.size
          refine (HS.out.2.2 S k1 k2 s1 s2 (.slice xa1 na1 ca1) (.slice xl1 nl1 cl1) (.slice xa2 na2 ca2) (.slice xl2 nl2 cl2) o1 o2 W l[j] m[j] (Nat.le_trans (tySum_at hjl) HS.out.2.1) (fun b hb => by have := HS.out.1 b hb; omega) (hv1.carry (keeps_of hW HS.out.1) fun _ h => h) (hv2.carry (keeps_of hW HS.out.1) fun _ h => h)).mono ?_
          rintro e w' ⟨rfl, hB'⟩
          exact ⟨rfl, hW.trans (hB'.mono (by omega))⟩
        clear hv1 hv2 sb sb'
        have SO : Hid (∀ V, Below w.heap.size wr V → V.cell? ⟨gl, ol + j * 5, none⟩ = some (.int .i64 k1) ∧ V.cell? ⟨gl, ol + j * 5 + 1, none⟩ = some (.string s1) ∧ V.cell? ⟨gl, ol + j * 5 + 2, none⟩ = some (.slice xa1 na1 ca1) ∧ V.cell? ⟨gl, ol + j * 5 + 3, none⟩ = some (.slice xl1 nl1 cl1) ∧ V.cell? ⟨gl, ol + j * 5 + 4, none⟩ = some (.bool o1) ∧ V.cell? ⟨gm, om + j * 5, none⟩ = some (.int .i64 k2) ∧ V.cell? ⟨gm, om + j * 5 + 1, none⟩ = some (.string s2) ∧ V.cell? ⟨gm, om + j * 5 + 2, none⟩ = some (.slice xa2 na2 ca2) ∧ V.cell? ⟨gm, om + j * 5 + 3, none⟩ = some (.slice xl2 nl2 cl2) ∧ V.cell? ⟨gm, om + j * 5 + 4, none⟩ = some (.bool o2)) := Lib.hid fun V hV =>
          ⟨(hV.cell (p := ⟨gl, _, none⟩) hsb).trans c0, (hV.cell (p := ⟨gl, _, none⟩) hsb).trans c1, (hV.cell (p := ⟨gl, _, none⟩) hsb).trans c2, (hV.cell (p := ⟨gl, _, none⟩) hsb).trans c3, (hV.cell (p := ⟨gl, _, none⟩) hsb).trans c4, (hV.cell (p := ⟨gm, _, none⟩) hsb').trans d0, (hV.cell (p := ⟨gm, _, none⟩) hsb').trans d1, (hV.cell (p := ⟨gm, _, none⟩) hsb').trans d2, (hV.cell (p := ⟨gm, _, none⟩) hsb').trans d3, (hV.cell (p := ⟨gm, _, none⟩) hsb').trans d4⟩
        have hBB : Below w.heap.size wr wr.drew := (Below.refl _ _).drew
        clear c0 c1 c2 c3 c4 d0 d1 d2 d3 d4
        by_cases hab : l[j] = m[j]
        · rw [same_yes hab] at CS
          have HE := Lib.hid hab
          clear hab
          go_wp2_with fail
          refine wp_region_held_drew (S := fun V => V.cell? ⟨gl, ol + j * 5, none⟩ = some (.int .i64 k1) ∧ V.cell? ⟨gl, ol + j * 5 + 1, none⟩ = some (.string s1) ∧ V.cell? ⟨gl, ol + j * 5 + 2, none⟩ = some (.slice xa1 na1 ca1) ∧ V.cell? ⟨gl, ol + j * 5 + 3, none⟩ = some (.slice xl1 nl1 cl1) ∧ V.cell? ⟨gl, ol + j * 5 + 4, none⟩ = some (.bool o1) ∧ V.cell? ⟨gm, om + j * 5, none⟩ = some (.int .i64 k2) ∧ V.cell? ⟨gm, om + j * 5 + 1, none⟩ = some (.string s2) ∧ V.cell? ⟨gm, om + j * 5 + 2, none⟩ = some (.slice xa2 na2 ca2) ∧ V.cell? ⟨gm, om + j * 5 + 3, none⟩ = some (.slice xl2 nl2 cl2) ∧ V.cell? ⟨gm, om + j * 5 + 4, none⟩ = some (.bool o2)) (by kernel_rfl) (SO.out _ hBB) (fun hHeld => ?_)
          refine wpAnyH_take (i := 0) (v := ?_) rfl (by kernel_rfl) (by kernel_rfl) (by kernel_rfl) (fun _ _ _ h => h) (Or.inl ⟨by rfl, ?_⟩) (by assumption) ?_
          rotate_left
          · intro w hSw
            (try dsimp only at hSw)
            go_simp
            try with_reducible rfl
          try simp only [List.getElem_toArray, List.getElem_cons_zero, List.getElem_cons_succ, Act.put, List.setIfInBounds_toArray, List.set_cons_zero, List.set_cons_succ]
          refine wpAnyH_take (i := 1) (v := ?_) rfl (by kernel_rfl) (by kernel_rfl) (by kernel_rfl) (fun _ _ _ h => h) (Or.inl ⟨by rfl, ?_⟩) (by assumption) ?_
          rotate_left
          · intro w hSw
            (try dsimp only at hSw)
            go_simp
            try with_reducible rfl
          try simp only [List.getElem_toArray, List.getElem_cons_zero, List.getElem_cons_succ, Act.put, List.setIfInBounds_toArray, List.set_cons_zero, List.set_cons_succ]
          refine wpAnyH_take (i := 2) (v := ?_) rfl (by kernel_rfl) (by kernel_rfl) (by kernel_rfl) (fun _ _ _ h => h) (Or.inl ⟨by rfl, ?_⟩) (by assumption) ?_
          rotate_left
          · intro w hSw
            (try dsimp only at hSw)
            go_simp
            try with_reducible rfl
          try simp only [List.getElem_toArray, List.getElem_cons_zero, List.getElem_cons_succ, Act.put, List.setIfInBounds_toArray, List.set_cons_zero, List.set_cons_succ]
          refine wpAnyH_take (i := 3) (v := ?_) rfl (by kernel_rfl) (by kernel_rfl) (by kernel_rfl) (fun _ _ _ h => h) (Or.inl ⟨by rfl, ?_⟩) (by assumption) ?_
          rotate_left
          · intro w hSw
            (try dsimp only at hSw)
            go_simp
            try with_reducible rfl
          try simp only [List.getElem_toArray, List.getElem_cons_zero, List.getElem_cons_succ, Act.put, List.setIfInBounds_toArray, List.set_cons_zero, List.set_cons_succ]
          refine wpAnyH_take (i := 4) (v := ?_) rfl (by kernel_rfl) (by kernel_rfl) (by kernel_rfl) (fun _ _ _ h => h) (Or.inl ⟨by rfl, ?_⟩) (by assumption) ?_
          rotate_left
          · intro w hSw
            (try dsimp only at hSw)
            go_simp
            try with_reducible rfl
          try simp only [List.getElem_toArray, List.getElem_cons_zero, List.getElem_cons_succ, Act.put, List.setIfInBounds_toArray, List.set_cons_zero, List.set_cons_succ]
          refine wpAnyH_take (i := 5) (v := ?_) rfl (by kernel_rfl) (by kernel_rfl) (by kernel_rfl) (fun _ _ _ h => h) (Or.inl ⟨by rfl, ?_⟩) (by assumption) ?_
          rotate_left
          · intro w hSw
            (try dsimp only at hSw)
            go_simp
            try with_reducible rfl
          try simp only [List.getElem_toArray, List.getElem_cons_zero, List.getElem_cons_succ, Act.put, List.setIfInBounds_toArray, List.set_cons_zero, List.set_cons_succ]
          refine wpAnyH_take (i := 6) (v := ?_) rfl (by kernel_rfl) (by kernel_rfl) (by kernel_rfl) (fun _ _ _ h => h) (Or.inl ⟨by rfl, ?_⟩) (by assumption) ?_
          rotate_left
          · intro w hSw
            (try dsimp only at hSw)
            go_simp
            try with_reducible rfl
          try simp only [List.getElem_toArray, List.getElem_cons_zero, List.getElem_cons_succ, Act.put, List.setIfInBounds_toArray, List.set_cons_zero, List.set_cons_succ]
          refine wpAnyH_take (i := 7) (v := ?_) rfl (by kernel_rfl) (by kernel_rfl) (by kernel_rfl) (fun _ _ _ h => h) (Or.inl ⟨by rfl, ?_⟩) (by assumption) ?_
          rotate_left
          · intro w hSw
            (try dsimp only at hSw)
            go_simp
            try with_reducible rfl
          try simp only [List.getElem_toArray, List.getElem_cons_zero, List.getElem_cons_succ, Act.put, List.setIfInBounds_toArray, List.set_cons_zero, List.set_cons_succ]
          refine wpAnyH_ready (rs := [8]) (by kernel_rfl) (by simp) ?_
          refine AllReadyH.cons (by simp only [List.getElem?_toArray, List.getElem?_cons_zero, List.getElem?_cons_succ]; rfl) (fun K hK => ?_) AllReadyH.nil
          go_simp
          (go_at_call 15; with_reducible refine (CS.out _ hBB).mono ?_; rintro e9 w9 ⟨rfl, hBB⟩)
          go_wp2_with fail
          refine hK.out _ _ (by first | assumption | exact SO.out _ (by first | exact hBB | exact dN_below hBB _)) (fun hHeld => ?_)
          try simp only [List.getElem_toArray, List.getElem_cons_zero, List.getElem_cons_succ, Act.put, List.setIfInBounds_toArray, List.set_cons_zero, List.set_cons_succ]
          refine wpAnyH_take (i := 9) (v := ?_) rfl (by kernel_rfl) (by kernel_rfl) (by kernel_rfl) (fun _ _ _ h => h) (Or.inl ⟨by rfl, ?_⟩) (by assumption) ?_
          rotate_left
          · intro w hSw
            (try dsimp only at hSw)
            go_simp
            try with_reducible rfl
          try simp only [List.getElem_toArray, List.getElem_cons_zero, List.getElem_cons_succ, Act.put, List.setIfInBounds_toArray, List.set_cons_zero, List.set_cons_succ]
          refine wpAnyH_done (by kernel_rfl) ?_ _
          go_wp2_with fail
          go_roundg (n - (j + 1))
          case measure => omega
          case rel => exact ⟨j + 1, rfl, hlt, by first | rfl | simp, hB.trans hBB, take_step hjl hjm HT.out HE.out⟩
        · rw [same_no hab] at CS
          have hne : l ≠ m := fun h => hab (by simp [h])
          have HN := Lib.hid (same_no hne)
          clear hab hne
          go_wp2_with fail
          refine wp_region_held_drew (S := fun V => V.cell? ⟨gl, ol + j * 5, none⟩ = some (.int .i64 k1) ∧ V.cell? ⟨gl, ol + j * 5 + 1, none⟩ = some (.string s1) ∧ V.cell? ⟨gl, ol + j * 5 + 2, none⟩ = some (.slice xa1 na1 ca1) ∧ V.cell? ⟨gl, ol + j * 5 + 3, none⟩ = some (.slice xl1 nl1 cl1) ∧ V.cell? ⟨gl, ol + j * 5 + 4, none⟩ = some (.bool o1) ∧ V.cell? ⟨gm, om + j * 5, none⟩ = some (.int .i64 k2) ∧ V.cell? ⟨gm, om + j * 5 + 1, none⟩ = some (.string s2) ∧ V.cell? ⟨gm, om + j * 5 + 2, none⟩ = some (.slice xa2 na2 ca2) ∧ V.cell? ⟨gm, om + j * 5 + 3, none⟩ = some (.slice xl2 nl2 cl2) ∧ V.cell? ⟨gm, om + j * 5 + 4, none⟩ = some (.bool o2)) (by kernel_rfl) (SO.out _ hBB) (fun hHeld => ?_)
          refine wpAnyH_take (i := 0) (v := ?_) rfl (by kernel_rfl) (by kernel_rfl) (by kernel_rfl) (fun _ _ _ h => h) (Or.inl ⟨by rfl, ?_⟩) (by assumption) ?_
          rotate_left
          · intro w hSw
            (try dsimp only at hSw)
            go_simp
            try with_reducible rfl
          try simp only [List.getElem_toArray, List.getElem_cons_zero, List.getElem_cons_succ, Act.put, List.setIfInBounds_toArray, List.set_cons_zero, List.set_cons_succ]
          refine wpAnyH_take (i := 1) (v := ?_) rfl (by kernel_rfl) (by kernel_rfl) (by kernel_rfl) (fun _ _ _ h => h) (Or.inl ⟨by rfl, ?_⟩) (by assumption) ?_
          rotate_left
          · intro w hSw
            (try dsimp only at hSw)
            go_simp
            try with_reducible rfl
          try simp only [List.getElem_toArray, List.getElem_cons_zero, List.getElem_cons_succ, Act.put, List.setIfInBounds_toArray, List.set_cons_zero, List.set_cons_succ]
          refine wpAnyH_take (i := 2) (v := ?_) rfl (by kernel_rfl) (by kernel_rfl) (by kernel_rfl) (fun _ _ _ h => h) (Or.inl ⟨by rfl, ?_⟩) (by assumption) ?_
          rotate_left
          · intro w hSw
            (try dsimp only at hSw)
            go_simp
            try with_reducible rfl
          try simp only [List.getElem_toArray, List.getElem_cons_zero, List.getElem_cons_succ, Act.put, List.setIfInBounds_toArray, List.set_cons_zero, List.set_cons_succ]
          refine wpAnyH_take (i := 3) (v := ?_) rfl (by kernel_rfl) (by kernel_rfl) (by kernel_rfl) (fun _ _ _ h => h) (Or.inl ⟨by rfl, ?_⟩) (by assumption) ?_
          rotate_left
          · intro w hSw
            (try dsimp only at hSw)
            go_simp
            try with_reducible rfl
          try simp only [List.getElem_toArray, List.getElem_cons_zero, List.getElem_cons_succ, Act.put, List.setIfInBounds_toArray, List.set_cons_zero, List.set_cons_succ]
          refine wpAnyH_take (i := 4) (v := ?_) rfl (by kernel_rfl) (by kernel_rfl) (by kernel_rfl) (fun _ _ _ h => h) (Or.inl ⟨by rfl, ?_⟩) (by assumption) ?_
          rotate_left
          · intro w hSw
            (try dsimp only at hSw)
            go_simp
            try with_reducible rfl
          try simp only [List.getElem_toArray, List.getElem_cons_zero, List.getElem_cons_succ, Act.put, List.setIfInBounds_toArray, List.set_cons_zero, List.set_cons_succ]
          refine wpAnyH_take (i := 5) (v := ?_) rfl (by kernel_rfl) (by kernel_rfl) (by kernel_rfl) (fun _ _ _ h => h) (Or.inl ⟨by rfl, ?_⟩) (by assumption) ?_
          rotate_left
          · intro w hSw
            (try dsimp only at hSw)
            go_simp
            try with_reducible rfl
          try simp only [List.getElem_toArray, List.getElem_cons_zero, List.getElem_cons_succ, Act.put, List.setIfInBounds_toArray, List.set_cons_zero, List.set_cons_succ]
          refine wpAnyH_take (i := 6) (v := ?_) rfl (by kernel_rfl) (by kernel_rfl) (by kernel_rfl) (fun _ _ _ h => h) (Or.inl ⟨by rfl, ?_⟩) (by assumption) ?_
          rotate_left
          · intro w hSw
            (try dsimp only at hSw)
            go_simp
            try with_reducible rfl
          try simp only [List.getElem_toArray, List.getElem_cons_zero, List.getElem_cons_succ, Act.put, List.setIfInBounds_toArray, List.set_cons_zero, List.set_cons_succ]
          refine wpAnyH_take (i := 7) (v := ?_) rfl (by kernel_rfl) (by kernel_rfl) (by kernel_rfl) (fun _ _ _ h => h) (Or.inl ⟨by rfl, ?_⟩) (by assumption) ?_
          rotate_left
          · intro w hSw
            (try dsimp only at hSw)
            go_simp
            try with_reducible rfl
          try simp only [List.getElem_toArray, List.getElem_cons_zero, List.getElem_cons_succ, Act.put, List.setIfInBounds_toArray, List.set_cons_zero, List.set_cons_succ]
          refine wpAnyH_ready (rs := [8]) (by kernel_rfl) (by simp) ?_
          refine AllReadyH.cons (by simp only [List.getElem?_toArray, List.getElem?_cons_zero, List.getElem?_cons_succ]; rfl) (fun K hK => ?_) AllReadyH.nil
          go_simp
          (go_at_call 15; with_reducible refine (CS.out _ hBB).mono ?_; rintro e9 w9 ⟨rfl, hBB⟩)
          go_wp2_with fail
          refine hK.out _ _ (by first | assumption | exact SO.out _ (by first | exact hBB | exact dN_below hBB _)) (fun hHeld => ?_)
          try simp only [List.getElem_toArray, List.getElem_cons_zero, List.getElem_cons_succ, Act.put, List.setIfInBounds_toArray, List.set_cons_zero, List.set_cons_succ]
          refine wpAnyH_take (i := 9) (v := ?_) rfl (by kernel_rfl) (by kernel_rfl) (by kernel_rfl) (fun _ _ _ h => h) (Or.inl ⟨by rfl, ?_⟩) (by assumption) ?_
          rotate_left
          · intro w hSw
            (try dsimp only at hSw)
            go_simp
            try with_reducible rfl
          try simp only [List.getElem_toArray, List.getElem_cons_zero, List.getElem_cons_succ, Act.put, List.setIfInBounds_toArray, List.set_cons_zero, List.set_cons_succ]
          refine wpAnyH_done (by kernel_rfl) ?_ _
          go_wp2_with fail
          go_ret
          exact ⟨by rw [HN.out]; rfl, hB.trans hBB⟩
      · have hi' : ¬ (j : Int) < (n : Int) := by omega
        have hjn : j = n := by omega
        have he : l = m := by
          have h := HT.out
          rw [hjn] at h
          have h1 := HL.out.1
          have h2 := HM.out.1
          rwa [← h1, List.take_length, h1, ← h2, List.take_length] at h
        have HN := Lib.hid (same_yes he)
        clear he hjn
        go_wp2_with fail
        go_ret
        exact ⟨by rw [HN.out]; rfl, hB⟩
  · have z : ((n : Int) != (p : Int)) = true := by simp; omega
    have hne : l ≠ m := fun h => hnp (by rw [← HL.out.1, ← HM.out.1, h])
    have HN := Lib.hid (same_no hne)
    clear hne hnp
    go_enter Tryd.func25, Tryd.ntmps25
    go_wp2_with fail
    go_ret
    exact ⟨by rw [HN.out]; rfl, Below.refl _ _⟩

set_option maxHeartbeats 4000000 in
set_option maxRecDepth 100000 in
/-- SameType, at any types. -/
theorem refSame : ∀ f, RefSame f
  | 0 => fun _ _ _ _ _ _ _ _ _ _ _ _ t _ h => by have := tySize_pos t; omega
  | f + 1 => fun S k k' s s' va vl va' vl' op op' w t u hsz hS ht hu => by
    have ih := refSame f
    obtain ⟨_, _, _, _, _, ags, lbs, ga, oa, gl, ol, e1, rfl, ha, hl, hs, hls⟩ := ht
    obtain ⟨_, _, _, _, _, ags', lbs', ga', oa', gl', ol', e2, rfl, ha', hl', hs', hls'⟩ := hu
    simp only [List.cons.injEq, Value.int.injEq, Value.string.injEq, Value.bool.injEq, true_and, and_true] at e1 e2
    obtain ⟨rfl, rfl, rfl, rfl, rfl⟩ := e1
    obtain ⟨rfl, rfl, rfl, rfl, rfl⟩ := e2
    rw [tySize_mk] at hsz
    have CN : Hid (∀ V, Below w.heap.size w V → Calls Tryd.prog 24 #[vl, vl'] V fun e w' => e = .returned (.bool (same lbs lbs')) ∧ ∃ q, w' = V.drewN q) := Lib.hid fun V hV =>
      names_any S lbs lbs' vl vl' gl ol gl' ol' V hl hl' (fun i h => (hV.cell (p := ⟨gl, ol + i, none⟩) (hS _ (hl.lt (by omega)))).trans (hls i h)) (fun i h => (hV.cell (p := ⟨gl', ol' + i, none⟩) (hS _ (hl'.lt (by omega)))).trans (hls' i h))
    have CT : Hid (∀ V, Below w.heap.size w V → Calls Tryd.prog 25 #[va, va'] V fun e w' => e = .returned (.bool (same ags ags')) ∧ Below w.heap.size w w') := Lib.hid fun V hV => by
      have hv := hV.size
      refine (sameTypes_of f ih S ags ags' va va' ga oa ga' oa' V (fun b hb => by have := hS b hb; omega) (by omega) ha ha' (fun i hi => (hs i hi).carry (keeps_of hV hS) fun _ h => h) (fun i hi => (hs' i hi).carry (keeps_of hV hS) fun _ h => h)).mono ?_
      rintro e w' ⟨rfl, hB⟩
      exact ⟨rfl, hV.trans (hB.mono hv)⟩
    obtain ⟨x3, c3, rfl, _⟩ := ha.shape
    obtain ⟨y3, d3, rfl, _⟩ := ha'.shape
    obtain ⟨x4, c4, rfl, _⟩ := hl.shape
    obtain ⟨y4, d4, rfl, _⟩ := hl'.shape
    obtain ⟨na, hna⟩ : ∃ n, ags.length = n := ⟨_, rfl⟩
    obtain ⟨na', hna'⟩ : ∃ n, ags'.length = n := ⟨_, rfl⟩
    obtain ⟨nl, hnl⟩ : ∃ n, lbs.length = n := ⟨_, rfl⟩
    obtain ⟨nl', hnl'⟩ : ∃ n, lbs'.length = n := ⟨_, rfl⟩
    rw [hna, hna'] at CT ⊢
    rw [hnl, hnl'] at CN ⊢
    have KK : Hid (same (Ty.mk k s ags lbs op) (Ty.mk k' s' ags' lbs' op') = same (k, s, op, lbs, ags) (k', s', op', lbs', ags')) := Lib.hid (same_congr (by
      simp only [Ty.mk.injEq, Prod.mk.injEq]
      constructor
      · rintro ⟨a, b, c, d, e⟩; exact ⟨a, b, e, d, c⟩
      · rintro ⟨a, b, c, d, e⟩; exact ⟨a, b, e, d, c⟩))
    clear ha hl hs hls ha' hl' hs' hls' ih hS hsz hna hna' hnl hnl'
    have hB0 : Hid (Below w.heap.size w ((w.alloc (.cells #[.int .i64 k, .string s, .slice x3 na c3, .slice x4 nl c4, .bool op] 37)).alloc (.cells #[.int .i64 k', .string s', .slice y3 na' d3, .slice y4 nl' d4, .bool op'] 37))) := Lib.hid (((Below.refl _ _).alloc (Nat.le_refl _) _).alloc (by simp) _)
    by_cases e1 : k = k'
    rotate_left
    · have z1 : (k == k') = false := by simpa using e1
      have KN := Lib.hid (KK.out.trans (same_no (fun h => e1 (congrArg (·.1) h))))
      clear e1 KK CN CT
      go_enter Tryd.func15, Tryd.ntmps15
      go_wp2_with fail
      go_ret
      exact ⟨by rw [KN.out]; rfl, hB0.out⟩
    by_cases e2 : s = s'
    rotate_left
    · have z1 : (k == k') = true := by simpa using e1
      have z2 : (s.toList == s'.toList) = false := (Lib.bytes_beq_false_iff s s').2 e2
      have KN := Lib.hid (KK.out.trans (same_no (fun h => e2 (congrArg (·.2.1) h))))
      clear e1 e2 KK CN CT
      go_enter Tryd.func15, Tryd.ntmps15
      go_wp2_with fail
      go_ret
      exact ⟨by rw [KN.out]; rfl, hB0.out⟩
    by_cases e3 : op = op'
    rotate_left
    · have z1 : (k == k') = true := by simpa using e1
      have z2 : (s.toList == s'.toList) = true := (Lib.bytes_beq_iff s s').2 e2
      have z3 : (op == op') = false := by simpa using e3
      have KN := Lib.hid (KK.out.trans (same_no (fun h => e3 (congrArg (·.2.2.1) h))))
      clear e1 e2 e3 KK CN CT
      go_enter Tryd.func15, Tryd.ntmps15
      go_wp2_with fail
      go_ret
      exact ⟨by rw [KN.out]; rfl, hB0.out⟩
    by_cases e4 : lbs = lbs'
    rotate_left
    · have z1 : (k == k') = true := by simpa using e1
      have z2 : (s.toList == s'.toList) = true := (Lib.bytes_beq_iff s s').2 e2
      have z3 : (op == op') = true := by simpa using e3
      rw [same_no e4] at CN
      have KN := Lib.hid (KK.out.trans (same_no (fun h => e4 (congrArg (·.2.2.2.1) h))))
      clear e1 e2 e3 e4 KK CT
      go_enter Tryd.func15, Tryd.ntmps15
      go_wp2_with (go_at_call 24; with_reducible refine (CN.out _ hB0.out).mono ?_; rintro e9 w9 ⟨rfl, q9, rfl⟩)
      go_ret
      exact ⟨by rw [KN.out]; rfl, dN_below hB0.out _⟩
    have z1 : (k == k') = true := by simpa using e1
    have z2 : (s.toList == s'.toList) = true := (Lib.bytes_beq_iff s s').2 e2
    have z3 : (op == op') = true := by simpa using e3
    rw [same_yes e4] at CN
    have KE := Lib.hid (KK.out.trans (same_congr (c := ags) (d := ags') (by rw [e1, e2, e3, e4]; simp)))
    clear e1 e2 e3 e4 KK
    go_enter Tryd.func15, Tryd.ntmps15
    go_wp2_with (first | (go_at_call 24; with_reducible refine (CN.out _ hB0.out).mono ?_; rintro e9 w9 ⟨rfl, q9, rfl⟩) | (go_at_call 25; with_reducible refine (CT.out _ (dN_below hB0.out _)).mono ?_; rintro e8 w8 ⟨rfl, hB8⟩))
    go_ret
    exact ⟨by rw [KE.out]; rfl, hB8⟩
end Go.Proofs.YtoopndgdaiblpaaDoor
