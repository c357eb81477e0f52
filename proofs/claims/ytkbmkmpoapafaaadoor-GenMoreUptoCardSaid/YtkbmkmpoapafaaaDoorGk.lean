/- graph.Check: whether a graph may be. -/
import Derived.Test.YtkbmkmpoapafaaaDoorGf
namespace Go.Proofs.YtkbmkmpoapafaaaDoor
open Go.ChangeShapes Go.WideShapes Go.ChangeAt Go.RowKit

/-- No label is longer than a text may be. -/
def Sized (l : List GN) : Prop := ∀ x ∈ l, ∀ s ∈ x.labels, s.size ≤ maxLen
noncomputable def checkG (l : List GN) (root : Int) : Int :=
  if 1048576 < l.length then 3 else if insideB root l.length = true then (if l.all (fun x => fitG x l.length) = true then 0 else 2) else 2
theorem checkG_long {l : List GN} {root : Int} (h : 1048576 < l.length) : checkG l root = 3 := by unfold checkG; rw [if_pos h]
theorem checkG_out {l : List GN} {root : Int} (h : ¬ 1048576 < l.length) (h2 : insideB root l.length = false) : checkG l root = 2 := by unfold checkG; rw [if_neg h, if_neg (by rw [h2]; decide)]
theorem checkG_bad {l : List GN} {root : Int} (h : ¬ 1048576 < l.length) {j : Nat} (hj : j < l.length) (hb : fitG l[j] l.length = false) : checkG l root = 2 := by
  unfold checkG
  rw [if_neg h]
  split
  · rw [if_neg]
    rw [List.all_eq_true]
    exact fun h => by have := h l[j] (List.getElem_mem hj); rw [hb] at this; cases this
  · rfl
theorem checkG_ok {l : List GN} {root : Int} : checkG l root = 0 ↔ l.length ≤ 1048576 ∧ insideB root l.length = true ∧ ∀ x ∈ l, fitG x l.length = true := by
  unfold checkG
  constructor
  · intro h
    split at h
    · exact absurd h (by decide)
    · split at h
      · split at h
        · rename_i h1 h2 h3
          exact ⟨by omega, h2, fun x hx => List.all_eq_true.1 h3 x hx⟩
        · exact absurd h (by decide)
      · exact absurd h (by decide)
  · rintro ⟨h1, h2, h3⟩
    rw [if_neg (by omega), if_pos h2, if_pos (List.all_eq_true.2 h3)]
theorem checkG_ways (l : List GN) (root : Int) : checkG l root = 0 ∨ checkG l root = 2 ∨ checkG l root = 3 := by
  unfold checkG
  split
  · exact .inr (.inr rfl)
  · split
    · split
      · exact .inl rfl
      · exact .inr (.inl rfl)
    · exact .inr (.inl rfl)

set_option linter.unusedSimpArgs false in
set_option maxHeartbeats 4000000 in
set_option maxRecDepth 100000 in
theorem check_any (S : Nat → Prop) (v : Value) (root : Int) (l : List GN) (w : World) (T : TypeId) (ev : Value) (hg : w.cell? ⟨0, 0, none⟩ = some (.iface T ev)) (hgl : 0 < w.heap.size) (h : GrAt w S v l) (hS : ∀ b, S b → b < w.heap.size) (hs : Sized l) :
    Calls Tryd.prog 9 #[.agg #[v, .int .i64 root]] w fun e w' => e = .returned (.int .i64 (checkG l root)) ∧ Below w.heap.size w w' := by
  obtain ⟨x, c, g, o, rfl, hx, hns⟩ := h.open_
  obtain ⟨n, hn⟩ : ∃ n, l.length = n := ⟨_, rfl⟩
  have H := Lib.hid (And.intro hn (And.intro hx hns))
  have HS := Lib.hid (And.intro hS hs)
  have HG := Lib.hid hg
  rw [hn]
  have hln : n ≤ 9223372036854775807 := by have := h.len; unfold maxLen at this; omega
  clear h hn hx hns hS hs hg
  by_cases hlong : 1048576 < n
  · have HK := Lib.hid (checkG_long (l := l) (root := root) (by have := H.out.1; omega))
    have hl1 : (1048576 : Int) < (n : Int) := by omega
    go_enter Tryd.func9, Tryd.ntmps9
    go_wp2_with fail
    go_ret
    exact ⟨by rw [HK.out]; rfl, (Below.refl _ _).alloc (Nat.le_refl _) _⟩
  have hl1 : ¬ (1048576 : Int) < (n : Int) := by omega
  obtain ⟨r0, hr0⟩ : ∃ r, insideB root n = r := ⟨_, rfl⟩
  have HR0 := Lib.hid hr0
  clear hr0
  cases r0 with
  | false =>
    have HK := Lib.hid (checkG_out (l := l) (root := root) (by have := H.out.1; omega) (by rw [H.out.1]; exact HR0.out))
    go_enter Tryd.func9, Tryd.ntmps9
    go_wp2_with (go_at_call 21; refine (inside_any root n _).mono ?_; rw [HR0.out]; rintro e9 w9 ⟨rfl, rfl⟩)
    go_ret
    exact ⟨by rw [HK.out]; rfl, (Below.refl _ _).alloc (Nat.le_refl _) _⟩
  | true =>
    go_enter Tryd.func9, Tryd.ntmps9
    go_wp2_with (go_at_call 21; refine (inside_any root n _).mono ?_; rw [HR0.out]; rintro e9 w9 ⟨rfl, rfl⟩)
    obtain ⟨w0, hw0⟩ : ∃ w0, w.alloc (.cells #[.slice x n c, .int .i64 root] 24) = w0 := ⟨_, rfl⟩
    rw [hw0]
    have s0 : w0.heap.size = w.heap.size + 1 := by rw [← hw0]; simp
    have B0 : Below w.heap.size w w0 := by rw [← hw0]; exact (Below.refl _ _).alloc (Nat.le_refl _) _
    have X0 : w0.heap[w.heap.size]? = some (.cells #[.slice x n c, .int .i64 root] 24) := by rw [← hw0]; exact heap_last rfl
    have G0 := Lib.hid (And.intro B0 X0)
    clear hw0 B0 X0
    go_loopg [18] n (fun gk i wr => ∃ j, gk = n - j ∧ j ≤ n ∧ i = .int .i64 j ∧ Below w0.heap.size w0 wr ∧ ∀ i (h : i < l.length), i < j → fitG l[i] n = true)
    case atStart => exact ⟨0, rfl, Nat.zero_le _, rfl, Below.refl _ _, fun _ _ h => absurd h (Nat.not_lt_zero _)⟩
    case round =>
      obtain ⟨j, rfl, hj, rfl, hBr, hin⟩ := hrel
      have sr := hBr.size
      have FR := Lib.hid hBr
      have HIN := Lib.hid hin
      clear hBr hin
      by_cases hlt : j < n
      · have hi' : (j : Int) < (n : Int) := by omega
        have hjl : j < l.length := by have := H.out.1; omega
        obtain ⟨rfl, h1, h2, h3⟩ := H.out.2.1 (by omega)
        rw [H.out.1] at h1
        unfold maxLen at h2
        obtain ⟨xj, hxj⟩ : ∃ x, l[j] = x := ⟨_, rfl⟩
        obtain ⟨r, hr⟩ : ∃ r, fitG xj n = r := ⟨_, rfl⟩
        have HX := Lib.hid (And.intro hxj hr)
        have SO : Hid (∀ V, Below wr.heap.size wr V → V.cell? ⟨w.heap.size, 0, none⟩ = some (.slice (some ⟨g, o, none⟩) n c) ∧ V.cell? ⟨w.heap.size, 1, none⟩ = some (.int .i64 root)) := Lib.hid fun V hV => by
          have hb := (hV.block w.heap.size (by omega)).trans ((FR.out.block w.heap.size (by omega)).trans G0.out.2)
          exact ⟨by rw [Lib.cell_of_heap hb]; rfl, by rw [Lib.cell_of_heap hb]; rfl⟩
        have CF : Hid (∀ V, Below wr.heap.size wr V → Calls Tryd.prog 22 #[.pointer (some ⟨g, o + j * 5, none⟩), .int .i64 n] V fun e w' => e = .returned (.bool r) ∧ Below wr.heap.size wr w') := Lib.hid fun V hV => by
          have hBV : Below w.heap.size w V := G0.out.1.trans ((FR.out.trans (hV.mono (by omega))).mono (by omega))
          obtain ⟨va, vl, hnd⟩ := H.out.2.2 j hjl
          rw [hxj] at hnd
          refine (fits_any S g (o + j * 5) va vl xj n V T ev ((hBV.cell (p := ⟨_, 0, none⟩) hgl).trans HG.out) (by have := hBV.size; omega) (hnd.carry (fun b hb => hBV.block b (HS.out.1 b hb)) (fun _ h => h)) (fun b hb => by have := HS.out.1 b hb; have := hBV.size; omega) (fun s hs => HS.out.2 xj (by rw [← hxj]; exact List.getElem_mem hjl) s hs)).mono ?_
          rintro e w' ⟨rfl, hB⟩
          exact ⟨by rw [hr], hV.trans (hB.mono hV.size)⟩
        clear hxj hr
        have hbw : w.heap.size < wr.heap.size := by omega
        have hBB : Below wr.heap.size wr wr.drew := (Below.refl _ _).drew
        cases r with
        | true =>
          go_wp2_with fail
          refine wp_region_held_drew (S := fun V => V.cell? ⟨w.heap.size, 0, none⟩ = some (.slice (some ⟨g, o, none⟩) n c) ∧ V.cell? ⟨w.heap.size, 1, none⟩ = some (.int .i64 root)) (by kernel_rfl) (SO.out _ hBB) (fun hHeld => ?_)
          refine wpAnyH_take (i := 0) (v := ?_) rfl (by kernel_rfl) (by kernel_rfl) (by kernel_rfl) (fun _ _ _ h => h) (Or.inl ⟨by rfl, ?_⟩) (by assumption) ?_
          rotate_left
          · intro w hSw
            (try dsimp only at hSw)
            go_simp
            try with_reducible rfl
          try simp only [List.getElem_toArray, List.getElem_cons_zero, List.getElem_cons_succ, Act.put, List.setIfInBounds_toArray, List.set_cons_zero, List.set_cons_succ]
          refine wpAnyH_take (i := 1) (v := ?_) rfl (by kernel_rfl) (by kernel_rfl) (by kernel_rfl) (fun _ _ _ h => h) (Or.inl ⟨by rfl, ?_⟩) (by assumption) ?_
          rotate_left
          · intro w hSw
            (try dsimp only at hSw)
            go_simp
            try with_reducible rfl
          try simp only [List.getElem_toArray, List.getElem_cons_zero, List.getElem_cons_succ, Act.put, List.setIfInBounds_toArray, List.set_cons_zero, List.set_cons_succ]
          refine wpAnyH_take (i := 2) (v := ?_) rfl (by kernel_rfl) (by kernel_rfl) (by kernel_rfl) (fun _ _ _ h => h) (Or.inl ⟨by rfl, ?_⟩) (by assumption) ?_
          rotate_left
          · intro w hSw
            (try dsimp only at hSw)
            go_simp
            try with_reducible rfl
          try simp only [List.getElem_toArray, List.getElem_cons_zero, List.getElem_cons_succ, Act.put, List.setIfInBounds_toArray, List.set_cons_zero, List.set_cons_succ]
          refine wpAnyH_take (i := 3) (v := ?_) rfl (by kernel_rfl) (by kernel_rfl) (by kernel_rfl) (fun _ _ _ h => h) (Or.inl ⟨by rfl, ?_⟩) (by assumption) ?_
          rotate_left
          · intro w hSw
            (try dsimp only at hSw)
            go_simp
            try with_reducible rfl
          try simp only [List.getElem_toArray, List.getElem_cons_zero, List.getElem_cons_succ, Act.put, List.setIfInBounds_toArray, List.set_cons_zero, List.set_cons_succ]
          refine wpAnyH_take (i := 4) (v := ?_) rfl (by kernel_rfl) (by kernel_rfl) (by kernel_rfl) (fun _ _ _ h => h) (Or.inl ⟨by rfl, ?_⟩) (by assumption) ?_
          rotate_left
          · intro w hSw
            (try dsimp only at hSw)
            go_simp
            try with_reducible rfl
          try simp only [List.getElem_toArray, List.getElem_cons_zero, List.getElem_cons_succ, Act.put, List.setIfInBounds_toArray, List.set_cons_zero, List.set_cons_succ]
          refine wpAnyH_take (i := 5) (v := ?_) rfl (by kernel_rfl) (by kernel_rfl) (by kernel_rfl) (fun _ _ _ h => h) (Or.inl ⟨by rfl, ?_⟩) (by assumption) ?_
          rotate_left
          · intro w hSw
            (try dsimp only at hSw)
            go_simp
            try with_reducible rfl
          try simp only [List.getElem_toArray, List.getElem_cons_zero, List.getElem_cons_succ, Act.put, List.setIfInBounds_toArray, List.set_cons_zero, List.set_cons_succ]
          refine wpAnyH_take (i := 6) (v := ?_) rfl (by kernel_rfl) (by kernel_rfl) (by kernel_rfl) (fun _ _ _ h => h) (Or.inl ⟨by rfl, ?_⟩) (by assumption) ?_
          rotate_left
          · intro w hSw
            (try dsimp only at hSw)
            go_simp
            try with_reducible rfl
          try simp only [List.getElem_toArray, List.getElem_cons_zero, List.getElem_cons_succ, Act.put, List.setIfInBounds_toArray, List.set_cons_zero, List.set_cons_succ]
          refine wpAnyH_ready (rs := [7]) (by kernel_rfl) (by simp) ?_
          refine AllReadyH.cons (by simp only [List.getElem?_toArray, List.getElem?_cons_zero, List.getElem?_cons_succ]; rfl) (fun K hK => ?_) AllReadyH.nil
          go_simp
          (go_at_call 22; with_reducible refine (CF.out _ hBB).mono ?_; rintro e9 w9 ⟨rfl, hBB⟩)
          go_wp2_with fail
          refine hK.out _ _ (by first | assumption | exact SO.out _ (by first | exact hBB | exact dN_below hBB _ | exact hBB.drew)) (fun hHeld => ?_)
          try simp only [List.getElem_toArray, List.getElem_cons_zero, List.getElem_cons_succ, Act.put, List.setIfInBounds_toArray, List.set_cons_zero, List.set_cons_succ]
          refine wpAnyH_take (i := 8) (v := ?_) rfl (by kernel_rfl) (by kernel_rfl) (by kernel_rfl) (fun _ _ _ h => h) (Or.inl ⟨by rfl, ?_⟩) (by assumption) ?_
          rotate_left
          · intro w hSw
            (try dsimp only at hSw)
            go_simp
            try with_reducible rfl
          try simp only [List.getElem_toArray, List.getElem_cons_zero, List.getElem_cons_succ, Act.put, List.setIfInBounds_toArray, List.set_cons_zero, List.set_cons_succ]
          refine wpAnyH_done (by kernel_rfl) ?_ _
          go_wp2_with fail
          go_roundg (n - (j + 1))
          case measure => omega
          case rel => exact ⟨j + 1, rfl, hlt, by first | rfl | simp, FR.out.trans ((show Below wr.heap.size wr _ by first | exact hBB | exact dN_below hBB _).mono (by omega)), fun i hi h => by
            rcases Nat.lt_or_ge i j with h1 | h1
            · exact HIN.out i hi h1
            · obtain rfl : i = j := by omega
              rw [HX.out.1]; exact HX.out.2⟩
        | false =>
          have HK := Lib.hid (checkG_bad (l := l) (root := root) (by have := H.out.1; omega) hjl (by rw [HX.out.1, H.out.1]; exact HX.out.2))
          go_wp2_with fail
          refine wp_region_held_drew (S := fun V => V.cell? ⟨w.heap.size, 0, none⟩ = some (.slice (some ⟨g, o, none⟩) n c) ∧ V.cell? ⟨w.heap.size, 1, none⟩ = some (.int .i64 root)) (by kernel_rfl) (SO.out _ hBB) (fun hHeld => ?_)
          refine wpAnyH_take (i := 0) (v := ?_) rfl (by kernel_rfl) (by kernel_rfl) (by kernel_rfl) (fun _ _ _ h => h) (Or.inl ⟨by rfl, ?_⟩) (by assumption) ?_
          rotate_left
          · intro w hSw
            (try dsimp only at hSw)
            go_simp
            try with_reducible rfl
          try simp only [List.getElem_toArray, List.getElem_cons_zero, List.getElem_cons_succ, Act.put, List.setIfInBounds_toArray, List.set_cons_zero, List.set_cons_succ]
          refine wpAnyH_take (i := 1) (v := ?_) rfl (by kernel_rfl) (by kernel_rfl) (by kernel_rfl) (fun _ _ _ h => h) (Or.inl ⟨by rfl, ?_⟩) (by assumption) ?_
          rotate_left
          · intro w hSw
            (try dsimp only at hSw)
            go_simp
            try with_reducible rfl
          try simp only [List.getElem_toArray, List.getElem_cons_zero, List.getElem_cons_succ, Act.put, List.setIfInBounds_toArray, List.set_cons_zero, List.set_cons_succ]
          refine wpAnyH_take (i := 2) (v := ?_) rfl (by kernel_rfl) (by kernel_rfl) (by kernel_rfl) (fun _ _ _ h => h) (Or.inl ⟨by rfl, ?_⟩) (by assumption) ?_
          rotate_left
          · intro w hSw
            (try dsimp only at hSw)
            go_simp
            try with_reducible rfl
          try simp only [List.getElem_toArray, List.getElem_cons_zero, List.getElem_cons_succ, Act.put, List.setIfInBounds_toArray, List.set_cons_zero, List.set_cons_succ]
          refine wpAnyH_take (i := 3) (v := ?_) rfl (by kernel_rfl) (by kernel_rfl) (by kernel_rfl) (fun _ _ _ h => h) (Or.inl ⟨by rfl, ?_⟩) (by assumption) ?_
          rotate_left
          · intro w hSw
            (try dsimp only at hSw)
            go_simp
            try with_reducible rfl
          try simp only [List.getElem_toArray, List.getElem_cons_zero, List.getElem_cons_succ, Act.put, List.setIfInBounds_toArray, List.set_cons_zero, List.set_cons_succ]
          refine wpAnyH_take (i := 4) (v := ?_) rfl (by kernel_rfl) (by kernel_rfl) (by kernel_rfl) (fun _ _ _ h => h) (Or.inl ⟨by rfl, ?_⟩) (by assumption) ?_
          rotate_left
          · intro w hSw
            (try dsimp only at hSw)
            go_simp
            try with_reducible rfl
          try simp only [List.getElem_toArray, List.getElem_cons_zero, List.getElem_cons_succ, Act.put, List.setIfInBounds_toArray, List.set_cons_zero, List.set_cons_succ]
          refine wpAnyH_take (i := 5) (v := ?_) rfl (by kernel_rfl) (by kernel_rfl) (by kernel_rfl) (fun _ _ _ h => h) (Or.inl ⟨by rfl, ?_⟩) (by assumption) ?_
          rotate_left
          · intro w hSw
            (try dsimp only at hSw)
            go_simp
            try with_reducible rfl
          try simp only [List.getElem_toArray, List.getElem_cons_zero, List.getElem_cons_succ, Act.put, List.setIfInBounds_toArray, List.set_cons_zero, List.set_cons_succ]
          refine wpAnyH_take (i := 6) (v := ?_) rfl (by kernel_rfl) (by kernel_rfl) (by kernel_rfl) (fun _ _ _ h => h) (Or.inl ⟨by rfl, ?_⟩) (by assumption) ?_
          rotate_left
          · intro w hSw
            (try dsimp only at hSw)
            go_simp
            try with_reducible rfl
          try simp only [List.getElem_toArray, List.getElem_cons_zero, List.getElem_cons_succ, Act.put, List.setIfInBounds_toArray, List.set_cons_zero, List.set_cons_succ]
          refine wpAnyH_ready (rs := [7]) (by kernel_rfl) (by simp) ?_
          refine AllReadyH.cons (by simp only [List.getElem?_toArray, List.getElem?_cons_zero, List.getElem?_cons_succ]; rfl) (fun K hK => ?_) AllReadyH.nil
          go_simp
          (go_at_call 22; with_reducible refine (CF.out _ hBB).mono ?_; rintro e9 w9 ⟨rfl, hBB⟩)
          go_wp2_with fail
          refine hK.out _ _ (by first | assumption | exact SO.out _ (by first | exact hBB | exact dN_below hBB _ | exact hBB.drew)) (fun hHeld => ?_)
          try simp only [List.getElem_toArray, List.getElem_cons_zero, List.getElem_cons_succ, Act.put, List.setIfInBounds_toArray, List.set_cons_zero, List.set_cons_succ]
          refine wpAnyH_take (i := 8) (v := ?_) rfl (by kernel_rfl) (by kernel_rfl) (by kernel_rfl) (fun _ _ _ h => h) (Or.inl ⟨by rfl, ?_⟩) (by assumption) ?_
          rotate_left
          · intro w hSw
            (try dsimp only at hSw)
            go_simp
            try with_reducible rfl
          try simp only [List.getElem_toArray, List.getElem_cons_zero, List.getElem_cons_succ, Act.put, List.setIfInBounds_toArray, List.set_cons_zero, List.set_cons_succ]
          refine wpAnyH_done (by kernel_rfl) ?_ _
          go_wp2_with fail
          go_ret
          exact ⟨by rw [HK.out]; rfl, G0.out.1.trans ((FR.out.trans ((show Below wr.heap.size wr _ by first | exact hBB | exact dN_below hBB _).mono (by omega))).mono (by omega))⟩
      · have hi' : ¬ (j : Int) < (n : Int) := by omega
        have hok : checkG l root = 0 := checkG_ok.2 ⟨by have := H.out.1; omega, by rw [H.out.1]; exact HR0.out, fun y hy => by
          obtain ⟨i, hi, rfl⟩ := List.mem_iff_getElem.1 hy
          have := HIN.out i hi (by have := H.out.1; omega)
          rw [H.out.1]; exact this⟩
        have HK := Lib.hid hok
        clear hok
        go_wp2_with fail
        go_ret
        exact ⟨by rw [HK.out]; rfl, G0.out.1.trans (FR.out.mono (by omega))⟩
end Go.Proofs.YtkbmkmpoapafaaaDoor
