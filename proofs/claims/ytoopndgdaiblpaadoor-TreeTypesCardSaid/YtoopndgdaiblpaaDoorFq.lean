/- tree.fits at any part that lies there. -/
import Derived.Test.YtoopndgdaiblpaaDoorFm
import Derived.Deep.RegionHeld3
namespace Go.Proofs.YtoopndgdaiblpaaDoor
open Go.ChangeShapes Go.WideShapes Go.ChangeAt Go.RowKit

set_option linter.unusedSimpArgs false in
set_option maxHeartbeats 2000000 in
set_option maxRecDepth 100000 in
/-- fits at a member. -/
theorem fits_me (S : Nat → Prop) (b o : Nat) (d : Int) (T : TypeId) (v : Value) (w : World) (t : Nd) (hg : w.cell? ⟨0, 0, none⟩ = some (.iface T v)) (hgl : 0 < w.heap.size) (hS : ∀ b, S b → b < w.heap.size) (ht : NdAt w S b o t) (hx : isEx t = false) (hk : ∀ k nm a ts ags, t = .me k nm a ts ags → 0 ≤ k ∧ k ≤ 4 ∧ nm.size ≤ maxLen ∧ a.size ≤ maxLen) :
    ∃ ty, w.cell? ⟨b, o + 4, none⟩ = some ty ∧ Calls Tryd.prog 32 #[.agg #[.pointer none, .pointer (some ⟨b, o, none⟩), .int .i64 d]] w (fitGives (meB t) ty w) := by
  have CM : Hid (∀ V, Below w.heap.size w V → Calls Tryd.prog 42 #[.pointer (some ⟨b, o, none⟩)] V fun e w' => e = .returned (.bool (meB t)) ∧ ∃ q, w' = V.drewN q) := Lib.hid fun V hV =>
    fitsMember_any S b o T v V t ((hV.cell (p := ⟨_, 0, none⟩) hgl).trans hg) (ht.carry (keeps_of hV hS) fun _ h => h) hx hk
  obtain ⟨r, hr⟩ : ∃ r, meB t = r := ⟨_, rfl⟩
  rw [hr] at CM ⊢
  obtain _ | ⟨hb, h0, h1, h2, h3, h4, ha, htt, hs, hts, hax⟩ := ht
  · cases hx
  rename_i k nm as_ types args va vt ga oa gt ot
  obtain ⟨xt, ct, rfl, _⟩ := htt.shape
  obtain ⟨nt, hnt⟩ : ∃ n, types.length = n := ⟨_, rfl⟩
  refine ⟨_, h4, ?_⟩
  rw [hnt] at h4 ⊢
  have hbw := hS _ hb
  clear hr hnt ha htt hs hts hax h0 h1 h2 h3 hk hS hg hgl hb
  go_enter Tryd.func32, Tryd.ntmps32
  go_wp2_with fail
  obtain ⟨W3, hW3⟩ : ∃ W3, w.alloc (.cells #[.pointer none, .pointer (some ⟨b, o, none⟩), .int .i64 d] 76) = W3 := ⟨_, rfl⟩
  rw [hW3]
  have hB3 : Below w.heap.size w W3 := by rw [← hW3]; exact (Below.refl w.heap.size w).alloc (Nat.le_refl _) _
  have hs3 : W3.heap.size = w.heap.size + 1 := by rw [← hW3]; simp
  have hx3 : W3.heap[w.heap.size]? = some (.cells #[.pointer none, .pointer (some ⟨b, o, none⟩), .int .i64 d] 76) := by rw [← hW3]; exact heap_last rfl
  have SO : Hid (∀ V, Below W3.heap.size W3 V → V.cell? ⟨w.heap.size, 0, none⟩ = some (.pointer none) ∧ V.cell? ⟨w.heap.size, 1, none⟩ = some (.pointer (some ⟨b, o, none⟩)) ∧ V.cell? ⟨w.heap.size, 2, none⟩ = some (.int .i64 d) ∧ V.cell? ⟨b, o + 4, none⟩ = some (.slice xt nt ct)) := Lib.hid fun V hV => by
    have h9 := hB3.trans (hV.mono hB3.size)
    have a1 := (hV.block w.heap.size (by omega)).trans hx3
    refine ⟨?_, ?_, ?_, (h9.cell (p := ⟨b, _, none⟩) hbw).trans h4⟩ <;> (rw [Lib.cell_of_heap a1]; rfl)
  have hBB : Below W3.heap.size W3 W3.drew := (Below.refl _ _).drew
  clear hW3 hx3 h4
  refine wp_region_held_drew (S := fun V => V.cell? ⟨w.heap.size, 0, none⟩ = some (.pointer none) ∧ V.cell? ⟨w.heap.size, 1, none⟩ = some (.pointer (some ⟨b, o, none⟩)) ∧ V.cell? ⟨w.heap.size, 2, none⟩ = some (.int .i64 d) ∧ V.cell? ⟨b, o + 4, none⟩ = some (.slice xt nt ct)) (by kernel_rfl) (SO.out _ (by first | exact hBB | exact dN_below hBB _ | exact dN_below (Below.refl _ _) _ | exact (dN_below (Below.refl _ _) _).drew)) (fun hHeld => ?_)
  refine wpAnyH_take (i := 0) (v := ?_) rfl (by kernel_rfl) (by kernel_rfl) (by kernel_rfl) (fun _ _ _ h => h) (Or.inl ⟨by rfl, ?_⟩) (by assumption) ?_
  rotate_left
  · intro w hSw
    (try dsimp only at hSw)
    go_simp
    try with_reducible rfl
  try simp only [List.getElem_toArray, List.getElem_cons_zero, List.getElem_cons_succ, Act.put, List.setIfInBounds_toArray, List.set_cons_zero, List.set_cons_succ]
  refine wpAnyH_take (i := 1) (v := ?_) rfl (by kernel_rfl) (by kernel_rfl) (by kernel_rfl) (fun _ _ _ h => h) (Or.inl ⟨by rfl, ?_⟩) (by assumption) ?_
  rotate_left
  · intro w hSw
    (try dsimp only at hSw)
    go_simp
    try with_reducible rfl
  try simp only [List.getElem_toArray, List.getElem_cons_zero, List.getElem_cons_succ, Act.put, List.setIfInBounds_toArray, List.set_cons_zero, List.set_cons_succ]
  refine wpAnyH_take (i := 2) (v := ?_) rfl (by kernel_rfl) (by kernel_rfl) (by kernel_rfl) (fun _ _ _ h => h) (Or.inl ⟨by rfl, ?_⟩) (by assumption) ?_
  rotate_left
  · intro w hSw
    (try dsimp only at hSw)
    go_simp
    try with_reducible rfl
  try simp only [List.getElem_toArray, List.getElem_cons_zero, List.getElem_cons_succ, Act.put, List.setIfInBounds_toArray, List.set_cons_zero, List.set_cons_succ]
  refine wpAnyH_take (i := 3) (v := ?_) rfl (by kernel_rfl) (by kernel_rfl) (by kernel_rfl) (fun _ _ _ h => h) (Or.inl ⟨by rfl, ?_⟩) (by assumption) ?_
  rotate_left
  · intro w hSw
    (try dsimp only at hSw)
    go_simp
    try with_reducible rfl
  try simp only [List.getElem_toArray, List.getElem_cons_zero, List.getElem_cons_succ, Act.put, List.setIfInBounds_toArray, List.set_cons_zero, List.set_cons_succ]
  refine wpAnyH_take (i := 4) (v := ?_) rfl (by kernel_rfl) (by kernel_rfl) (by kernel_rfl) (fun _ _ _ h => h) (Or.inl ⟨by rfl, ?_⟩) (by assumption) ?_
  rotate_left
  · intro w hSw
    (try dsimp only at hSw)
    go_simp
    try with_reducible rfl
  try simp only [List.getElem_toArray, List.getElem_cons_zero, List.getElem_cons_succ, Act.put, List.setIfInBounds_toArray, List.set_cons_zero, List.set_cons_succ]
  refine wpAnyH_take (i := 5) (v := ?_) rfl (by kernel_rfl) (by kernel_rfl) (by kernel_rfl) (fun _ _ _ h => h) (Or.inl ⟨by rfl, ?_⟩) (by assumption) ?_
  rotate_left
  · intro w hSw
    (try dsimp only at hSw)
    go_simp
    try with_reducible rfl
  try simp only [List.getElem_toArray, List.getElem_cons_zero, List.getElem_cons_succ, Act.put, List.setIfInBounds_toArray, List.set_cons_zero, List.set_cons_succ]
  refine wpAnyH_take (i := 6) (v := ?_) rfl (by kernel_rfl) (by kernel_rfl) (by kernel_rfl) (fun _ _ _ h => h) (Or.inl ⟨by rfl, ?_⟩) (by assumption) ?_
  rotate_left
  · intro w hSw
    (try dsimp only at hSw)
    go_simp
    try with_reducible rfl
  try simp only [List.getElem_toArray, List.getElem_cons_zero, List.getElem_cons_succ, Act.put, List.setIfInBounds_toArray, List.set_cons_zero, List.set_cons_succ]
  refine wpAnyH_ready (rs := [7]) (by kernel_rfl) (by simp) ?_
  refine AllReadyH.cons (by simp only [List.getElem?_toArray, List.getElem?_cons_zero, List.getElem?_cons_succ]; rfl) (fun K hK => ?_) AllReadyH.nil
  go_simp
  (go_at_call 42; with_reducible refine (CM.out _ (hB3.trans (hBB.mono hB3.size))).mono ?_; rintro e9 w9 ⟨rfl, mq, rfl⟩)
  go_wp2_with fail
  refine hK.out _ _ (by first | assumption | exact SO.out _ (by first | exact hBB | exact dN_below hBB _ | exact dN_below (Below.refl _ _) _ | exact (dN_below (Below.refl _ _) _).drew)) (fun hHeld => ?_)
  try simp only [List.getElem_toArray, List.getElem_cons_zero, List.getElem_cons_succ, Act.put, List.setIfInBounds_toArray, List.set_cons_zero, List.set_cons_succ]
  refine wpAnyH_take (i := 8) (v := ?_) rfl (by kernel_rfl) (by kernel_rfl) (by kernel_rfl) (fun _ _ _ h => h) (Or.inl ⟨by rfl, ?_⟩) (by assumption) ?_
  rotate_left
  · intro w hSw
    (try dsimp only at hSw)
    go_simp
    try with_reducible rfl
  try simp only [List.getElem_toArray, List.getElem_cons_zero, List.getElem_cons_succ, Act.put, List.setIfInBounds_toArray, List.set_cons_zero, List.set_cons_succ]
  refine wpAnyH_take (i := 9) (v := ?_) rfl (by kernel_rfl) (by kernel_rfl) (by kernel_rfl) (fun _ _ _ h => h) (Or.inl ⟨by rfl, ?_⟩) (by assumption) ?_
  rotate_left
  · intro w hSw
    (try dsimp only at hSw)
    go_simp
    try with_reducible rfl
  try simp only [List.getElem_toArray, List.getElem_cons_zero, List.getElem_cons_succ, Act.put, List.setIfInBounds_toArray, List.set_cons_zero, List.set_cons_succ]
  refine wpAnyH_done (by kernel_rfl) ?_ _
  go_wp2_with fail
  refine bodyPost_ret (v := .tuple #[.slice xt nt ct, .bool r]) (by simp [results, Tryd.results32, go_sem]) rfl ?_
  exact ⟨_, rfl, fun _ => rfl, hB3.trans (Below.mono (by first | exact hBB | exact dN_below hBB _ | exact dN_below (Below.refl _ _) _ | exact (dN_below (Below.refl _ _) _).drew) hB3.size)⟩
end Go.Proofs.YtoopndgdaiblpaaDoor
