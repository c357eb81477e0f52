/- trefoillaw06.GraphFree. -/
import Derived.Test.YtelmigkbofnicaaDoorGx
import Derived.Test.YtelmigkbofnicaaDoorGy
import Derived.Test.YtelmigkbofnicaaDoorGg
import Derived.Test.YtelmigkbofnicaaDoorGv
import Derived.Test.YtelmigkbofnicaaDoorGj
namespace Go.Proofs.YtelmigkbofnicaaDoor
open Go.ChangeShapes Go.WideShapes Go.ChangeAt Go.RowKit

theorem nodeInfo : (Tryd.prog.info? 36).map (fun i => (i.zero, i.size, i.bytes)) = some (some (.agg #[.int .i64 0, .string ⟨#[]⟩, .slice none 0 0, .slice none 0 0, .bool false]), 5, 80) := by kernel_rfl

theorem nc_one (W : World) (n : Nat) (T U : TypeId) : NC ((W.alloc (.cells #[.int .i64 n, .int .i64 n] T)).alloc (.cells #[.int .i64 1, .string ⟨#[]⟩, .slice none 0 0, .slice none 0 0, .bool false, .int .i64 2, .string ⟨#[42]⟩, .slice (some ⟨W.heap.size, 0, none⟩) 2 2, .slice none 0 0, .bool false] U))
    (fun b => W.heap.size ≤ b ∧ b < ((W.alloc (.cells #[.int .i64 n, .int .i64 n] T)).alloc (.cells #[.int .i64 1, .string ⟨#[]⟩, .slice none 0 0, .slice none 0 0, .bool false, .int .i64 2, .string ⟨#[42]⟩, .slice (some ⟨W.heap.size, 0, none⟩) 2 2, .slice none 0 0, .bool false] U)).heap.size) [varG, starG [(n : Int), (n : Int)]]
    [.int .i64 1, .string ⟨#[]⟩, .slice none 0 0, .slice none 0 0, .bool false, .int .i64 2, .string ⟨#[42]⟩, .slice (some ⟨W.heap.size, 0, none⟩) 2 2, .slice none 0 0, .bool false] :=
  .cons nums0 strs0 (.cons (nums2 ((heap_old (by simp)).trans (heap_last rfl)) ⟨Nat.le_refl _, by simp; omega⟩) strs0 .nil)
theorem nc_two (W : World) (n : Nat) (T U : TypeId) : NC ((W.alloc (.cells #[.int .i64 n, .int .i64 ((n : Int) + 1)] T)).alloc (.cells #[.int .i64 1, .string ⟨#[]⟩, .slice none 0 0, .slice none 0 0, .bool false, .int .i64 1, .string ⟨#[]⟩, .slice none 0 0, .slice none 0 0, .bool false, .int .i64 2, .string ⟨#[42]⟩, .slice (some ⟨W.heap.size, 0, none⟩) 2 2, .slice none 0 0, .bool false] U))
    (fun b => W.heap.size ≤ b ∧ b < ((W.alloc (.cells #[.int .i64 n, .int .i64 ((n : Int) + 1)] T)).alloc (.cells #[.int .i64 1, .string ⟨#[]⟩, .slice none 0 0, .slice none 0 0, .bool false, .int .i64 1, .string ⟨#[]⟩, .slice none 0 0, .slice none 0 0, .bool false, .int .i64 2, .string ⟨#[42]⟩, .slice (some ⟨W.heap.size, 0, none⟩) 2 2, .slice none 0 0, .bool false] U)).heap.size) [varG, varG, starG [(n : Int), (n : Int) + 1]]
    [.int .i64 1, .string ⟨#[]⟩, .slice none 0 0, .slice none 0 0, .bool false, .int .i64 1, .string ⟨#[]⟩, .slice none 0 0, .slice none 0 0, .bool false, .int .i64 2, .string ⟨#[42]⟩, .slice (some ⟨W.heap.size, 0, none⟩) 2 2, .slice none 0 0, .bool false] :=
  .cons nums0 strs0 (.cons nums0 strs0 (.cons (nums2 ((heap_old (by simp)).trans (heap_last rfl)) ⟨Nat.le_refl _, by simp; omega⟩) strs0 .nil))

set_option linter.unusedSimpArgs false in
set_option maxHeartbeats 4000000 in
set_option maxRecDepth 100000 in
theorem freelaw_any (S : Nat → Prop) (vg : Value) (r : Int) (G : List GN) (w : World) (T : TypeId) (ev : Value) (hg : w.cell? ⟨0, 0, none⟩ = some (.iface T ev)) (hgl : 0 < w.heap.size) (hG : GrAt w S vg G) (hS : ∀ b, S b → b < w.heap.size) (sG : Sized G) (hb : greatN G ≤ 4611686018427387904) :
    Calls Tryd.prog 7 #[.agg #[vg, .int .i64 r]] w fun e w' => e = .returned (.bool true) ∧ Below w.heap.size w w' := by
  obtain ⟨xg, cg, gg, og, rfl, hxg, hng⟩ := hG.open_
  obtain ⟨i0, hi0, hz0, hz1, hz2⟩ := info_parts nodeInfo
  obtain ⟨n, en⟩ : ∃ n, G.length = n := ⟨_, rfl⟩
  clear hxg hng
  rw [en] at hG ⊢
  have HX : Hid (∀ V, Below w.heap.size w V → GrAt V S (.slice xg n cg) G ∧ (∀ b, S b → b < V.heap.size) ∧ V.cell? ⟨0, 0, none⟩ = some (.iface T ev) ∧ 0 < V.heap.size) := Lib.hid fun V hV =>
    ⟨hG.carry (keeps_of hV hS) fun _ h => h, fun b hb => Nat.lt_of_lt_of_le (hS b hb) hV.size, (hV.cell (p := ⟨_, 0, none⟩) hgl).trans hg, Nat.lt_of_lt_of_le hgl hV.size⟩
  have HS := Lib.hid (And.intro sG (And.intro hb (And.intro en hS)))
  clear hg hgl hG hS sG hb
  go_enter Tryd.func7, Tryd.ntmps7
  have B0 : Hid (Below w.heap.size w (w.alloc (.cells #[.slice xg n cg, .int .i64 r] 24))) := Lib.hid ((Below.refl _ _).alloc (Nat.le_refl _) _)
  have b0 : Hid ((w.alloc (.cells #[.slice xg n cg, .int .i64 r] 24)).heap[w.heap.size]? = some (.cells #[.slice xg n cg, .int .i64 r] 24)) := Lib.hid (heap_last rfl)
  have C0 := Lib.hid (alive_any _ T ev (HX.out _ B0.out).2.2.1 (HX.out _ B0.out).2.2.2)
  go_wp2_with fail
  refine C0.out.mono ?_
  rintro e1 W1 ⟨rfl, hB1⟩
  clear C0
  have s1 : w.heap.size + 1 ≤ W1.heap.size := by have := hB1.size; simpa using this
  have B1 : Hid (Below w.heap.size w W1) := Lib.hid (B0.out.trans (hB1.mono (by simp)))
  have b1 := Lib.hid ((hB1.block w.heap.size (by simp)).trans b0.out)
  clear hB1 B0 b0
  have a0 := Lib.cell_of_heap b1.out 0
  have a1 := Lib.cell_of_heap b1.out 1
  simp only [List.getElem?_toArray, List.getElem?_cons_zero, List.getElem?_cons_succ] at a0 a1
  have C1 := Lib.hid (great_any S (.slice xg n cg) r G W1 (HX.out _ B1.out).1 (HX.out _ B1.out).2.1 HS.out.2.1)
  go_wp2_with fail
  refine C1.out.mono ?_
  rintro e2 W2 ⟨rfl, hB2⟩
  clear C1 a0 a1
  have s2 := hB2.size
  have B2 : Hid (Below w.heap.size w W2) := Lib.hid (B1.out.trans (hB2.mono (by omega)))
  have b2 := Lib.hid ((hB2.block w.heap.size (by omega)).trans b1.out)
  clear hB2 b1
  have a0 := Lib.cell_of_heap b2.out 0
  have a1 := Lib.cell_of_heap b2.out 1
  simp only [List.getElem?_toArray, List.getElem?_cons_zero, List.getElem?_cons_succ] at a0 a1
  have C2 := Lib.hid (check_any S (.slice xg n cg) r G W2 T ev (HX.out _ B2.out).2.2.1 (HX.out _ B2.out).2.2.2 (HX.out _ B2.out).1 (HX.out _ B2.out).2.1 HS.out.1)
  by_cases hgt : (300 : Int) < (greatN G : Int)
  · go_wp2_with fail
    go_ret
    exact ⟨rfl, B2.out⟩
  · obtain ⟨c, hc⟩ : ∃ c, checkG G r = c := ⟨_, rfl⟩
    have hw := checkG_ways G r
    rw [hc] at C2 hw
    go_wp2_with fail
    refine C2.out.mono ?_
    rintro e3 W3 ⟨rfl, hB3⟩
    clear C2 a0 a1
    have s3 := hB3.size
    have B3 : Hid (Below w.heap.size w W3) := Lib.hid (B2.out.trans (hB3.mono (by omega)))
    have b3 := Lib.hid ((hB3.block w.heap.size (by omega)).trans b2.out)
    clear hB3 b2
    have a0 := Lib.cell_of_heap b3.out 0
    have a1 := Lib.cell_of_heap b3.out 1
    simp only [List.getElem?_toArray, List.getElem?_cons_zero, List.getElem?_cons_succ] at a0 a1
    have hlt3 : w.heap.size < W3.heap.size := by omega
    rcases hw with rfl | rfl | rfl
    rotate_left
    · go_wp2_with fail
      go_ret
      exact ⟨rfl, B3.out⟩
    · go_wp2_with fail
      go_ret
      exact ⟨rfl, B3.out⟩
    · have eg : (decide ((300 : Int) < (greatN G : Int)) || false) = false := by simp [hgt]
      have HC := Lib.hid hc
      have hgr := great_len (l := G) (k := 300) (by omega)
      rw [en] at hgr
      have hn3 := hgr.1
      have HG := Lib.hid hgr
      obtain ⟨gs, os, news, hsl, hnc, hcell⟩ := nc_of (HX.out _ B3.out).1
      rw [en] at hsl
      have HN := Lib.hid (And.intro hsl (And.intro hnc hcell))
      clear hgr hsl hnc hcell hc
      go_wp2_with (first
        | (at_builtin; (refine wpList_append_sl rfl (.tmp 21) (.tmp 23) _ rfl W3.heap.size 36 i0 _ 5 80 Tryd.underlying22 hi0 hz0 hz1 hz2 rfl (by decide) (.slice (some ⟨W3.heap.size, 0, none⟩) 0 0) 0 [] rfl (own_lit0 W3 _ _) S (.slice xg n cg) n gs os rfl HN.out.1 news (by rw [HN.out.2.1.len, HS.out.2.2.1]) (cells_carry HN.out.2.2 ((Below.refl _ _).alloc (Nat.le_refl _) _)) HN.out.2.1.one (by unfold maxLen; omega) (by omega) (by simp) ?_); (intro v4 W4 v4h v4g v4a); (rw [List.nil_append, Nat.zero_add] at v4h); (obtain ⟨x4, c4, v4e⟩ : ∃ x c, v4 = .slice x n c := own_shape v4h); subst v4e; (have B4 : Hid (Below W3.heap.size W3 W4) := Lib.hid (((Below.refl _ _).alloc (Nat.le_refl _) _).grown v4g (by simp) (fun b hb => by simp only [Value.ownBlock, Option.some.injEq] at hb; omega))); (have s4 := B4.out.size); (have HO4 := Lib.hid v4h); (clear v4h v4g v4a))
        | (at_builtin; (refine wpList_append_own_at _ rfl (.tmp 24) (.tmp 30) _ rfl W3.heap.size 36 i0 _ 5 80 Tryd.underlying22 hi0 hz0 hz1 hz2 rfl (by decide) (.slice x4 n c4) n news rfl ((HO4.out.alloc _).alloc _) ⟨W4.heap.size + 1, 0, none⟩ 2 2 [.int .i64 1, .string ⟨#[]⟩, .slice none 0 0, .slice none 0 0, .bool false, .int .i64 2, .string ⟨#[42]⟩, .slice (some ⟨W4.heap.size, 0, none⟩) 2 2, .slice none 0 0, .bool false] rfl rfl (new_cells2 W4 _ [.int .i64 1, .string ⟨#[]⟩, .slice none 0 0, .slice none 0 0, .bool false, .int .i64 2, .string ⟨#[42]⟩, .slice (some ⟨W4.heap.size, 0, none⟩) 2 2, .slice none 0 0, .bool false] _) (by simp [Value.oneCell']) (by unfold maxLen; omega) (by omega) (by simp; omega) ?_); (intro v6 W6 v6h v6g v6n v6a); (obtain ⟨x6, c6, v6e⟩ : ∃ x c, v6 = .slice x (n + 2) c := own_shape v6h); subst v6e; (have R6 := Lib.hid (row_more (m := [varG, starG [(n : Int), (n : Int)]]) rfl HN.out.2.1 (HX.out _ B3.out).2.1 HO4.out B4.out (((Below.refl _ _).alloc (Nat.le_refl _) _).alloc (by simp) _) v6g v6h (by rw [List.length_append, HS.out.2.2.1]; rfl) (nc_one W4 n 3 36))); (have s6 : W4.heap.size + 2 ≤ W6.heap.size := by have h := v6g.size; simpa using h); (have b6 := (R6.out.2.block w.heap.size (by omega)).trans b3.out); (have a0 := Lib.cell_of_heap b6 0); (have a1 := Lib.cell_of_heap b6 1); (simp only [List.getElem?_toArray, List.getElem?_cons_zero, List.getElem?_cons_succ] at a0 a1); (have l6 : w.heap.size < W6.heap.size := by omega); (clear v6h v6g v6n v6a b6))
        | (at_builtin; (refine wpList_append_sl rfl (.tmp 35) (.tmp 37) _ rfl (W6.heap.size + 1) 36 i0 _ 5 80 Tryd.underlying22 hi0 hz0 hz1 hz2 rfl (by decide) (.slice (some ⟨(W6.heap.size + 1), 0, none⟩) 0 0) 0 [] rfl (by have h := own_lit0 (W6.alloc (.cells #[.slice x6 (n + 2) c6, .int .i64 ((n : Int) + 1)] 24)) 36 5; simpa using h) S (.slice xg n cg) n gs os rfl HN.out.1 news (by rw [HN.out.2.1.len, HS.out.2.2.1]) (cells_carry HN.out.2.2 (((R6.out.2.alloc (by omega) _)).alloc (by simp; omega) _)) HN.out.2.1.one (by unfold maxLen; omega) (by omega) (by simp) ?_); (intro v7 W7 v7h v7g v7a); (rw [List.nil_append, Nat.zero_add] at v7h); (obtain ⟨x7, c7, v7e⟩ : ∃ x c, v7 = .slice x n c := own_shape v7h); subst v7e; (have B7 : Hid (Below (W6.heap.size + 1) (W6.alloc (.cells #[.slice x6 (n + 2) c6, .int .i64 ((n : Int) + 1)] 24)) W7) := Lib.hid (((Below.refl _ _).alloc (by simp) _).grown v7g (by simp) (fun b hb => by simp only [Value.ownBlock, Option.some.injEq] at hb; omega))); (have s7 : W6.heap.size + 1 ≤ W7.heap.size := by have h := B7.out.size; simpa using h); (have HO7 := Lib.hid v7h); (clear v7h v7g v7a))
        | (at_builtin; (refine wpList_append_own_at _ rfl (.tmp 38) (.tmp 46) _ rfl (W6.heap.size + 1) 36 i0 _ 5 80 Tryd.underlying22 hi0 hz0 hz1 hz2 rfl (by decide) (.slice x7 n c7) n news rfl ((HO7.out.alloc _).alloc _) ⟨W7.heap.size + 1, 0, none⟩ 3 3 [.int .i64 1, .string ⟨#[]⟩, .slice none 0 0, .slice none 0 0, .bool false, .int .i64 1, .string ⟨#[]⟩, .slice none 0 0, .slice none 0 0, .bool false, .int .i64 2, .string ⟨#[42]⟩, .slice (some ⟨W7.heap.size, 0, none⟩) 2 2, .slice none 0 0, .bool false] rfl rfl (new_cells2 W7 _ [.int .i64 1, .string ⟨#[]⟩, .slice none 0 0, .slice none 0 0, .bool false, .int .i64 1, .string ⟨#[]⟩, .slice none 0 0, .slice none 0 0, .bool false, .int .i64 2, .string ⟨#[42]⟩, .slice (some ⟨W7.heap.size, 0, none⟩) 2 2, .slice none 0 0, .bool false] _) (by simp [Value.oneCell']) (by unfold maxLen; omega) (by omega) (by simp; omega) ?_); (intro v9 W9 v9h v9g v9n v9a); (obtain ⟨x9, c9, v9e⟩ : ∃ x c, v9 = .slice x (n + 3) c := own_shape v9h); subst v9e; (have B36 : Below W3.heap.size W3 (W6.alloc (.cells #[.slice x6 (n + 2) c6, .int .i64 ((n : Int) + 1)] 24)) := R6.out.2.alloc (by omega) _); (have R9 := Lib.hid (row_more (W3 := (W6.alloc (.cells #[.slice x6 (n + 2) c6, .int .i64 ((n : Int) + 1)] 24))) (m := [varG, varG, starG [(n : Int), (n : Int) + 1]]) (by simp) (HN.out.2.1.carry (keeps_of B36 (HX.out _ B3.out).2.1) (fun _ h => h)) (fun b hb => by have h := (HX.out _ B3.out).2.1 b hb; simp; omega) HO7.out B7.out (((Below.refl _ _).alloc (Nat.le_refl _) _).alloc (by simp) _) v9g v9h (by rw [List.length_append, HS.out.2.2.1]; rfl) (nc_two W7 n 3 36))); (have s9 : W7.heap.size + 2 ≤ W9.heap.size := by have h := v9g.size; simpa using h); (have b9 := (R9.out.2.block W6.heap.size (by simp)).trans (heap_last rfl)); (have a0 := Lib.cell_of_heap b9 0); (have a1 := Lib.cell_of_heap b9 1); (simp only [List.getElem?_toArray, List.getElem?_cons_zero, List.getElem?_cons_succ] at a0 a1); (have l9 : W6.heap.size < W9.heap.size := by omega); (have HB9 := Lib.hid b9); (clear v9h v9g v9n v9a b9 B36)))
      have B6 : Below W6.heap.size W6 W9 := ((Below.refl _ _).alloc (Nat.le_refl _) _).trans (R9.out.2.mono (by simp))
      obtain ⟨V, hV⟩ : ∃ V, W9.alloc (.cells #[.slice x9 (n + 3) c9, .int .i64 ((n : Int) + 2)] 24) = V := ⟨_, rfl⟩
      rw [hV]
      have B9 : Below W9.heap.size W9 V := by rw [← hV]; exact (Below.refl _ _).alloc (Nat.le_refl _) _
      have sV : V.heap.size = W9.heap.size + 1 := by rw [← hV]; simp
      have bV : V.heap[W9.heap.size]? = some (.cells #[.slice x9 (n + 3) c9, .int .i64 ((n : Int) + 2)] 24) := by rw [← hV]; exact heap_last rfl
      clear hV
      have bU := (B9.block W6.heap.size l9).trans HB9.out
      have BW3 : Below w.heap.size w W9 := B3.out.trans ((R6.out.2.mono (by omega)).trans (B6.mono (by omega)))
      have BV : Hid (Below w.heap.size w V) := Lib.hid (BW3.trans (B9.mono (by omega)))
      have hone : GrAt V (fun b => b < V.heap.size) (.slice x6 (n + 2) c6) (oneG G) := by
        have h := R6.out.1.carry (keeps_of (B6.trans (B9.mono (by omega))) fun b hb => hb) (S' := fun b => b < V.heap.size) fun b hb => by omega
        have e : oneG G = G ++ [varG, starG [(n : Int), (n : Int)]] := by unfold oneG; rw [HS.out.2.2.1]
        rw [e]; exact h
      have htwo : GrAt V (fun b => b < V.heap.size) (.slice x9 (n + 3) c9) (twoG G) := by
        have h := R9.out.1.carry (keeps_of B9 fun b hb => hb) (S' := fun b => b < V.heap.size) fun b hb => by omega
        have e : twoG G = G ++ [varG, varG, starG [(n : Int), (n : Int) + 1]] := by unfold twoG; rw [HS.out.2.2.1]
        rw [e]; exact h
      have Z : Hid (Sized (oneG G) ∧ Sized (twoG G) ∧ (oneG G).length ≤ 2000 ∧ (twoG G).length ≤ 2000 ∧ (∀ x ∈ oneG G, x.args.length ≤ 2000) ∧ (∀ x ∈ twoG G, x.args.length ≤ 2000)) := Lib.hid
        ⟨sized_one HS.out.1, sized_two HS.out.1, by rw [len_one, HS.out.2.2.1]; omega, by rw [len_two, HS.out.2.2.1]; omega, args_one fun x hx => by have := HG.out.2.1 x hx; omega, args_two fun x hx => by have := HG.out.2.1 x hx; omega⟩
      have F : Hid (sameGr (oneG G) ((n : Int) + 1) (twoG G) ((n : Int) + 2) = false ∧ (freeG (oneG G) ((n : Int) + 1)).length = 1 ∧ (freeG (twoG G) ((n : Int) + 2)).length = 2) := Lib.hid (by
        have h1 := differ G
        have h2 := free_one HC.out (by rw [HS.out.2.2.1]; exact hn3)
        have h3 := free_two HC.out (by rw [HS.out.2.2.1]; exact hn3)
        rw [HS.out.2.2.1] at h1 h2 h3
        exact ⟨h1, h2, h3⟩)
      have X : Hid (∀ U, Below V.heap.size V U → GrAt U (fun b => b < V.heap.size) (.slice x6 (n + 2) c6) (oneG G) ∧ GrAt U (fun b => b < V.heap.size) (.slice x9 (n + 3) c9) (twoG G) ∧ U.cell? ⟨0, 0, none⟩ = some (.iface T ev) ∧ 0 < U.heap.size ∧ (∀ b, b < V.heap.size → b < U.heap.size) ∧ U.heap[W6.heap.size]? = some (.cells #[.slice x6 (n + 2) c6, .int .i64 ((n : Int) + 1)] 24) ∧ U.heap[W9.heap.size]? = some (.cells #[.slice x9 (n + 3) c9, .int .i64 ((n : Int) + 2)] 24) ∧ Below w.heap.size w U) := Lib.hid fun U hU => by
        have hs := hU.size
        have hBU : Below w.heap.size w U := BV.out.trans (hU.mono (by omega))
        have hx := HX.out U hBU
        exact ⟨hone.carry (keeps_of hU fun b hb => hb) fun _ h => h, htwo.carry (keeps_of hU fun b hb => hb) fun _ h => h, hx.2.2.1, hx.2.2.2, fun b hb => by omega, (hU.block _ (by omega)).trans bU, (hU.block _ (by omega)).trans bV, hBU⟩
      have x1 := X.out V (Below.refl _ _)
      have C3 := Lib.hid (gsame_any (fun b => b < V.heap.size) _ _ ((n : Int) + 1) ((n : Int) + 2) (oneG G) (twoG G) V T ev x1.2.2.1 x1.2.2.2.1 x1.1 x1.2.1 x1.2.2.2.2.1 Z.out.1 Z.out.2.1 Z.out.2.2.1 Z.out.2.2.2.1 Z.out.2.2.2.2.1)
      rw [F.out.1] at C3
      have lsz : W6.heap.size < V.heap.size ∧ W9.heap.size < V.heap.size := by omega
      clear a0 a1 hone htwo BV BW3 bU bV B6 B9 x1 HB9 R9 R6 HO4 HO7 B7 B4 HN sV s4 s6 s7 s9 l6 l9
      refine C3.out.mono ?_
      rintro e4 V1 ⟨rfl, hB4⟩
      clear C3
      have s4 := hB4.size
      have x1 := X.out V1 hB4
      have a0 := Lib.cell_of_heap x1.2.2.2.2.2.1 0
      have a1 := Lib.cell_of_heap x1.2.2.2.2.2.1 1
      have a2 := Lib.cell_of_heap x1.2.2.2.2.2.2.1 0
      have a3 := Lib.cell_of_heap x1.2.2.2.2.2.2.1 1
      simp only [List.getElem?_toArray, List.getElem?_cons_zero, List.getElem?_cons_succ] at a0 a1 a2 a3
      have C4 := Lib.hid (free_any (fun b => b < V.heap.size) _ ((n : Int) + 1) (oneG G) V1 T ev x1.2.2.1 x1.2.2.2.1 x1.1 x1.2.2.2.2.1 Z.out.1 Z.out.2.2.1 Z.out.2.2.2.2.1)
      rw [F.out.2.1] at C4
      have HB4 := Lib.hid hB4
      clear x1 hB4
      go_wp2_with fail
      refine C4.out.mono ?_
      rintro e5 V2 ⟨v5, rfl, ho5, hB5⟩
      obtain ⟨y5, d5, rfl⟩ := own_shape ho5
      clear C4 ho5 a0 a1 a2 a3
      have s5 := hB5.size
      have HB5 := Lib.hid (HB4.out.trans (hB5.mono s4))
      clear hB5
      have x1 := X.out V2 HB5.out
      have a0 := Lib.cell_of_heap x1.2.2.2.2.2.1 0
      have a1 := Lib.cell_of_heap x1.2.2.2.2.2.1 1
      have a2 := Lib.cell_of_heap x1.2.2.2.2.2.2.1 0
      have a3 := Lib.cell_of_heap x1.2.2.2.2.2.2.1 1
      simp only [List.getElem?_toArray, List.getElem?_cons_zero, List.getElem?_cons_succ] at a0 a1 a2 a3
      have C5 := Lib.hid (free_any (fun b => b < V.heap.size) _ ((n : Int) + 2) (twoG G) V2 T ev x1.2.2.1 x1.2.2.2.1 x1.2.1 x1.2.2.2.2.1 Z.out.2.1 Z.out.2.2.2.1 Z.out.2.2.2.2.2)
      rw [F.out.2.2] at C5
      clear x1
      go_wp2_with fail
      refine C5.out.mono ?_
      rintro e6 V3 ⟨v6, rfl, ho6, hB6⟩
      obtain ⟨y6, d6, rfl⟩ := own_shape ho6
      clear C5 ho6 a0 a1 a2 a3
      have HB6 := Lib.hid (HB5.out.trans (hB6.mono (by omega)))
      go_wp2_with fail
      go_ret
      exact ⟨rfl, (X.out _ HB6.out).2.2.2.2.2.2.2⟩
end Go.Proofs.YtelmigkbofnicaaDoor
