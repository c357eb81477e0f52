/- trefoillaw13.GenMore. -/
import Derived.Test.YtkbmkmpoapafaaaDoorAw
import Derived.Test.YtkbmkmpoapafaaaDoorWi
import Derived.Test.YtkbmkmpoapafaaaDoorGj
import Derived.Test.YtkbmkmpoapafaaaDoorRe
namespace Go.Proofs.YtkbmkmpoapafaaaDoor
open Go.ChangeShapes Go.WideShapes Go.ChangeAt Go.RowKit

theorem genF_more {G : List GN} {r : Int} {l m : List Int} (h : ∀ a ∈ l, a ∈ m) : ∀ a ∈ genF G r m, a ∈ genF G r l := fun a ha => by
  obtain ⟨h1, h2, h3⟩ := mem_freeL.1 ha
  refine mem_freeL.2 ⟨h1, ?_, h3⟩
  rw [Bool.and_eq_true] at h2 ⊢
  refine ⟨h2.1, ?_⟩
  have h4 : rchB (argsOf G) (m.map Int.toNat) a = false := by simpa using h2.2
  rw [rchB_f fun hr => ?_]
  · rfl
  · have := rchB_iff.2 (hr.mono (g := m.map Int.toNat) fun b hb => by
      obtain ⟨z, hz, rfl⟩ := List.mem_map.1 hb
      exact .start (List.mem_map_of_mem (h z hz)))
    rw [h4] at this
    cases this
theorem fixF_more {G : List GN} {l m : List Int} (h : ∀ a ∈ l, a ∈ m) : ∀ a ∈ fixF G l, a ∈ fixF G m := fun a ha => by
  obtain ⟨h1, h2, h3⟩ := mem_freeL.1 ha
  exact mem_freeL.2 ⟨h1, rchB_iff.2 ((rchB_iff.1 h2).mono fun b hb => by
    obtain ⟨z, hz, rfl⟩ := List.mem_map.1 hb
    exact .start (List.mem_map_of_mem (h z hz))), h3⟩
theorem fixF_same {G : List GN} {l m : List Int} (h : ∀ a ∈ l, a ∈ m) (h' : ∀ a ∈ m, a ∈ l) : fixF G l = fixF G m := by
  unfold fixF
  refine freeL_congr fun i _ => ?_
  rw [Bool.eq_iff_iff, rchB_iff, rchB_iff]
  have key : ∀ {p q : List Int}, (∀ a ∈ p, a ∈ q) → Gu.Rch (argsOf G) (p.map Int.toNat) i → Gu.Rch (argsOf G) (q.map Int.toNat) i := fun hpq hr => hr.mono fun b hb => by
    obtain ⟨z, hz, rfl⟩ := List.mem_map.1 hb
    exact .start (List.mem_map_of_mem (hpq z hz))
  exact ⟨key h, key h'⟩
theorem free_small {G : List GN} {f : Nat → Bool} (hG : G.length ≤ 2000) : (freeL G f).length ≤ 2000 ∧ ∀ a ∈ freeL G f, a < 2000 := by
  refine ⟨?_, fun a ha => by have := (mem_freeL.1 ha).1; omega⟩
  unfold freeL
  have := List.length_filter_le (fun i => f i && freeAt G i) (List.range G.length)
  rw [List.length_range] at this
  omega
theorem edges_great {G : List GN} : edges G G.length ≤ greatN G := by
  have key : ∀ l : List GN, (l.map fun x => x.args.length).sum ≤ ndsN l := by
    intro l
    induction l with
    | nil => simp
    | cons a t ih =>
      have h : ndsN (a :: t) = ndN a + ndsN t := by simp [ndsN]
      rw [h, List.map_cons, List.sum_cons]
      have h2 : a.args.length ≤ ndN a := by unfold ndN; omega
      omega
  have := key G
  unfold edges greatN
  rw [List.take_length]
  omega
theorem nums_of_list {W : World} {B k : Nat} {e : TypeId} {v : Value} {L : List Int} {xs : List Value} (h : W.ownsRow B e 1 v k xs) (hk : L.length = k) (hx : numsI L = xs) : Nums W (fun b => b < W.heap.size) v L := by
  subst hk hx
  exact nums_own h fun b hb => (h.lt b hb).2
theorem nums_of_nat {W : World} {B k : Nat} {e : TypeId} {v : Value} {L : List Nat} (h : W.ownsRow B e 1 v k (nums L)) (hk : L.length = k) : Nums W (fun b => b < W.heap.size) v (L.map fun i : Nat => (i : Int)) :=
  nums_of_list h (by rw [List.length_map, hk]) (by unfold numsI nums; rw [List.map_map]; rfl)
theorem lit_cells {W : World} {b : Nat} {a : Int} {T : TypeId} (h : W.heap[b]? = some (.cells #[.int .i64 a] T)) : ∀ j u, ([.int .i64 a] : List Value)[j]? = some u → W.cell? ⟨b, 0 + j, none⟩ = some u := fun j u hu => by
  rw [Nat.zero_add, Lib.cell_of_heap h j]
  simpa using hu
/-- Behind a row of one's own: numbers that lie elsewhere. -/
theorem nums_cat {W : World} {B : Nat} {e : TypeId} {v : Value} {l m : List Int} (h : W.ownsRow B e 1 v (l.length + m.length) (numsI l ++ numsI m)) : Nums W (fun b => b < W.heap.size) v (l ++ m) := by
  rw [← numsI_append, ← List.length_append] at h
  exact nums_own h fun b hb => (h.lt b hb).2

set_option linter.unusedSimpArgs false in
set_option maxHeartbeats 8000000 in
set_option maxRecDepth 100000 in
theorem morelaw_any (S : Nat → Prop) (vg vf : Value) (r more : Int) (G : List GN) (l : List Int) (w : World) (T : TypeId) (ev : Value) (hg : w.cell? ⟨0, 0, none⟩ = some (.iface T ev)) (hgl : 0 < w.heap.size) (hG : GrAt w S vg G) (hf : Nums w S vf l) (hS : ∀ b, S b → b < w.heap.size) (sG : Sized G) (hb : greatN G ≤ 4611686018427387904) :
    Calls Tryd.prog 5 #[.agg #[vg, .int .i64 r], vf, .int .i64 more] w fun e w' => e = .returned (.bool true) ∧ Below w.heap.size w w' := by
  obtain ⟨gs, os, hsl, hcell⟩ := nums_sl hf
  obtain ⟨xg, cg, gg, og, rfl, -, -⟩ := hG.open_
  obtain ⟨xf, cf, gf, of_, rfl, -, -⟩ := hf.open_
  obtain ⟨n, en⟩ : ∃ n, G.length = n := ⟨_, rfl⟩
  obtain ⟨m, em⟩ : ∃ n, l.length = n := ⟨_, rfl⟩
  rw [en] at hG ⊢
  rw [em] at hf hsl ⊢
  obtain ⟨W1, hW1⟩ : ∃ W1, w.alloc (.cells #[.slice xg n cg, .int .i64 r] 24) = W1 := ⟨_, rfl⟩
  have B1 : Below w.heap.size w W1 := by rw [← hW1]; exact (Below.refl _ _).alloc (Nat.le_refl _) _
  have s1 : W1.heap.size = w.heap.size + 1 := by rw [← hW1]; simp
  have b1 : W1.heap[w.heap.size]? = some (.cells #[.slice xg n cg, .int .i64 r] 24) := by rw [← hW1]; exact heap_last rfl
  have X : Hid (∀ V, Below W1.heap.size W1 V → GrAt V (fun b => b < V.heap.size) (.slice xg n cg) G ∧ Nums V (fun b => b < V.heap.size) (.slice xf m cf) l ∧ V.cell? ⟨w.heap.size, 0, none⟩ = some (.slice xg n cg) ∧ V.cell? ⟨w.heap.size, 1, none⟩ = some (.int .i64 r) ∧ w.heap.size < V.heap.size ∧ Below w.heap.size w V ∧ V.cell? ⟨0, 0, none⟩ = some (.iface T ev) ∧ 0 < V.heap.size ∧ (∀ j u, (numsI l)[j]? = some u → V.cell? ⟨gs, os + j, none⟩ = some u)) := Lib.hid fun V hV => by
    have hB := B1.trans (hV.mono (by omega))
    have hs := hV.size
    have hbk := (hV.block w.heap.size (by omega)).trans b1
    exact ⟨hG.carry (keeps_of hB hS) fun b hb => Nat.lt_of_lt_of_le (hS b hb) hB.size, hf.carry (keeps_of hB hS) fun b hb => Nat.lt_of_lt_of_le (hS b hb) hB.size, Lib.cell_of_heap hbk 0, Lib.cell_of_heap hbk 1, by omega, hB, (hB.cell (p := ⟨_, 0, none⟩) hgl).trans hg, by omega, cells_carry hcell hB⟩
  have x := X.out W1 (Below.refl _ _)
  have C0 := Lib.hid (alive13_any W1 T ev x.2.2.2.2.2.2.1 x.2.2.2.2.2.2.2.1)
  have HS := Lib.hid (And.intro sG (And.intro hb (And.intro en (And.intro em (And.intro s1 hsl)))))
  have HW1 := Lib.hid hW1
  clear hg hgl hG hf hS sG hb hcell hsl B1 s1 b1 hW1 x
  go_enter Tryd.func5, Tryd.ntmps5
  go_wp2_with fail
  rw [HW1.out]
  refine C0.out.mono ?_
  rintro e1 W2 ⟨rfl, hB2⟩
  have x := X.out W2 hB2
  have s2 := hB2.size
  have a0 := x.2.2.1
  have a1 := x.2.2.2.1
  have hww := x.2.2.2.2.1
  have C1 := Lib.hid (good_any _ (.slice xg n cg) (.slice xf m cf) r 300 G l W2 x.1 x.2.1 (fun _ h => h) HS.out.2.1)
  have HB2 := Lib.hid hB2
  clear C0 HW1 hB2 x
  obtain ⟨gd, hgd⟩ : ∃ b, (decide ((greatN G : Int) ≤ 300) && decide (l.length ≤ 60)) = b := ⟨_, rfl⟩
  rw [hgd] at C1
  have HGD := Lib.hid hgd
  clear hgd
  cases gd with
  | false =>
    go_wp2_with fail
    refine C1.out.mono ?_
    rintro e2 W3 ⟨rfl, hB3⟩
    have HB3 := Lib.hid (HB2.out.trans (hB3.mono s2))
    clear hB3 C1 a0 a1 hww
    go_wp2_with fail
    go_ret
    exact ⟨rfl, (X.out _ HB3.out).2.2.2.2.2.1⟩
  | true =>
    have hgd := HGD.out
    rw [Bool.and_eq_true, decide_eq_true_eq, decide_eq_true_eq] at hgd
    obtain ⟨hgr0, hm60⟩ := hgd
    have hgr := great_len (l := G) (k := 300) (by omega)
    have hedge := edges_great (G := G)
    have HG := Lib.hid (And.intro hgr (And.intro (show edges G G.length ≤ 300 by omega) hm60))
    have hn300 : n ≤ 300 := by have := hgr.1; have := HS.out.2.2.1; omega
    have hm60' : m ≤ 60 := by have := HS.out.2.2.2.1; omega
    clear hgr hedge hgr0 hm60
    go_wp2_with fail
    refine C1.out.mono ?_
    rintro e2 W3 ⟨rfl, hB3⟩
    have hB3' := HB2.out.trans (hB3.mono s2)
    have x := X.out W3 hB3'
    have s3 := hB3'.size
    clear C1 a0 a1 hww hB3
    have a0 := x.2.2.1
    have a1 := x.2.2.2.1
    have hww := x.2.2.2.2.1
    have hw := checkG_ways G r
    have C2 := Lib.hid (check_any _ (.slice xg n cg) r G W3 T ev x.2.2.2.2.2.2.1 x.2.2.2.2.2.2.2.1 x.1 (fun _ h => h) HS.out.1)
    have HB3 := Lib.hid hB3'
    clear hB3' x
    obtain ⟨c, hc⟩ : ∃ c, checkG G r = c := ⟨_, rfl⟩
    rw [hc] at C2 hw
    have HC := Lib.hid hc
    clear hc
    rcases hw with rfl | rfl | rfl
    rotate_left
    · go_wp2_with fail
      refine C2.out.mono ?_
      rintro e3 W4 ⟨rfl, hB4⟩
      have HB4 := Lib.hid (HB3.out.trans (hB4.mono s3))
      clear hB4 C2 a0 a1 hww
      go_wp2_with fail
      go_ret
      exact ⟨rfl, (X.out _ HB4.out).2.2.2.2.2.1⟩
    · go_wp2_with fail
      refine C2.out.mono ?_
      rintro e3 W4 ⟨rfl, hB4⟩
      have HB4 := Lib.hid (HB3.out.trans (hB4.mono s3))
      clear hB4 C2 a0 a1 hww
      go_wp2_with fail
      go_ret
      exact ⟨rfl, (X.out _ HB4.out).2.2.2.2.2.1⟩
    · by_cases h0 : more < 0
      · go_wp2_with fail
        refine C2.out.mono ?_
        rintro e3 W4 ⟨rfl, hB4⟩
        have HB4 := Lib.hid (HB3.out.trans (hB4.mono s3))
        clear hB4 C2 a0 a1 hww
        go_wp2_with fail
        go_ret
        exact ⟨rfl, (X.out _ HB4.out).2.2.2.2.2.1⟩
      · have h0' : 0 ≤ more := by omega
        by_cases h1 : (n : Int) ≤ more
        · go_wp2_with fail
          refine C2.out.mono ?_
          rintro e3 W4 ⟨rfl, hB4⟩
          have x4 := X.out W4 (HB3.out.trans (hB4.mono s3))
          have HB4 := Lib.hid (HB3.out.trans (hB4.mono s3))
          clear hB4 C2 a0 a1 hww
          have a0 := x4.2.2.1
          have a1 := x4.2.2.2.1
          have hww := x4.2.2.2.2.1
          clear x4
          go_wp2_with fail
          go_ret
          exact ⟨rfl, (X.out _ HB4.out).2.2.2.2.2.1⟩
        · have h1' : more < (n : Int) := by omega
          go_wp2_with fail
          refine C2.out.mono ?_
          rintro e3 W4 ⟨rfl, hB4⟩
          have hB4' := HB3.out.trans (hB4.mono s3)
          have x4 := X.out W4 hB4'
          have s4 := hB4'.size
          have HB4 := Lib.hid hB4'
          clear hB4 hB4' C2 a0 a1 hww
          have a0 := x4.2.2.1
          have a1 := x4.2.2.2.1
          have hww := x4.2.2.2.2.1
          have aG : Hid (∀ x ∈ G, x.args.length ≤ 2000) := Lib.hid fun x hx => by have := HG.out.1.2.1 x hx; omega
          have KG : Hid (∀ V v mm, Below W1.heap.size W1 V → Nums V (fun b => b < V.heap.size) v mm → mm.length ≤ 3000 → Calls Tryd.prog 15 #[.agg #[.slice xg n cg, .int .i64 r], v] V (TwoGives (genG G r mm) (genC G r mm) V)) := Lib.hid fun V v mm hV hN hl => by
            have x := X.out V hV
            exact generics_any _ _ _ r G mm V T ev x.2.2.2.2.2.2.1 x.2.2.2.2.2.2.2.1 x.1 hN (fun _ h => h) HS.out.1 (by have := HS.out.2.2.1; omega) aG.out hl
          have KF : Hid (∀ V v mm, Below W1.heap.size W1 V → Nums V (fun b => b < V.heap.size) v mm → mm.length ≤ 3000 → Calls Tryd.prog 16 #[.agg #[.slice xg n cg, .int .i64 r], v] V (TwoGives (fixG G r mm) (genC G r mm) V)) := Lib.hid fun V v mm hV hN hl => by
            have x := X.out V hV
            exact fixed_any _ _ _ r G mm V T ev x.2.2.2.2.2.2.1 x.2.2.2.2.2.2.2.1 x.1 hN (fun _ h => h) HS.out.1 (by have := HS.out.2.2.1; omega) aG.out hl
          have C3 := Lib.hid (KG.out W4 (.slice xf m cf) l HB4.out x4.2.1 (by have := HS.out.2.2.2.1; omega))
          clear x4
          go_wp2_with fail
          refine C3.out.mono ?_
          rintro e4 W5 ⟨xa, da, rfl, hoa, hB5⟩
          obtain ⟨L1, hL1⟩ : ∃ L, genG G r l = L := ⟨_, rfl⟩
          rw [hL1] at hoa
          rw [hL1]
          obtain ⟨n1, hn1⟩ : ∃ k, L1.length = k := ⟨_, rfl⟩
          rw [hn1] at hoa
          rw [hn1]
          have hB5' := HB4.out.trans (hB5.mono s4)
          have x5 := X.out W5 hB5'
          have s5 := hB5'.size
          have HB5 := Lib.hid hB5'
          have HOA5 := Lib.hid hoa
          clear hB5 hB5' C3 a0 a1 hww hoa
          have a0 := x5.2.2.1
          have a1 := x5.2.2.2.1
          have hww := x5.2.2.2.2.1
          have C4 := Lib.hid (KF.out W5 (.slice xf m cf) l HB5.out x5.2.1 (by have := HS.out.2.2.2.1; omega))
          clear x5
          have hgw := genC_ways G r l
          have HOK := Lib.hid (@genC_ok G r l)
          obtain ⟨gc, hgc⟩ : ∃ c, genC G r l = c := ⟨_, rfl⟩
          rw [hgc] at C4 hgw HOK
          rw [hgc]
          have HGC := Lib.hid hgc
          clear hgc
          go_wp2_with fail
          refine C4.out.mono ?_
          rintro e5 W6 ⟨xb, db, rfl, hob, hB6⟩
          obtain ⟨L2, hL2⟩ : ∃ L, fixG G r l = L := ⟨_, rfl⟩
          rw [hL2] at hob
          rw [hL2]
          obtain ⟨n2, hn2⟩ : ∃ k, L2.length = k := ⟨_, rfl⟩
          rw [hn2] at hob
          rw [hn2]
          have hB6' := HB5.out.trans (hB6.mono s5)
          have x6 := X.out W6 hB6'
          have s6 := hB6'.size
          have HB6 := Lib.hid (And.intro hB6' hB6)
          have HOB6 := Lib.hid hob
          clear hB6 hB6' C4 a0 a1 hww hob
          have a0 := x6.2.2.1
          have a1 := x6.2.2.2.1
          have hww := x6.2.2.2.2.1
          clear x6
          have hgw2 : gc = 0 ∨ gc = 2 := by
            rcases hgw with h | h | h
            · exact .inl h
            · exact .inr h
            · exfalso
              have h2 := HGC.out
              unfold genC at h2
              rw [if_pos HC.out] at h2
              split at h2 <;> omega
          clear hgw
          rcases hgw2 with rfl | rfl
          rotate_left
          · go_wp2_with fail
            go_ret
            exact ⟨rfl, (X.out _ HB6.out.1).2.2.2.2.2.1⟩
          · obtain ⟨hok, hin⟩ := HOK.out.1 rfl
            have hall : ∀ mm : List Int, (∀ a ∈ mm, a ∈ l ∨ a = more) → genC G r mm = 0 := fun mm hmm => genC_ok.2 ⟨hok, fun a ha => by
              have := HS.out.2.2.1
              rcases hmm a ha with h | h
              · exact hin a h
              · rw [h]; omega⟩
            have HALL := Lib.hid hall
            clear hok hin hall
            have hL1e : L1 = genF G r l := by rw [← hL1]; unfold genG; rw [if_pos HGC.out]
            have hL2e : L2 = fixF G l := by rw [← hL2]; unfold fixG; rw [if_pos HGC.out]
            have HLL := Lib.hid (And.intro hL1e (And.intro hL2e (And.intro hn1 hn2)))
            clear hL1 hL2 hL1e hL2e hn1 hn2
            obtain ⟨i0, hi, hz0, hz1, hz2⟩ := info_parts intInfo
            have HI := Lib.hid (And.intro hi (And.intro hz0 (And.intro hz1 hz2)))
            have HSL := Lib.hid HS.out.2.2.2.2.2
            have HLEN : Hid ((numsI l).length = m * 1) := Lib.hid (by have := HS.out.2.2.2.1; unfold numsI; rw [List.length_map]; omega)
            have HONE : Hid (∀ u ∈ numsI l, u.oneCell' = true) := Lib.hid fun u hu => by
              obtain ⟨a, _, rfl⟩ := List.mem_map.1 (show u ∈ l.map (Value.int .i64) from hu)
              rfl
            have HONEM : Hid (∀ u ∈ ([.int .i64 more] : List Value), u.oneCell' = true) := Lib.hid fun u hu => by rw [List.mem_singleton.1 hu]; rfl
            clear hi hz0 hz1 hz2
            have SO6 : Hid (∀ V, Below W6.heap.size W6 V → V.cell? ⟨w.heap.size, 0, none⟩ = some (.slice xg n cg) ∧ V.cell? ⟨w.heap.size, 1, none⟩ = some (.int .i64 r) ∧ w.heap.size < V.heap.size ∧ Below W6.heap.size W6 V) := Lib.hid fun V hV => by
              have x := X.out V (HB6.out.1.trans (hV.mono s6))
              exact ⟨x.2.2.1, x.2.2.2.1, x.2.2.2.2.1, hV⟩
            have HM6 := Lib.hid (World.ownsRow_lit (base := W6.heap.size) (e := 3) (size := 1) W6 #[.int .i64 more] 1 (Nat.le_refl _) (by unfold maxLen; omega) (by simp)).drew
            have HBM6 : Hid (Below W6.heap.size W6 (W6.alloc (.cells #[.int .i64 more] 3)).drew) := Lib.hid (((Below.refl _ _).alloc (Nat.le_refl _) _).drew)
            have HD6 : Hid (Below W6.heap.size W6 W6.drew) := Lib.hid (Below.refl _ _).drew
            go_wp2_with fail
            go_region_held3 (fun V => V.cell? ⟨w.heap.size, 0, none⟩ = some (.slice xg n cg) ∧ V.cell? ⟨w.heap.size, 1, none⟩ = some (.int .i64 r) ∧ w.heap.size < V.heap.size ∧ Below W6.heap.size W6 V)
              (first
                | with_reducible exact SO6.out _ hU8 | with_reducible exact SO6.out _ hB7
                | with_reducible exact SO6.out _ HD6.out | with_reducible exact SO6.out _ HBM6.out)
              (first
                | (refine step_append_sl rfl (.tmp 67) (.tmp 68) 32 rfl W6.heap.size 3 i0 _ 1 8 Tryd.underlying32 HI.out.1 HI.out.2.1 HI.out.2.2.1 HI.out.2.2.2 rfl (by decide) (.slice (some ⟨W6.heap.size, 0, none⟩) 1 1) 1 ([.int .i64 more]) rfl (by with_reducible exact HM6.out) _ (.slice xf m cf) m gs os rfl HSL.out (numsI l) HLEN.out (X.out _ (HB6.out.1.trans (HBM6.out.mono s6))).2.2.2.2.2.2.2.2 HONE.out (by unfold maxLen; omega) (by omega) (by simp <;> omega) ?_; intro v7 w7 hown7 hg7 hat7; obtain ⟨x7, c7, v7e⟩ := own_shape hown7; subst v7e; have hB7 : Below W6.heap.size W6 w7 := HBM6.out.grown hg7 (by simp <;> omega) (fun b hb => by simp only [Value.ownBlock, Option.some.injEq] at hb; omega); have hs7 := hg7.size; (try simp only [World.size_drew, World.size_alloc] at hs7); have HO7 := Lib.hid hown7; have HN7 : Hid (Nums w7 (fun b => b < w7.heap.size) (.slice x7 (1 + m) c7) (more :: l)) := Lib.hid (nums_of_list hown7 (by have := HS.out.2.2.2.1; rw [List.length_cons]; omega) rfl); clear hown7 hg7 hat7)
                | (go_at_call 15; (with_reducible refine (KG.out w7 _ (more :: l) (HB6.out.1.trans (hB7.mono s6)) HN7.out (by have := HS.out.2.2.2.1; rw [List.length_cons]; omega)).mono ?_); (rintro e8 u8 ⟨x8, d8, rfl, ho8, hB8⟩); (have hU8 : Below W6.heap.size W6 u8 := hB7.trans (hB8.mono hB7.size)); (have H8 := Lib.hid ho8); clear ho8 hB8))
            obtain ⟨W7, rfl⟩ : ∃ W, W = u8 := ⟨_, rfl⟩
            have hB7x := HB6.out.1.trans (hU8.mono s6)
            have s7 := hB7x.size
            have HB7 := Lib.hid hB7x
            have HU7 := Lib.hid hU8
            obtain ⟨L3, hL3⟩ : ∃ L, genG G r (more :: l) = L := ⟨_, rfl⟩
            rw [hL3]
            have h8 := H8.out
            rw [hL3] at h8
            obtain ⟨n3, hn3⟩ : ∃ k, L3.length = k := ⟨_, rfl⟩
            rw [hn3] at h8 ⊢
            have H8' := Lib.hid h8
            have HL3 := Lib.hid (And.intro hL3 hn3)
            clear hU8 hB7 hB7x HN7 HO7 H8 h8 hL3 hn3 a0 a1 hww
            have SO7 : Hid (∀ V, Below W7.heap.size W7 V → V.cell? ⟨w.heap.size, 0, none⟩ = some (.slice xg n cg) ∧ V.cell? ⟨w.heap.size, 1, none⟩ = some (.int .i64 r) ∧ w.heap.size < V.heap.size ∧ Below W7.heap.size W7 V) := Lib.hid fun V hV => by
              have x := X.out V (HB7.out.trans (hV.mono s7))
              exact ⟨x.2.2.1, x.2.2.2.1, x.2.2.2.2.1, hV⟩
            have HA7 := Lib.hid (own_lit0 W7 3 1).drew
            have HE7 := Lib.hid ((own_lit0 W7 3 1).alloc (.cells #[.int .i64 more] 3)).drew
            have HC7 : Hid ((((W7.alloc (.cells #[.int .i64 more] 3)).alloc (.cells #[] 3)).drew).ownsRow (W7.heap.size + 1) 3 1 (.slice (some ⟨W7.heap.size + 1, 0, none⟩) 0 0) 0 []) := Lib.hid (by
              have h := (own_lit0 (W7.alloc (.cells #[.int .i64 more] 3)) 3 1).drew
              simpa using h)
            have HDD7 : Hid (Below W7.heap.size W7 W7.drew) := Lib.hid (Below.refl _ _).drew
            have HBD7 : Hid (Below W7.heap.size W7 (W7.alloc (.cells #[.int .i64 more] 3)).drew) := Lib.hid (((Below.refl _ _).alloc (Nat.le_refl _) _).drew)
            have HBA7 : Hid (Below W7.heap.size W7 (W7.alloc (.cells #[] 3)).drew) := Lib.hid (((Below.refl _ _).alloc (Nat.le_refl _) _).drew)
            have HBB7 : Hid (Below W7.heap.size W7 ((W7.alloc (.cells #[] 3)).alloc (.cells #[.int .i64 more] 3)).drew) := Lib.hid ((((Below.refl _ _).alloc (Nat.le_refl _) _).alloc (by simp) _).drew)
            have HBC7 : Hid (Below W7.heap.size W7 ((W7.alloc (.cells #[.int .i64 more] 3)).alloc (.cells #[] 3)).drew) := Lib.hid ((((Below.refl _ _).alloc (Nat.le_refl _) _).alloc (by simp) _).drew)
            have so7 := SO7.out W7 (Below.refl _ _)
            go_wp2_with fail
            clear so7
            go_region_held3 (fun V => V.cell? ⟨w.heap.size, 0, none⟩ = some (.slice xg n cg) ∧ V.cell? ⟨w.heap.size, 1, none⟩ = some (.int .i64 r) ∧ w.heap.size < V.heap.size ∧ Below W7.heap.size W7 V)
              (first
                | with_reducible exact SO7.out _ hU11 | with_reducible exact SO7.out _ hB10 | with_reducible exact SO7.out _ hB9 | with_reducible exact SO7.out _ (hB9.alloc HS9.out _)
                | with_reducible exact SO7.out _ HDD7.out | with_reducible exact SO7.out _ HBA7.out | with_reducible exact SO7.out _ HBB7.out | with_reducible exact SO7.out _ HBC7.out | with_reducible exact SO7.out _ HBD7.out)
              (first
                | (refine step_append_sl rfl (.tmp 75) (.tmp 76) 32 rfl W7.heap.size 3 i0 _ 1 8 Tryd.underlying32 HI.out.1 HI.out.2.1 HI.out.2.2.1 HI.out.2.2.2 rfl (by decide) (.slice (some ⟨W7.heap.size, 0, none⟩) 0 0) 0 ([]) rfl (by with_reducible exact HA7.out) _ (.slice xf m cf) m gs os rfl HSL.out (numsI l) HLEN.out ((X.out _ (HB7.out.trans (HBA7.out.mono s7))).2.2.2.2.2.2.2.2) HONE.out (by unfold maxLen; omega) (by omega) (by first | omega | (simp <;> omega)) ?_; intro v9 w9 hown9 hg9 hat9; rw [List.nil_append, Nat.zero_add] at hown9; obtain ⟨x9, c9, v9e⟩ := own_shape hown9; subst v9e; have hB9 : Below W7.heap.size W7 w9 := HBA7.out.grown hg9 (by first | omega | (simp <;> omega)) (fun b hb => by simp only [Value.ownBlock, Option.some.injEq] at hb; omega); have hs9 := hg9.size; (try simp only [World.size_drew, World.size_alloc] at hs9); have HS9 : Hid (W7.heap.size ≤ w9.heap.size) := Lib.hid hB9.size; have HO9 := Lib.hid hown9; have HOA9 := Lib.hid (hown9.alloc (.cells #[.int .i64 more] 3)); have HBA9 : Hid (Below W7.heap.size W7 (w9.alloc (.cells #[.int .i64 more] 3))) := Lib.hid (hB9.alloc HS9.out _); have HNA9 := Lib.hid (lit_cells (heap_last (w := w9) (o := .cells #[.int .i64 more] 3) rfl)); clear hown9 hat9 hg9)
                | (refine step_append_sl rfl (.tmp 75) (.tmp 76) 32 rfl W7.heap.size 3 i0 _ 1 8 Tryd.underlying32 HI.out.1 HI.out.2.1 HI.out.2.2.1 HI.out.2.2.2 rfl (by decide) (.slice (some ⟨W7.heap.size, 0, none⟩) 0 0) 0 ([]) rfl (by with_reducible exact HE7.out) _ (.slice xf m cf) m gs os rfl HSL.out (numsI l) HLEN.out ((X.out _ (HB7.out.trans (HBB7.out.mono s7))).2.2.2.2.2.2.2.2) HONE.out (by unfold maxLen; omega) (by omega) (by first | omega | (simp <;> omega)) ?_; intro v9 w9 hown9 hg9 hat9; rw [List.nil_append, Nat.zero_add] at hown9; obtain ⟨x9, c9, v9e⟩ := own_shape hown9; subst v9e; have hB9 : Below W7.heap.size W7 w9 := HBB7.out.grown hg9 (by first | omega | (simp <;> omega)) (fun b hb => by simp only [Value.ownBlock, Option.some.injEq] at hb; omega); have hs9 := hg9.size; (try simp only [World.size_drew, World.size_alloc] at hs9); have HS9 : Hid (W7.heap.size ≤ w9.heap.size) := Lib.hid hB9.size; have HO9 := Lib.hid hown9; have HBB9 : Hid (Below W7.heap.size W7 w9) := Lib.hid hB9; have HNB9 := Lib.hid (lit_cells ((hg9.block (W7.heap.size + 1) (by simp <;> omega) (fun h => by simp only [Value.ownBlock, Option.some.injEq] at h <;> omega)).trans (heap_last (by simp)))); clear hown9 hat9 hg9)
                | (refine step_append_sl rfl (.tmp 75) (.tmp 76) 32 rfl (W7.heap.size + 1) 3 i0 _ 1 8 Tryd.underlying32 HI.out.1 HI.out.2.1 HI.out.2.2.1 HI.out.2.2.2 rfl (by decide) (.slice (some ⟨W7.heap.size + 1, 0, none⟩) 0 0) 0 ([]) rfl (by with_reducible exact HC7.out) _ (.slice xf m cf) m gs os rfl HSL.out (numsI l) HLEN.out ((X.out _ (HB7.out.trans (HBC7.out.mono s7))).2.2.2.2.2.2.2.2) HONE.out (by unfold maxLen; omega) (by omega) (by first | omega | (simp <;> omega)) ?_; intro v9 w9 hown9 hg9 hat9; rw [List.nil_append, Nat.zero_add] at hown9; obtain ⟨x9, c9, v9e⟩ := own_shape hown9; subst v9e; have hB9 : Below W7.heap.size W7 w9 := HBC7.out.grown hg9 (by first | omega | (simp <;> omega)) (fun b hb => by simp only [Value.ownBlock, Option.some.injEq] at hb; omega); have hs9 := hg9.size; (try simp only [World.size_drew, World.size_alloc] at hs9); have HS9 : Hid (W7.heap.size ≤ w9.heap.size) := Lib.hid hB9.size; have HO9 := Lib.hid hown9; have HBB9 : Hid (Below W7.heap.size W7 w9) := Lib.hid hB9; have HNC9 := Lib.hid (lit_cells ((hg9.block (W7.heap.size) (by simp <;> omega) (fun h => by simp only [Value.ownBlock, Option.some.injEq] at h <;> omega)).trans ((heap_old (by simp)).trans (heap_last rfl)))); clear hown9 hat9 hg9)
                | (refine step_append_sl rfl (.tmp 77) (.tmp 79) 32 rfl W7.heap.size 3 i0 _ 1 8 Tryd.underlying32 HI.out.1 HI.out.2.1 HI.out.2.2.1 HI.out.2.2.2 rfl (by decide) (.slice x9 m c9) m (numsI l) rfl (by with_reducible exact HOA9.out) (fun _ => True) (.slice (some ⟨w9.heap.size, 0, none⟩) 1 1) 1 w9.heap.size 0 rfl (.inr ⟨1, rfl, Nat.le_refl _, by decide, trivial⟩) ([.int .i64 more]) rfl HNA9.out HONEM.out (by unfold maxLen; omega) (by omega) (by first | omega | (simp <;> omega)) ?_; intro v10 w10 hown10 hg10 hat10;  obtain ⟨x10, c10, v10e⟩ := own_shape hown10; subst v10e; have hB10 : Below W7.heap.size W7 w10 := HBA9.out.grown hg10 (by first | omega | (simp <;> omega)) (fun b hb => by have h := HOA9.out.lt b hb; omega); have hs10 := hg10.size; (try simp only [World.size_drew, World.size_alloc] at hs10); have HS10 : Hid (W7.heap.size ≤ w10.heap.size) := Lib.hid hB10.size; have HO10 := Lib.hid hown10; have HN10 : Hid (Nums w10 (fun b => b < w10.heap.size) (.slice x10 (m + 1) c10) (l ++ [more])) := Lib.hid (nums_of_list hown10 (by have := HS.out.2.2.2.1; rw [List.length_append]; simp; omega) (numsI_append _ _)); clear hown10 hat10 hg10)
                | (refine step_append_sl rfl (.tmp 77) (.tmp 79) 32 rfl W7.heap.size 3 i0 _ 1 8 Tryd.underlying32 HI.out.1 HI.out.2.1 HI.out.2.2.1 HI.out.2.2.2 rfl (by decide) (.slice x9 m c9) m (numsI l) rfl (by with_reducible exact HO9.out) (fun _ => True) (.slice (some ⟨(W7.heap.size + 1), 0, none⟩) 1 1) 1 (W7.heap.size + 1) 0 rfl (.inr ⟨1, rfl, Nat.le_refl _, by decide, trivial⟩) ([.int .i64 more]) rfl HNB9.out HONEM.out (by unfold maxLen; omega) (by omega) (by first | omega | (simp <;> omega)) ?_; intro v10 w10 hown10 hg10 hat10;  obtain ⟨x10, c10, v10e⟩ := own_shape hown10; subst v10e; have hB10 : Below W7.heap.size W7 w10 := HBB9.out.grown hg10 (by first | omega | (simp <;> omega)) (fun b hb => by have h := HO9.out.lt b hb; omega); have hs10 := hg10.size; (try simp only [World.size_drew, World.size_alloc] at hs10); have HS10 : Hid (W7.heap.size ≤ w10.heap.size) := Lib.hid hB10.size; have HO10 := Lib.hid hown10; have HN10 : Hid (Nums w10 (fun b => b < w10.heap.size) (.slice x10 (m + 1) c10) (l ++ [more])) := Lib.hid (nums_of_list hown10 (by have := HS.out.2.2.2.1; rw [List.length_append]; simp; omega) (numsI_append _ _)); clear hown10 hat10 hg10)
                | (refine step_append_sl rfl (.tmp 77) (.tmp 79) 32 rfl (W7.heap.size + 1) 3 i0 _ 1 8 Tryd.underlying32 HI.out.1 HI.out.2.1 HI.out.2.2.1 HI.out.2.2.2 rfl (by decide) (.slice x9 m c9) m (numsI l) rfl (by with_reducible exact HO9.out) (fun _ => True) (.slice (some ⟨W7.heap.size, 0, none⟩) 1 1) 1 W7.heap.size 0 rfl (.inr ⟨1, rfl, Nat.le_refl _, by decide, trivial⟩) ([.int .i64 more]) rfl HNC9.out HONEM.out (by unfold maxLen; omega) (by omega) (by first | omega | (simp <;> omega)) ?_; intro v10 w10 hown10 hg10 hat10;  obtain ⟨x10, c10, v10e⟩ := own_shape hown10; subst v10e; have hB10 : Below W7.heap.size W7 w10 := HBB9.out.grown hg10 (by first | omega | (simp <;> omega)) (fun b hb => by have h := HO9.out.lt b hb; omega); have hs10 := hg10.size; (try simp only [World.size_drew, World.size_alloc] at hs10); have HS10 : Hid (W7.heap.size ≤ w10.heap.size) := Lib.hid hB10.size; have HO10 := Lib.hid hown10; have HN10 : Hid (Nums w10 (fun b => b < w10.heap.size) (.slice x10 (m + 1) c10) (l ++ [more])) := Lib.hid (nums_of_list hown10 (by have := HS.out.2.2.2.1; rw [List.length_append]; simp; omega) (numsI_append _ _)); clear hown10 hat10 hg10)
                | (go_at_call 16; (with_reducible refine (KF.out w10 _ (l ++ [more]) (HB7.out.trans (hB10.mono s7)) HN10.out (by have := HS.out.2.2.2.1; rw [List.length_append, List.length_singleton]; omega)).mono ?_); (rintro e11 u11 ⟨x11, d11, rfl, ho11, hB11⟩); (have hU11 : Below W7.heap.size W7 u11 := hB10.trans (hB11.mono hB10.size)); (have H11 := Lib.hid ho11); clear ho11 hB11))
            all_goals
              obtain ⟨W8, rfl⟩ : ∃ W, W = u11 := ⟨_, rfl⟩
              have hB8x := HB7.out.trans (hU11.mono s7)
              have s8 := hB8x.size
              have HB8 := Lib.hid hB8x
              have HU8 := Lib.hid hU11
              obtain ⟨L4, hL4⟩ : ∃ L, fixG G r (l ++ [more]) = L := ⟨_, rfl⟩
              rw [hL4]
              have h11 := H11.out
              rw [hL4] at h11
              obtain ⟨n4, hn4⟩ : ∃ k, L4.length = k := ⟨_, rfl⟩
              rw [hn4] at h11 ⊢
              have H11' := Lib.hid h11
              have HL4 := Lib.hid (And.intro hL4 hn4)
              have hHB10 := hB10.size
              clear hU11 hB10 hB9 hB8x h11 hL4 hn4
              have SO8 : Hid (∀ V, Below W8.heap.size W8 V → V.cell? ⟨w.heap.size, 0, none⟩ = some (.slice xg n cg) ∧ V.cell? ⟨w.heap.size, 1, none⟩ = some (.int .i64 r) ∧ w.heap.size < V.heap.size ∧ Below W8.heap.size W8 V) := Lib.hid fun V hV => by
                have x := X.out V (HB8.out.trans (hV.mono s8))
                exact ⟨x.2.2.1, x.2.2.2.1, x.2.2.2.2.1, hV⟩
              have HA8 := Lib.hid (own_lit0 W8 3 1).drew
              have HDD8 : Hid (Below W8.heap.size W8 W8.drew) := Lib.hid (Below.refl _ _).drew
              have HBA8 : Hid (Below W8.heap.size W8 (W8.alloc (.cells #[] 3)).drew) := Lib.hid (((Below.refl _ _).alloc (Nat.le_refl _) _).drew)
              have so8 := SO8.out W8 (Below.refl _ _)
              go_wp2_with fail
              clear so8
              go_region_held3 (fun V => V.cell? ⟨w.heap.size, 0, none⟩ = some (.slice xg n cg) ∧ V.cell? ⟨w.heap.size, 1, none⟩ = some (.int .i64 r) ∧ w.heap.size < V.heap.size ∧ Below W8.heap.size W8 V)
                (first
                  | with_reducible exact SO8.out _ hU15 | with_reducible exact SO8.out _ hB14 | with_reducible exact SO8.out _ hB13
                  | with_reducible exact SO8.out _ HDD8.out | with_reducible exact SO8.out _ HBA8.out)
                (first
                  | (refine step_append_sl rfl (.tmp 86) (.tmp 87) 32 rfl W8.heap.size 3 i0 _ 1 8 Tryd.underlying32 HI.out.1 HI.out.2.1 HI.out.2.2.1 HI.out.2.2.2 rfl (by decide) (.slice (some ⟨W8.heap.size, 0, none⟩) 0 0) 0 ([]) rfl (by with_reducible exact HA8.out) _ (.slice xf m cf) m gs os rfl HSL.out (numsI l) HLEN.out ((X.out _ (HB8.out.trans (HBA8.out.mono s8))).2.2.2.2.2.2.2.2) HONE.out (by unfold maxLen; omega) (by omega) (by first | omega | (simp <;> omega)) ?_; intro v13 w13 hown13 hg13 hat13; rw [List.nil_append, Nat.zero_add] at hown13; obtain ⟨x13, c13, v13e⟩ := own_shape hown13; subst v13e; have hB13 : Below W8.heap.size W8 w13 := HBA8.out.grown hg13 (by first | omega | (simp <;> omega)) (fun b hb => by simp only [Value.ownBlock, Option.some.injEq] at hb; omega); have hs13 := hg13.size; (try simp only [World.size_drew, World.size_alloc] at hs13); have HS13 : Hid (W8.heap.size ≤ w13.heap.size) := Lib.hid hB13.size; have HO13 := Lib.hid hown13; have HBB13 : Hid (Below W8.heap.size W8 w13) := Lib.hid hB13; clear hown13 hat13 hg13)
                  | (refine step_append_sl rfl (.tmp 88) (.tmp 89) 32 rfl W8.heap.size 3 i0 _ 1 8 Tryd.underlying32 HI.out.1 HI.out.2.1 HI.out.2.2.1 HI.out.2.2.2 rfl (by decide) (.slice x13 m c13) m (numsI l) rfl (by with_reducible exact HO13.out) _ (.slice xf m cf) m gs os rfl HSL.out (numsI l) HLEN.out ((X.out _ (HB8.out.trans (HBB13.out.mono s8))).2.2.2.2.2.2.2.2) HONE.out (by unfold maxLen; omega) (by omega) (by first | omega | (simp <;> omega)) ?_; intro v14 w14 hown14 hg14 hat14;  obtain ⟨x14, c14, v14e⟩ := own_shape hown14; subst v14e; have hB14 : Below W8.heap.size W8 w14 := HBB13.out.grown hg14 (by first | omega | (simp <;> omega)) (fun b hb => by have h := HO13.out.lt b hb; omega); have hs14 := hg14.size; (try simp only [World.size_drew, World.size_alloc] at hs14); have HS14 : Hid (W8.heap.size ≤ w14.heap.size) := Lib.hid hB14.size; have HO14 := Lib.hid hown14; have HN14 : Hid (Nums w14 (fun b => b < w14.heap.size) (.slice x14 (m + m) c14) (l ++ l)) := Lib.hid (nums_of_list hown14 (by have := HS.out.2.2.2.1; rw [List.length_append]; omega) (numsI_append _ _)); clear hown14 hat14 hg14)
                  | (go_at_call 16; (with_reducible refine (KF.out w14 _ (l ++ l) (HB8.out.trans (hB14.mono s8)) HN14.out (by have := HS.out.2.2.2.1; rw [List.length_append]; omega)).mono ?_); (rintro e15 u15 ⟨x15, d15, rfl, ho15, hB15⟩); (have hU15 : Below W8.heap.size W8 u15 := hB14.trans (hB15.mono hB14.size)); (have H15 := Lib.hid ho15); clear ho15 hB15))
              obtain ⟨W9, rfl⟩ : ∃ W, W = u15 := ⟨_, rfl⟩
              obtain ⟨L5, hL5⟩ : ∃ L, fixG G r (l ++ l) = L := ⟨_, rfl⟩
              rw [hL5]
              have h15 := H15.out
              rw [hL5] at h15
              obtain ⟨n5, hn5⟩ : ∃ k, L5.length = k := ⟨_, rfl⟩
              rw [hn5] at h15 ⊢
              have hlg : G.length ≤ 2000 := by have := HS.out.2.2.1; omega
              have e1 : L1 = genF G r l := HLL.out.1
              have e2 : L2 = fixF G l := HLL.out.2.1
              have e3 : L3 = genF G r (more :: l) := by rw [← HL3.out.1]; unfold genG; rw [if_pos (HALL.out _ fun a ha => by rcases List.mem_cons.1 ha with h | h <;> simp [h])]
              have e4 : L4 = fixF G (l ++ [more]) := by rw [← HL4.out.1]; unfold fixG; rw [if_pos (HALL.out _ fun a ha => by rcases List.mem_append.1 ha with h | h <;> first | exact .inl h | exact .inr (List.mem_singleton.1 h))]
              have e5 : L5 = L2 := by rw [← hL5, e2]; unfold fixG; rw [if_pos (HALL.out _ fun a ha => by rcases List.mem_append.1 ha with h | h <;> exact .inl h)]; exact fixF_same (fun a ha => (List.mem_append.1 ha).elim id id) (fun a ha => List.mem_append.2 (.inl ha))
              have hsub1 : ∀ a ∈ L3, a ∈ L1 := by rw [e1, e3]; exact genF_more fun a ha => List.mem_cons_of_mem _ ha
              have hsub2 : ∀ a ∈ L2, a ∈ L4 := by rw [e2, e4]; exact fixF_more fun a ha => List.mem_append.2 (.inl ha)
              have hs1 : L1.length ≤ 1000000 ∧ ∀ a ∈ L1, a ≤ 1000000 := by
                rw [e1]; unfold genF
                obtain ⟨h1, h2⟩ := free_small (f := fun i => rchB (argsOf G) [r.toNat] i && !rchB (argsOf G) (l.map Int.toNat) i) hlg
                exact ⟨by omega, fun a ha => by have := h2 a ha; omega⟩
              have hs4 : L4.length ≤ 1000000 ∧ ∀ a ∈ L4, a ≤ 1000000 := by
                rw [e4]; unfold fixF
                obtain ⟨h1, h2⟩ := free_small (f := rchB (argsOf G) ((l ++ [more]).map Int.toNat)) hlg
                exact ⟨by omega, fun a ha => by have := h2 a ha; omega⟩
              have k8 : ∀ b, b < W8.heap.size → W9.heap[b]? = W8.heap[b]? := fun b hb => hU15.block b hb
              have k7 : ∀ b, b < W7.heap.size → W9.heap[b]? = W7.heap[b]? := fun b hb => (k8 b (by have := HU8.out.size; omega)).trans (HU8.out.block b hb)
              have k6 : ∀ b, b < W6.heap.size → W9.heap[b]? = W6.heap[b]? := fun b hb => (k7 b (by have := HU7.out.size; omega)).trans (HU7.out.block b hb)
              have k5 : ∀ b, b < W5.heap.size → W9.heap[b]? = W5.heap[b]? := fun b hb => (k6 b (by have := HB6.out.2.size; omega)).trans (HB6.out.2.block b hb)
              have Na := nums_of_nat (own_same (W' := W9) HOA5.out fun q hq => k5 q (HOA5.out.lt q hq).2) HLL.out.2.2.1
              have Nb := nums_of_nat (own_same (W' := W9) HOB6.out fun q hq => k6 q (HOB6.out.lt q hq).2) HLL.out.2.2.2
              have Nc := nums_of_nat (own_same (W' := W9) H8'.out fun q hq => k7 q (H8'.out.lt q hq).2) HL3.out.2
              have Nd := nums_of_nat (own_same (W' := W9) H11'.out fun q hq => k8 q (H11'.out.lt q hq).2) HL4.out.2
              have Nt := nums_of_nat h15 hn5
              have hB9x := HB8.out.trans (hU15.mono s8)
              have HB9 := Lib.hid (X.out W9 hB9x).2.2.2.2.2.1
              have CW1 := Lib.hid (within_any (fun b => b < W9.heap.size) _ _ L3 L1 W9 Nc Na (fun _ h => h) hsub1 hs1.2 hs1.1)
              have CW2 : Hid (∀ V, Below W9.heap.size W9 V → Calls Tryd.prog 17 #[.slice xb n2 db, .slice x11 n4 d11] V fun e w' => e = .returned (.bool true) ∧ Below V.heap.size V w') := Lib.hid fun V hV =>
                within_any (fun b => b < W9.heap.size) _ _ L2 L4 V (Nb.carry (keeps_of hV fun _ h => h) fun _ h => h) (Nd.carry (keeps_of hV fun _ h => h) fun _ h => h) (fun b hb => Nat.lt_of_lt_of_le hb hV.size) hsub2 hs4.2 hs4.1
              have CI : Hid (∀ V, Below W9.heap.size W9 V → Calls Tryd.prog 18 #[.slice x15 n5 d15, .slice xb n2 db] V fun e w' => e = .returned (.bool true) ∧ Below V.heap.size V w') := Lib.hid fun V hV =>
                ints_yes (fun b => b < W9.heap.size) (fun b => b < W9.heap.size) _ _ (L2.map fun i : Nat => (i : Int)) V (by rw [e5] at Nt; exact Nt.carry (keeps_of hV fun _ h => h) fun _ h => h) (Nb.carry (keeps_of hV fun _ h => h) fun _ h => h) (fun b hb => Nat.lt_of_lt_of_le hb hV.size) (fun b hb => Nat.lt_of_lt_of_le hb hV.size)
              clear hL5 h15 hn5 hlg e1 e2 e3 e4 e5 hsub1 hsub2 hs1 hs4 k8 k7 k6 k5 Na Nb Nc Nd Nt hB9x hU15 hB14 hB13 H15
              go_wp2_with fail
              refine CW1.out.mono ?_
              rintro e20 W10 ⟨rfl, hB10'⟩
              have HB10 := Lib.hid hB10'
              clear hB10' CW1
              go_wp2_with fail
              refine (CW2.out W10 HB10.out).mono ?_
              rintro e21 W11 ⟨rfl, hB11'⟩
              have HB11 := Lib.hid (HB10.out.trans (hB11'.mono HB10.out.size))
              clear hB11' CW2
              go_wp2_with fail
              refine (CI.out W11 HB11.out).mono ?_
              rintro e22 W12 ⟨rfl, hB12'⟩
              have HB12 := Lib.hid (HB9.out.trans ((HB11.out.trans (hB12'.mono HB11.out.size)).mono HB9.out.size))
              clear hB12' CI
              go_wp2_with fail
              go_ret
              exact ⟨rfl, HB12.out⟩
end Go.Proofs.YtkbmkmpoapafaaaDoor
