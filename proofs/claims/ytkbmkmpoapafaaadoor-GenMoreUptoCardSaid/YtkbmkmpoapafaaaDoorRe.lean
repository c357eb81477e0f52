/- trefoilref06's Labels, Ints, Alike and Equal, at what is the same. -/
import Derived.Test.YtkbmkmpoapafaaaDoorGk
import Derived.BigRegion
namespace Go.Proofs.YtkbmkmpoapafaaaDoor
open Go.ChangeShapes Go.WideShapes Go.ChangeAt Go.RowKit

set_option linter.unusedSimpArgs false in
set_option maxHeartbeats 1000000 in
set_option maxRecDepth 100000 in
theorem labels_yes (S S' : Nat → Prop) (v u : Value) (l : List ByteArray) (w : World) (hv : Strs w S v l) (hu : Strs w S' u l) (hS : ∀ b, S b → b < w.heap.size) (hS' : ∀ b, S' b → b < w.heap.size) :
    Calls Tryd.prog 46 #[v, u] w fun e w' => e = .returned (.bool true) ∧ Below w.heap.size w w' := by
  obtain ⟨x, c, g, o, rfl, hx, hl⟩ := hv.open_
  obtain ⟨x', c', g', o', rfl, hx', hl'⟩ := hu.open_
  obtain ⟨n, hn⟩ : ∃ n, l.length = n := ⟨_, rfl⟩
  have H := Lib.hid (And.intro hn (And.intro hx (And.intro hl (And.intro hx' (And.intro hl' (And.intro hS hS'))))))
  have hn2 : n ≤ 9223372036854775807 := by have := hv.len; unfold maxLen at this; omega
  rw [hn]
  clear hv hu hx hl hx' hl' hS hS' hn
  go_enter Tryd.func46, Tryd.ntmps46
  go_wp2_with fail
  go_loopg [13] n (fun gk i wr => ∃ j : Nat, gk = n - j ∧ i = .int .i64 (j : Int) ∧ j ≤ n ∧ Below w.heap.size w wr)
  case atStart => exact ⟨0, by simp, by first | rfl | simp, Nat.zero_le _, Below.refl _ _⟩
  case round =>
    obtain ⟨j, rfl, rfl, hj, hB⟩ := hrel
    have sr := hB.size
    by_cases hlt : j < n
    · have hi' : (j : Int) < (n : Int) := by omega
      obtain ⟨hn, hx, hl, hx', hl', hS, hS'⟩ := H.out
      obtain ⟨rfl, h1, h2, h3⟩ := hx (by omega)
      obtain ⟨rfl, h1', h2', h3'⟩ := hx' (by omega)
      have k := hS g h3
      have k' := hS' g' h3'
      have e1 := (World.cell?_of_block (a := ⟨g, o + j, none⟩) (hB.block g k)).trans (hl j (by omega))
      have e2 := (World.cell?_of_block (a := ⟨g', o' + j, none⟩) (hB.block g' k')).trans (hl' j (by omega))
      obtain ⟨t, ht⟩ : ∃ t, l[j] = t := ⟨_, rfl⟩
      rw [ht] at e1 e2
      have z : (t.toList != t.toList) = false := by simp
      have k1 : g < wr.heap.size := by omega
      have k2 : g' < wr.heap.size := by omega
      rw [hn] at h1 h1'
      unfold maxLen at h2 h2'
      have HB := Lib.hid hB
      clear hB hn hx hl hx' hl' hS hS' h3 h3' k k' ht
      go_wp2_with fail
      go_region
      go_wp2_with fail
      go_roundg (n - (j + 1))
      case measure => omega
      case rel => exact ⟨j + 1, rfl, by first | rfl | simp, hlt, HB.out.drew⟩
    · have hi' : ¬ (j : Int) < (n : Int) := by omega
      have HB := Lib.hid hB
      clear hB
      go_wp2_with fail
      go_ret
      exact ⟨rfl, HB.out⟩

set_option linter.unusedSimpArgs false in
set_option maxHeartbeats 1000000 in
set_option maxRecDepth 100000 in
theorem ints_yes (S S' : Nat → Prop) (v u : Value) (l : List Int) (w : World) (hv : Nums w S v l) (hu : Nums w S' u l) (hS : ∀ b, S b → b < w.heap.size) (hS' : ∀ b, S' b → b < w.heap.size) :
    Calls Tryd.prog 18 #[v, u] w fun e w' => e = .returned (.bool true) ∧ Below w.heap.size w w' := by
  obtain ⟨x, c, g, o, rfl, hx, hl⟩ := hv.open_
  obtain ⟨x', c', g', o', rfl, hx', hl'⟩ := hu.open_
  obtain ⟨n, hn⟩ : ∃ n, l.length = n := ⟨_, rfl⟩
  have H := Lib.hid (And.intro hn (And.intro hx (And.intro hl (And.intro hx' (And.intro hl' (And.intro hS hS'))))))
  have hn2 : n ≤ 9223372036854775807 := by have := hv.len; unfold maxLen at this; omega
  rw [hn]
  clear hv hu hx hl hx' hl' hS hS' hn
  go_enter Tryd.func18, Tryd.ntmps18
  go_wp2_with fail
  go_loopg [13] n (fun gk i wr => ∃ j : Nat, gk = n - j ∧ i = .int .i64 (j : Int) ∧ j ≤ n ∧ Below w.heap.size w wr)
  case atStart => exact ⟨0, by simp, by first | rfl | simp, Nat.zero_le _, Below.refl _ _⟩
  case round =>
    obtain ⟨j, rfl, rfl, hj, hB⟩ := hrel
    have sr := hB.size
    by_cases hlt : j < n
    · have hi' : (j : Int) < (n : Int) := by omega
      obtain ⟨hn, hx, hl, hx', hl', hS, hS'⟩ := H.out
      obtain ⟨rfl, h1, h2, h3⟩ := hx (by omega)
      obtain ⟨rfl, h1', h2', h3'⟩ := hx' (by omega)
      have k := hS g h3
      have k' := hS' g' h3'
      have e1 := (World.cell?_of_block (a := ⟨g, o + j, none⟩) (hB.block g k)).trans (hl j (by omega))
      have e2 := (World.cell?_of_block (a := ⟨g', o' + j, none⟩) (hB.block g' k')).trans (hl' j (by omega))
      obtain ⟨t, ht⟩ : ∃ t, l[j] = t := ⟨_, rfl⟩
      rw [ht] at e1 e2
      have z : (t != t) = false := by simp
      have k1 : g < wr.heap.size := by omega
      have k2 : g' < wr.heap.size := by omega
      rw [hn] at h1 h1'
      unfold maxLen at h2 h2'
      have HB := Lib.hid hB
      clear hB hn hx hl hx' hl' hS hS' h3 h3' k k' ht
      go_wp2_with fail
      go_region
      go_wp2_with fail
      go_roundg (n - (j + 1))
      case measure => omega
      case rel => exact ⟨j + 1, rfl, by first | rfl | simp, hlt, HB.out.drew⟩
    · have hi' : ¬ (j : Int) < (n : Int) := by omega
      have HB := Lib.hid hB
      clear hB
      go_wp2_with fail
      go_ret
      exact ⟨rfl, HB.out⟩



/-- Two nodes that are the same. -/
def ndV (x : GN) (va vl : Value) : Value := .agg #[.int .i64 x.k, .string x.nm, va, vl, .bool x.op]
set_option linter.unusedSimpArgs false in
set_option maxHeartbeats 1000000 in
set_option maxRecDepth 100000 in
theorem alike_yes (S S' : Nat → Prop) (k : Int) (nm : ByteArray) (op : Bool) (va vl va' vl' : Value) (al : List Int) (ls : List ByteArray) (w : World) (ha : Nums w S va al) (ha' : Nums w S' va' al) (hl : Strs w S vl ls) (hl' : Strs w S' vl' ls) (hS : ∀ b, S b → b < w.heap.size) (hS' : ∀ b, S' b → b < w.heap.size) :
    Calls Tryd.prog 31 #[.agg #[.int .i64 k, .string nm, va, vl, .bool op], .agg #[.int .i64 k, .string nm, va', vl', .bool op]] w fun e w' => e = .returned (.bool true) ∧ Below w.heap.size w w' := by
  have B2 : Below w.heap.size w ((w.alloc (.cells #[.int .i64 k, .string nm, va, vl, .bool op] 37)).alloc (.cells #[.int .i64 k, .string nm, va', vl', .bool op] 37)) := ((Below.refl _ _).alloc (Nat.le_refl _) _).alloc (by simp) _
  obtain ⟨V, hV⟩ : ∃ V, (w.alloc (.cells #[.int .i64 k, .string nm, va, vl, .bool op] 37)).alloc (.cells #[.int .i64 k, .string nm, va', vl', .bool op] 37) = V := ⟨_, rfl⟩
  rw [hV] at B2
  have s2 := B2.size
  have CL := Lib.hid (labels_yes S S' vl vl' ls V (hl.carry (keeps_of B2 hS) fun _ h => h) (hl'.carry (keeps_of B2 hS') fun _ h => h) (fun b hb => by have := hS b hb; omega) (fun b hb => by have := hS' b hb; omega))
  obtain ⟨xa, ca, ga, oa, rfl, _, _⟩ := ha.open_
  obtain ⟨ya, da, ga', oa', rfl, _, _⟩ := ha'.open_
  obtain ⟨xl, cl, gl, ol, rfl, _, _⟩ := hl.open_
  obtain ⟨yl, dl, gl', ol', rfl, _, _⟩ := hl'.open_
  obtain ⟨na, hna⟩ : ∃ n, al.length = n := ⟨_, rfl⟩
  obtain ⟨nl, hnl⟩ : ∃ n, ls.length = n := ⟨_, rfl⟩
  rw [hna] at hV ⊢
  rw [hnl] at CL hV ⊢
  have HV := Lib.hid hV
  have HB2 := Lib.hid B2
  have z : (nm.toList == nm.toList) = true := by simp
  have f1 : V.heap[w.heap.size]? = some (.cells #[.int .i64 k, .string nm, .slice xa na ca, .slice xl nl cl, .bool op] 37) := by rw [← hV, heap_old (by simp)]; exact heap_last rfl
  have f2 : V.heap[w.heap.size + 1]? = some (.cells #[.int .i64 k, .string nm, .slice ya na da, .slice yl nl dl, .bool op] 37) := by rw [← hV]; exact heap_last (by simp)
  clear ha ha' hl hl' hS hS' B2 hna hnl hV s2
  go_enter Tryd.func31, Tryd.ntmps31
  clear f1 f2
  go_wp2_with fail
  rw [HV.out]
  refine CL.out.mono ?_
  rintro e1 W1 ⟨rfl, hB1⟩
  have HB1 := Lib.hid (HB2.out.trans (hB1.mono HB2.out.size))
  clear hB1 CL HV
  go_wp2_with fail
  go_ret
  exact ⟨rfl, HB1.out⟩

set_option linter.unusedSimpArgs false in
set_option maxHeartbeats 4000000 in
set_option maxRecDepth 100000 in
theorem equal_yes (S S' : Nat → Prop) (vg vh : Value) (r : Int) (G : List GN) (w : World) (hG : GrAt w S vg G) (hH : GrAt w S' vh G) (hS : ∀ b, S b → b < w.heap.size) (hS' : ∀ b, S' b → b < w.heap.size) :
    Calls Tryd.prog 13 #[.agg #[vg, .int .i64 r], .agg #[vh, .int .i64 r]] w fun e w' => e = .returned (.bool true) ∧ Below w.heap.size w w' := by
  have hlen := hG.len
  obtain ⟨xg, cg, gg, og, rfl, hxg, hng⟩ := hG.open_
  obtain ⟨xh, ch, gh, oh, rfl, hxh, hnh⟩ := hH.open_
  obtain ⟨n, hn⟩ : ∃ n, G.length = n := ⟨_, rfl⟩
  have hn2 : n ≤ 9223372036854775807 := by unfold maxLen at hlen; omega
  rw [hn] at hxg hxh ⊢
  obtain ⟨V, hV⟩ : ∃ V, (w.alloc (.cells #[.slice xg n cg, .int .i64 r] 24)).alloc (.cells #[.slice xh n ch, .int .i64 r] 24) = V := ⟨_, rfl⟩
  have B2 : Below w.heap.size w V := by rw [← hV]; exact ((Below.refl _ _).alloc (Nat.le_refl _) _).alloc (by simp) _
  have sV : V.heap.size = w.heap.size + 2 := by rw [← hV]; simp
  have f1 : V.heap[w.heap.size]? = some (.cells #[.slice xg n cg, .int .i64 r] 24) := by rw [← hV, heap_old (by simp)]; exact heap_last rfl
  have f2 : V.heap[w.heap.size + 1]? = some (.cells #[.slice xh n ch, .int .i64 r] 24) := by rw [← hV]; exact heap_last (by simp)
  have H := Lib.hid (And.intro hn (And.intro hxg (And.intro hng (And.intro hxh (And.intro hnh (And.intro hS (And.intro hS' (And.intro B2 (And.intro f1 (And.intro f2 sV))))))))))
  have HV := Lib.hid hV
  clear hn hxg hng hxh hnh hS hS' B2 f1 f2 sV hG hH hlen hV
  go_enter Tryd.func13, Tryd.ntmps13
  go_wp2_with fail
  rw [HV.out]
  go_loopg [23] n (fun gk i wr => ∃ j : Nat, gk = n - j ∧ i = .int .i64 (j : Int) ∧ j ≤ n ∧ Below V.heap.size V wr)
  case atStart => exact ⟨0, by simp, by first | rfl | simp, Nat.zero_le _, Below.refl _ _⟩
  case round =>
    obtain ⟨j, rfl, rfl, hj, hB⟩ := hrel
    have sr := hB.size
    by_cases hlt : j < n
    · have hi' : (j : Int) < (n : Int) := by omega
      obtain ⟨hn, hxg, hng, hxh, hnh, hS, hS', B2, f1, f2, sV⟩ := H.out
      obtain ⟨rfl, h1, h2, h3⟩ := hxg (by omega)
      obtain ⟨rfl, h1', h2', h3'⟩ := hxh (by omega)
      obtain ⟨va, vl, hgn⟩ := hng j (by omega)
      obtain ⟨ua, ul, hhn⟩ := hnh j (by omega)
      have hBw : Below w.heap.size w wr := B2.trans (hB.mono B2.size)
      have gn := hgn.carry (keeps_of hBw hS) fun _ h => h
      have hn' := hhn.carry (keeps_of hBw hS') fun _ h => h
      have tS : ∀ b, S b → b < wr.heap.size := fun b hb => Nat.lt_of_lt_of_le (hS b hb) hBw.size
      have tS' : ∀ b, S' b → b < wr.heap.size := fun b hb => Nat.lt_of_lt_of_le (hS' b hb) hBw.size
      obtain ⟨xa, ca, ga, oa, rfl, -, -⟩ := gn.ha.open_
      obtain ⟨xl, cl, gl, ol, rfl, -, -⟩ := gn.hl.open_
      obtain ⟨ya, da, ga', oa', rfl, -, -⟩ := hn'.ha.open_
      obtain ⟨yl, dl, gl', ol', rfl, -, -⟩ := hn'.hl.open_
      have CA : Hid (∀ U, Below wr.heap.size wr U → Calls Tryd.prog 31 #[.agg #[.int .i64 G[j].k, .string G[j].nm, .slice xa G[j].args.length ca, .slice xl G[j].labels.length cl, .bool G[j].op], .agg #[.int .i64 G[j].k, .string G[j].nm, .slice ya G[j].args.length da, .slice yl G[j].labels.length dl, .bool G[j].op]] U fun e w' => e = .returned (.bool true) ∧ Below wr.heap.size wr w') := Lib.hid fun U hU =>
        (alike_yes S S' _ _ _ _ _ _ _ G[j].args G[j].labels U (gn.ha.carry (keeps_of hU tS) fun _ h => h) (hn'.ha.carry (keeps_of hU tS') fun _ h => h) (gn.hl.carry (keeps_of hU tS) fun _ h => h) (hn'.hl.carry (keeps_of hU tS') fun _ h => h) (fun b hb => Nat.lt_of_lt_of_le (tS b hb) hU.size) (fun b hb => Nat.lt_of_lt_of_le (tS' b hb) hU.size)).mono fun e w' h => ⟨h.1, hU.trans (h.2.mono hU.size)⟩
      have CI : Hid (∀ U, Below wr.heap.size wr U → Calls Tryd.prog 18 #[.slice xa G[j].args.length ca, .slice ya G[j].args.length da] U fun e w' => e = .returned (.bool true) ∧ Below wr.heap.size wr w') := Lib.hid fun U hU =>
        (ints_yes S S' _ _ G[j].args U (gn.ha.carry (keeps_of hU tS) fun _ h => h) (hn'.ha.carry (keeps_of hU tS') fun _ h => h) (fun b hb => Nat.lt_of_lt_of_le (tS b hb) hU.size) (fun b hb => Nat.lt_of_lt_of_le (tS' b hb) hU.size)).mono fun e w' h => ⟨h.1, hU.trans (h.2.mono hU.size)⟩
      obtain ⟨na, hna⟩ : ∃ n, G[j].args.length = n := ⟨_, rfl⟩
      obtain ⟨nl, hnl⟩ : ∃ n, G[j].labels.length = n := ⟨_, rfl⟩
      obtain ⟨k0, hk0⟩ : ∃ n, G[j].k = n := ⟨_, rfl⟩
      obtain ⟨k1, hk1⟩ : ∃ n, G[j].nm = n := ⟨_, rfl⟩
      obtain ⟨k4, hk4⟩ : ∃ n, G[j].op = n := ⟨_, rfl⟩
      obtain ⟨xo, hxo⟩ : ∃ n, og + j * 5 = n := ⟨_, rfl⟩
      obtain ⟨yo, hyo⟩ : ∃ n, oh + j * 5 = n := ⟨_, rfl⟩
      have c0 := gn.c0
      have c1 := gn.c1
      have c2 := gn.c2
      have c3 := gn.c3
      have c4 := gn.c4
      have d0 := hn'.c0
      have d1 := hn'.c1
      have d2 := hn'.c2
      have d3 := hn'.c3
      have d4 := hn'.c4
      rw [hk0] at c0 d0 CA
      rw [hk1] at c1 d1 CA
      rw [hna] at c2 d2 CA CI
      rw [hnl] at c3 d3 CA
      rw [hk4] at c4 d4 CA
      rw [hxo] at c0 c1 c2 c3 c4
      rw [hyo] at d0 d1 d2 d3 d4
      have kg := tS gg h3
      have kh := tS' gh h3'
      unfold maxLen at h2 h2'
      have SO : Hid (∀ V', Below wr.heap.size wr V' → V'.cell? ⟨w.heap.size, 0, none⟩ = some (.slice (some ⟨gg, og, none⟩) n cg) ∧ V'.cell? ⟨w.heap.size + 1, 0, none⟩ = some (.slice (some ⟨gh, oh, none⟩) n ch) ∧ V'.cell? ⟨gg, xo, none⟩ = some (.int .i64 k0) ∧ V'.cell? ⟨gg, xo + 1, none⟩ = some (.string k1) ∧ V'.cell? ⟨gg, xo + 2, none⟩ = some (.slice xa na ca) ∧ V'.cell? ⟨gg, xo + 3, none⟩ = some (.slice xl nl cl) ∧ V'.cell? ⟨gg, xo + 4, none⟩ = some (.bool k4) ∧ V'.cell? ⟨gh, yo, none⟩ = some (.int .i64 k0) ∧ V'.cell? ⟨gh, yo + 1, none⟩ = some (.string k1) ∧ V'.cell? ⟨gh, yo + 2, none⟩ = some (.slice ya na da) ∧ V'.cell? ⟨gh, yo + 3, none⟩ = some (.slice yl nl dl) ∧ V'.cell? ⟨gh, yo + 4, none⟩ = some (.bool k4)) := Lib.hid fun U hU =>
        ⟨Lib.cell_of_heap ((hU.block _ (by omega)).trans ((hB.block _ (by omega)).trans f1)) 0, Lib.cell_of_heap ((hU.block _ (by omega)).trans ((hB.block _ (by omega)).trans f2)) 0,
          (hU.cell (p := ⟨gg, _, none⟩) kg).trans c0, (hU.cell (p := ⟨gg, _, none⟩) kg).trans c1, (hU.cell (p := ⟨gg, _, none⟩) kg).trans c2, (hU.cell (p := ⟨gg, _, none⟩) kg).trans c3, (hU.cell (p := ⟨gg, _, none⟩) kg).trans c4,
          (hU.cell (p := ⟨gh, _, none⟩) kh).trans d0, (hU.cell (p := ⟨gh, _, none⟩) kh).trans d1, (hU.cell (p := ⟨gh, _, none⟩) kh).trans d2, (hU.cell (p := ⟨gh, _, none⟩) kh).trans d3, (hU.cell (p := ⟨gh, _, none⟩) kh).trans d4⟩
      have hBB : Below wr.heap.size wr wr.drew := (Below.refl _ _).drew
      have HB := Lib.hid hB
      clear hB hn hxg hng hxh hnh hS hS' B2 f1 f2 sV h3 h3' hgn hhn hBw gn hn' tS tS' c0 c1 c2 c3 c4 d0 d1 d2 d3 d4 hna hnl hk0 hk1 hk4 kg kh sr
      go_wp2_with fail
      refine wp_region_held_drew (S := fun V => V.cell? ⟨w.heap.size, 0, none⟩ = some (.slice (some ⟨gg, og, none⟩) n cg) ∧ V.cell? ⟨w.heap.size + 1, 0, none⟩ = some (.slice (some ⟨gh, oh, none⟩) n ch) ∧ V.cell? ⟨gg, xo, none⟩ = some (.int .i64 k0) ∧ V.cell? ⟨gg, xo + 1, none⟩ = some (.string k1) ∧ V.cell? ⟨gg, xo + 2, none⟩ = some (.slice xa na ca) ∧ V.cell? ⟨gg, xo + 3, none⟩ = some (.slice xl nl cl) ∧ V.cell? ⟨gg, xo + 4, none⟩ = some (.bool k4) ∧ V.cell? ⟨gh, yo, none⟩ = some (.int .i64 k0) ∧ V.cell? ⟨gh, yo + 1, none⟩ = some (.string k1) ∧ V.cell? ⟨gh, yo + 2, none⟩ = some (.slice ya na da) ∧ V.cell? ⟨gh, yo + 3, none⟩ = some (.slice yl nl dl) ∧ V.cell? ⟨gh, yo + 4, none⟩ = some (.bool k4)) (by kernel_rfl) (SO.out _ hBB) (fun hHeld => ?_)
      refine wpAnyH_take (i := 0) (v := ?_) rfl (by kernel_rfl) (by kernel_rfl) (by kernel_rfl) (fun _ _ _ h => h) (Or.inl ⟨by rfl, ?_⟩) (by assumption) ?_
      rotate_left
      · intro w hSw
        (try dsimp only at hSw)
        go_simp
        try with_reducible rfl
      try simp only [List.getElem_toArray, List.getElem_cons_zero, List.getElem_cons_succ, Act.put, List.setIfInBounds_toArray, List.set_cons_zero, List.set_cons_succ]
      refine wpAnyH_take (i := 1) (v := ?_) rfl (by kernel_rfl) (by kernel_rfl) (by kernel_rfl) (fun _ _ _ h => h) (Or.inl ⟨by rfl, ?_⟩) (by assumption) ?_
      rotate_left
      · intro w hSw
        (try dsimp only at hSw)
        go_simp
        try with_reducible rfl
      try simp only [List.getElem_toArray, List.getElem_cons_zero, List.getElem_cons_succ, Act.put, List.setIfInBounds_toArray, List.set_cons_zero, List.set_cons_succ]
      refine wpAnyH_take (i := 2) (v := ?_) rfl (by kernel_rfl) (by kernel_rfl) (by kernel_rfl) (fun _ _ _ h => h) (Or.inl ⟨by rfl, ?_⟩) (by assumption) ?_
      rotate_left
      · intro w hSw
        (try dsimp only at hSw)
        go_simp
        try with_reducible rfl
      try simp only [List.getElem_toArray, List.getElem_cons_zero, List.getElem_cons_succ, Act.put, List.setIfInBounds_toArray, List.set_cons_zero, List.set_cons_succ]
      refine wpAnyH_take (i := 3) (v := ?_) rfl (by kernel_rfl) (by kernel_rfl) (by kernel_rfl) (fun _ _ _ h => h) (Or.inl ⟨by rfl, ?_⟩) (by assumption) ?_
      rotate_left
      · intro w hSw
        (try dsimp only at hSw)
        go_simp
        try with_reducible rfl
      try simp only [List.getElem_toArray, List.getElem_cons_zero, List.getElem_cons_succ, Act.put, List.setIfInBounds_toArray, List.set_cons_zero, List.set_cons_succ]
      refine wpAnyH_take (i := 4) (v := ?_) rfl (by kernel_rfl) (by kernel_rfl) (by kernel_rfl) (fun _ _ _ h => h) (Or.inl ⟨by rfl, ?_⟩) (by assumption) ?_
      rotate_left
      · intro w hSw
        (try dsimp only at hSw)
        go_simp
        try with_reducible rfl
      try simp only [List.getElem_toArray, List.getElem_cons_zero, List.getElem_cons_succ, Act.put, List.setIfInBounds_toArray, List.set_cons_zero, List.set_cons_succ]
      refine wpAnyH_take (i := 5) (v := ?_) rfl (by kernel_rfl) (by kernel_rfl) (by kernel_rfl) (fun _ _ _ h => h) (Or.inl ⟨by rfl, ?_⟩) (by assumption) ?_
      rotate_left
      · intro w hSw
        (try dsimp only at hSw)
        go_simp
        try with_reducible rfl
      try simp only [List.getElem_toArray, List.getElem_cons_zero, List.getElem_cons_succ, Act.put, List.setIfInBounds_toArray, List.set_cons_zero, List.set_cons_succ]
      refine wpAnyH_take (i := 6) (v := ?_) rfl (by kernel_rfl) (by kernel_rfl) (by kernel_rfl) (fun _ _ _ h => h) (Or.inl ⟨by rfl, ?_⟩) (by assumption) ?_
      rotate_left
      · intro w hSw
        (try dsimp only at hSw)
        go_simp
        try with_reducible rfl
      try simp only [List.getElem_toArray, List.getElem_cons_zero, List.getElem_cons_succ, Act.put, List.setIfInBounds_toArray, List.set_cons_zero, List.set_cons_succ]
      refine wpAnyH_take (i := 7) (v := ?_) rfl (by kernel_rfl) (by kernel_rfl) (by kernel_rfl) (fun _ _ _ h => h) (Or.inl ⟨by rfl, ?_⟩) (by assumption) ?_
      rotate_left
      · intro w hSw
        (try dsimp only at hSw)
        go_simp
        try with_reducible rfl
      try simp only [List.getElem_toArray, List.getElem_cons_zero, List.getElem_cons_succ, Act.put, List.setIfInBounds_toArray, List.set_cons_zero, List.set_cons_succ]
      refine wpAnyH_take (i := 8) (v := ?_) rfl (by kernel_rfl) (by kernel_rfl) (by kernel_rfl) (fun _ _ _ h => h) (Or.inl ⟨by rfl, ?_⟩) (by assumption) ?_
      rotate_left
      · intro w hSw
        (try dsimp only at hSw)
        go_simp
        try with_reducible rfl
      try simp only [List.getElem_toArray, List.getElem_cons_zero, List.getElem_cons_succ, Act.put, List.setIfInBounds_toArray, List.set_cons_zero, List.set_cons_succ]
      refine wpAnyH_take (i := 9) (v := ?_) rfl (by kernel_rfl) (by kernel_rfl) (by kernel_rfl) (fun _ _ _ h => h) (Or.inl ⟨by rfl, ?_⟩) (by assumption) ?_
      rotate_left
      · intro w hSw
        (try dsimp only at hSw)
        go_simp
        try with_reducible rfl
      try simp only [List.getElem_toArray, List.getElem_cons_zero, List.getElem_cons_succ, Act.put, List.setIfInBounds_toArray, List.set_cons_zero, List.set_cons_succ]
      refine wpAnyH_ready (rs := [10]) (by kernel_rfl) (by simp) ?_
      refine AllReadyH.cons (by simp only [List.getElem?_toArray, List.getElem?_cons_zero, List.getElem?_cons_succ]; rfl) (fun K hK => ?_) AllReadyH.nil
      go_simp
      (go_at_call 31; with_reducible refine (CA.out _ hBB).mono ?_; rintro e9 w9 ⟨rfl, hBB⟩)
      go_wp2_with fail
      refine hK.out _ _ (by first | assumption | exact SO.out _ (by first | exact hBB | exact dN_below hBB _ | exact hBB.drew)) (fun hHeld => ?_)
      try simp only [List.getElem_toArray, List.getElem_cons_zero, List.getElem_cons_succ, Act.put, List.setIfInBounds_toArray, List.set_cons_zero, List.set_cons_succ]
      refine wpAnyH_take (i := 11) (v := ?_) rfl (by kernel_rfl) (by kernel_rfl) (by kernel_rfl) (fun _ _ _ h => h) (Or.inl ⟨by rfl, ?_⟩) (by assumption) ?_
      rotate_left
      · intro w hSw
        (try dsimp only at hSw)
        go_simp
        try with_reducible rfl
      try simp only [List.getElem_toArray, List.getElem_cons_zero, List.getElem_cons_succ, Act.put, List.setIfInBounds_toArray, List.set_cons_zero, List.set_cons_succ]
      refine wpAnyH_take (i := 12) (v := ?_) rfl (by kernel_rfl) (by kernel_rfl) (by kernel_rfl) (fun _ _ _ h => h) (Or.inl ⟨by rfl, ?_⟩) (by assumption) ?_
      rotate_left
      · intro w hSw
        (try dsimp only at hSw)
        go_simp
        try with_reducible rfl
      try simp only [List.getElem_toArray, List.getElem_cons_zero, List.getElem_cons_succ, Act.put, List.setIfInBounds_toArray, List.set_cons_zero, List.set_cons_succ]
      refine wpAnyH_take (i := 13) (v := ?_) rfl (by kernel_rfl) (by kernel_rfl) (by kernel_rfl) (fun _ _ _ h => h) (Or.inl ⟨by rfl, ?_⟩) (by assumption) ?_
      rotate_left
      · intro w hSw
        (try dsimp only at hSw)
        go_simp
        try with_reducible rfl
      try simp only [List.getElem_toArray, List.getElem_cons_zero, List.getElem_cons_succ, Act.put, List.setIfInBounds_toArray, List.set_cons_zero, List.set_cons_succ]
      refine wpAnyH_take (i := 14) (v := ?_) rfl (by kernel_rfl) (by kernel_rfl) (by kernel_rfl) (fun _ _ _ h => h) (Or.inl ⟨by rfl, ?_⟩) (by assumption) ?_
      rotate_left
      · intro w hSw
        (try dsimp only at hSw)
        go_simp
        try with_reducible rfl
      try simp only [List.getElem_toArray, List.getElem_cons_zero, List.getElem_cons_succ, Act.put, List.setIfInBounds_toArray, List.set_cons_zero, List.set_cons_succ]
      refine wpAnyH_take (i := 15) (v := ?_) rfl (by kernel_rfl) (by kernel_rfl) (by kernel_rfl) (fun _ _ _ h => h) (Or.inl ⟨by rfl, ?_⟩) (by assumption) ?_
      rotate_left
      · intro w hSw
        (try dsimp only at hSw)
        go_simp
        try with_reducible rfl
      try simp only [List.getElem_toArray, List.getElem_cons_zero, List.getElem_cons_succ, Act.put, List.setIfInBounds_toArray, List.set_cons_zero, List.set_cons_succ]
      refine wpAnyH_take (i := 16) (v := ?_) rfl (by kernel_rfl) (by kernel_rfl) (by kernel_rfl) (fun _ _ _ h => h) (Or.inl ⟨by rfl, ?_⟩) (by assumption) ?_
      rotate_left
      · intro w hSw
        (try dsimp only at hSw)
        go_simp
        try with_reducible rfl
      try simp only [List.getElem_toArray, List.getElem_cons_zero, List.getElem_cons_succ, Act.put, List.setIfInBounds_toArray, List.set_cons_zero, List.set_cons_succ]
      refine wpAnyH_take (i := 17) (v := ?_) rfl (by kernel_rfl) (by kernel_rfl) (by kernel_rfl) (fun _ _ _ h => h) (Or.inl ⟨by rfl, ?_⟩) (by assumption) ?_
      rotate_left
      · intro w hSw
        (try dsimp only at hSw)
        go_simp
        try with_reducible rfl
      try simp only [List.getElem_toArray, List.getElem_cons_zero, List.getElem_cons_succ, Act.put, List.setIfInBounds_toArray, List.set_cons_zero, List.set_cons_succ]
      refine wpAnyH_take (i := 18) (v := ?_) rfl (by kernel_rfl) (by kernel_rfl) (by kernel_rfl) (fun _ _ _ h => h) (Or.inl ⟨by rfl, ?_⟩) (by assumption) ?_
      rotate_left
      · intro w hSw
        (try dsimp only at hSw)
        go_simp
        try with_reducible rfl
      try simp only [List.getElem_toArray, List.getElem_cons_zero, List.getElem_cons_succ, Act.put, List.setIfInBounds_toArray, List.set_cons_zero, List.set_cons_succ]
      refine wpAnyH_take (i := 19) (v := ?_) rfl (by kernel_rfl) (by kernel_rfl) (by kernel_rfl) (fun _ _ _ h => h) (Or.inl ⟨by rfl, ?_⟩) (by assumption) ?_
      rotate_left
      · intro w hSw
        (try dsimp only at hSw)
        go_simp
        try with_reducible rfl
      try simp only [List.getElem_toArray, List.getElem_cons_zero, List.getElem_cons_succ, Act.put, List.setIfInBounds_toArray, List.set_cons_zero, List.set_cons_succ]
      refine wpAnyH_take (i := 20) (v := ?_) rfl (by kernel_rfl) (by kernel_rfl) (by kernel_rfl) (fun _ _ _ h => h) (Or.inl ⟨by rfl, ?_⟩) (by assumption) ?_
      rotate_left
      · intro w hSw
        (try dsimp only at hSw)
        go_simp
        try with_reducible rfl
      try simp only [List.getElem_toArray, List.getElem_cons_zero, List.getElem_cons_succ, Act.put, List.setIfInBounds_toArray, List.set_cons_zero, List.set_cons_succ]
      refine wpAnyH_take (i := 21) (v := ?_) rfl (by kernel_rfl) (by kernel_rfl) (by kernel_rfl) (fun _ _ _ h => h) (Or.inl ⟨by rfl, ?_⟩) (by assumption) ?_
      rotate_left
      · intro w hSw
        (try dsimp only at hSw)
        go_simp
        try with_reducible rfl
      try simp only [List.getElem_toArray, List.getElem_cons_zero, List.getElem_cons_succ, Act.put, List.setIfInBounds_toArray, List.set_cons_zero, List.set_cons_succ]
      refine wpAnyH_take (i := 22) (v := ?_) rfl (by kernel_rfl) (by kernel_rfl) (by kernel_rfl) (fun _ _ _ h => h) (Or.inl ⟨by rfl, ?_⟩) (by assumption) ?_
      rotate_left
      · intro w hSw
        (try dsimp only at hSw)
        go_simp
        try with_reducible rfl
      try simp only [List.getElem_toArray, List.getElem_cons_zero, List.getElem_cons_succ, Act.put, List.setIfInBounds_toArray, List.set_cons_zero, List.set_cons_succ]
      refine wpAnyH_take (i := 23) (v := ?_) rfl (by kernel_rfl) (by kernel_rfl) (by kernel_rfl) (fun _ _ _ h => h) (Or.inl ⟨by rfl, ?_⟩) (by assumption) ?_
      rotate_left
      · intro w hSw
        (try dsimp only at hSw)
        go_simp
        try with_reducible rfl
      try simp only [List.getElem_toArray, List.getElem_cons_zero, List.getElem_cons_succ, Act.put, List.setIfInBounds_toArray, List.set_cons_zero, List.set_cons_succ]
      refine wpAnyH_take (i := 24) (v := ?_) rfl (by kernel_rfl) (by kernel_rfl) (by kernel_rfl) (fun _ _ _ h => h) (Or.inl ⟨by rfl, ?_⟩) (by assumption) ?_
      rotate_left
      · intro w hSw
        (try dsimp only at hSw)
        go_simp
        try with_reducible rfl
      try simp only [List.getElem_toArray, List.getElem_cons_zero, List.getElem_cons_succ, Act.put, List.setIfInBounds_toArray, List.set_cons_zero, List.set_cons_succ]
      refine wpAnyH_ready (rs := [25]) (by kernel_rfl) (by simp) ?_
      refine AllReadyH.cons (by simp only [List.getElem?_toArray, List.getElem?_cons_zero, List.getElem?_cons_succ]; rfl) (fun K hK => ?_) AllReadyH.nil
      go_simp
      (go_at_call 18; with_reducible refine (CI.out _ hBB).mono ?_; rintro e9 w9 ⟨rfl, hBB⟩)
      go_wp2_with fail
      refine hK.out _ _ (by first | assumption | exact SO.out _ (by first | exact hBB | exact dN_below hBB _ | exact hBB.drew)) (fun hHeld => ?_)
      try simp only [List.getElem_toArray, List.getElem_cons_zero, List.getElem_cons_succ, Act.put, List.setIfInBounds_toArray, List.set_cons_zero, List.set_cons_succ]
      refine wpAnyH_take (i := 26) (v := ?_) rfl (by kernel_rfl) (by kernel_rfl) (by kernel_rfl) (fun _ _ _ h => h) (Or.inl ⟨by rfl, ?_⟩) (by assumption) ?_
      rotate_left
      · intro w hSw
        (try dsimp only at hSw)
        go_simp
        try with_reducible rfl
      try simp only [List.getElem_toArray, List.getElem_cons_zero, List.getElem_cons_succ, Act.put, List.setIfInBounds_toArray, List.set_cons_zero, List.set_cons_succ]
      refine wpAnyH_take (i := 27) (v := ?_) rfl (by kernel_rfl) (by kernel_rfl) (by kernel_rfl) (fun _ _ _ h => h) (Or.inl ⟨by rfl, ?_⟩) (by assumption) ?_
      rotate_left
      · intro w hSw
        (try dsimp only at hSw)
        go_simp
        try with_reducible rfl
      try simp only [List.getElem_toArray, List.getElem_cons_zero, List.getElem_cons_succ, Act.put, List.setIfInBounds_toArray, List.set_cons_zero, List.set_cons_succ]
      refine wpAnyH_done (by kernel_rfl) ?_ _
      go_wp2_with fail
      go_roundg (n - (j + 1))
      case measure => omega
      case rel => exact ⟨j + 1, rfl, by first | rfl | simp, hlt, HB.out.trans ((show Below wr.heap.size wr _ by first | exact hBB | exact dN_below hBB _ | exact hBB.drew).mono HB.out.size)⟩
    · have hi' : ¬ (j : Int) < (n : Int) := by omega
      have HB := Lib.hid hB
      clear hB
      go_wp2_with fail
      go_ret
      exact ⟨rfl, H.out.2.2.2.2.2.2.2.1.trans (HB.out.mono H.out.2.2.2.2.2.2.2.1.size)⟩
end Go.Proofs.YtkbmkmpoapafaaaDoor
