/- The law LexBack, walked: it answers true at tokens whose texts aren't great; what lay in memory stays. -/
import Derived.Test.YtabngleincejfaaGreatDoorPuts
import Derived.OwnWalk
import Derived.Laws.OwnMore
namespace Go.Proofs.YtabngleincejfaaGreatDoor
open Go.ChangeShapes Go.WideShapes Go.ChangeAt Go.RowKit

theorem same_empty (x y : Option Addr) (c1 c2 : Nat) (w : World) :
    Calls Tryz.prog 7 #[.slice x 0 c1, .slice y 0 c2] w fun e w' => e = .returned (.bool true) ∧ Drawn w w' := by
  go_enter Tryz.func7, Tryz.ntmps7
  go_wp2
  refine wp_loop_rounds 1 ?_
  rw [rounds_succ]
  go_wp2
  go_ret
  exact ⟨rfl, 0, rfl⟩

/-- What the loop knows. -/
theorem back_len (l : List Tk) (h : ∀ t ∈ l, t.n ≤ 9223372036854775807) : (backL l).2.length ≤ l.length * 131071 ∧ (backL l).1.length ≤ l.length := by
  have : ∀ (l : List Tk) (s : List Tk × List UInt8), (∀ t ∈ l, t.n ≤ 9223372036854775807) → (l.foldl backStep s).2.length ≤ s.2.length + l.length * 131071 ∧ (l.foldl backStep s).1.length ≤ s.1.length + l.length := by
    intro l
    induction l with
    | nil => intro s _; simp
    | cons t r ih =>
      intro s ha
      have h2 := ih (backStep s t) (fun u hu => ha u (by simp [hu]))
      rw [List.foldl_cons, List.length_cons]
      have hs : (backStep s t).2.length ≤ s.2.length + 131071 ∧ (backStep s t).1.length ≤ s.1.length + 1 := by
        unfold backStep
        cases ht : tokText t with
        | none => simp
        | some q =>
          have := (told ht (ha t (by simp))).len
          simp only [List.length_append, List.length_cons, List.length_nil]
          omega
      omega
  have h2 := this l ([], []) h
  simpa [backL] using h2

theorem take_snoc (l : List Tk) (k : Nat) (t : Tk) (h : l[k]? = some t) : l.take (k + 1) = l.take k ++ [t] := by
  obtain ⟨hk, rfl⟩ := List.getElem?_eq_some_iff.1 h
  rw [List.take_succ_eq_append_getElem hk]

theorem lex_row (E : Errs) (s : ByteArray) (l : List Tk) (k : Nat) (w : World) (hE : EnvL E w) (hs : s.size ≤ 65536) (h : toksOf s = some l) (hk : l.length = k) :
    Calls Tryz.prog 6 #[.string s] w fun e w' => (∃ g cap, e = .returned (.tuple #[.slice (some ⟨g, 0, none⟩) (k + 1) cap, .int .i64 0, .int .i64 0]) ∧ RowAt w' g 0 (l ++ [endTk s]) ∧ k + 1 ≤ cap ∧ g < w'.heap.size ∧ cap ≤ maxLen) ∧ Below w.heap.size w w' := by
  refine (lex_good E s l w hE hs h).mono fun e w' h => ?_
  obtain ⟨v, rfl, hown, hB⟩ := h
  obtain ⟨g, cap, rfl, h1, h2, h3, h4⟩ := row_at hown (by simp)
  have e1 : (l ++ [endTk s]).length = k + 1 := by simp [hk]
  rw [e1] at h2
  exact ⟨⟨g, cap, by rw [e1], h1, h2, h3, h4⟩, hB⟩

/-- The block in which the loop's token lies, behind a call. -/
theorem box_at {w w2 : World} {k a n : Int} {s : ByteArray} (hB : Below (w.alloc (.cells #[.int .i64 k, .int .i64 a, .int .i64 n, .string s] 25)).heap.size (w.alloc (.cells #[.int .i64 k, .int .i64 a, .int .i64 n, .string s] 25)) w2) :
    w2.cell? ⟨w.heap.size, 0, none⟩ = some (.int .i64 k) ∧ w2.cell? ⟨w.heap.size, 1, none⟩ = some (.int .i64 a) ∧ w2.cell? ⟨w.heap.size, 2, none⟩ = some (.int .i64 n) ∧ w2.cell? ⟨w.heap.size, 3, none⟩ = some (.string s) ∧ ∀ j, w2.frozen? ⟨w.heap.size, j, none⟩ = false := by
  have h : w2.heap[w.heap.size]? = some (.cells #[.int .i64 k, .int .i64 a, .int .i64 n, .string s] 25) := by
    rw [hB.block _ (by simp)]
    exact heap_alloc_new w _
  exact ⟨Lib.cell_of_heap h 0, Lib.cell_of_heap h 1, Lib.cell_of_heap h 2, Lib.cell_of_heap h 3, fun j => Lib.frozen_of_heap h j⟩

theorem put_none (E : Errs) (t : Tk) (w : World) (hE : EnvL E w) (htab : Lib.TabIs Tryz.prog w "internal/strconv.uint64pow10" .u64 Lib.pow10Tab) (hs : t.t.size ≤ 1100000) (h0 : -9223372036854775808 ≤ t.n) (h1 : t.n ≤ 9223372036854775807) (h : tokText t = none) :
    Calls Tryz.prog 5 #[.agg #[.int .i64 t.kind, .int .i64 t.at_, .int .i64 t.n, .string t.t]] w fun e w' => e = .returned (.tuple #[.string ⟨#[]⟩, .int .i64 2]) ∧ Below w.heap.size w w' := by
  have := puts_any E t w hE htab hs h0 h1
  unfold putGives at this
  rwa [h] at this
theorem put_some (E : Errs) (t : Tk) (p : List UInt8) (w : World) (hE : EnvL E w) (htab : Lib.TabIs Tryz.prog w "internal/strconv.uint64pow10" .u64 Lib.pow10Tab) (hs : t.t.size ≤ 1100000) (h0 : -9223372036854775808 ≤ t.n) (h1 : t.n ≤ 9223372036854775807) (h : tokText t = some p) :
    Calls Tryz.prog 5 #[.agg #[.int .i64 t.kind, .int .i64 t.at_, .int .i64 t.n, .string t.t]] w fun e w' => e = .returned (.tuple #[.string (bytesOf p), .int .i64 0]) ∧ Below w.heap.size w w' := by
  have := puts_any E t w hE htab hs h0 h1
  unfold putGives at this
  rwa [h] at this
theorem bytes_join (a b : List UInt8) : bytesOf a ++ (bytesOf b ++ ⟨#[32]⟩) = bytesOf (a ++ b ++ [32]) := bytes_ext (by simp [bytesOf_list, ByteArray.data_append])

set_option maxHeartbeats 4000000 in
set_option maxRecDepth 100000 in
theorem back_walk (E : Errs) (x : Option Addr) (cap : Nat) (l : List Tk) (w : World) (hE : EnvL E w) (htab : Lib.TabIs Tryz.prog w "internal/strconv.uint64pow10" .u64 Lib.pow10Tab)
    (hn : l.length ≤ 1048576) (hcap : l.length ≤ cap) (hmx : cap ≤ maxLen) (hall : ∀ t ∈ l, t.t.size ≤ 1100000 ∧ -9223372036854775808 ≤ t.n ∧ t.n ≤ 9223372036854775807)
    (hrow : l = [] ∨ ∃ g o, x = some ⟨g, o, none⟩ ∧ RowAt w g o l ∧ g < w.heap.size) :
    Calls Tryz.prog 3 #[.slice x l.length cap] w fun e w' => e = .returned (.bool true) ∧ Below w.heap.size w w' := by
  obtain ⟨i0, hi, hz0, hz1, hz2⟩ := info_parts tokInfo
  have HE := Lib.hid hE
  have T := Lib.hid (Lib.tabBelow_of_tabIs htab)
  have HA := Lib.hid hall
  have HR := Lib.hid hrow
  unfold maxLen at hmx
  clear hE htab hall hrow
  go_enter Tryz.func3, Tryz.ntmps3
  go_wp2_with fail
  refine (alive_is E _ HE.out).mono ?_
  rintro e w1 ⟨rfl, hB1⟩
  have HB1 := Lib.hid hB1
  clear hB1
  go_wp2_with fail
  go_loopw [3, 4, 16] (fun s v i wr => ∃ k : Nat, k ≤ l.length ∧ s = .string (bytesOf (backL (l.take k)).2) ∧ i = .int .i64 k ∧ wr.ownsRow w.heap.size 25 4 v (backL (l.take k)).1.length (cellsOf (backL (l.take k)).1) ∧ Below w.heap.size w wr) (fun _ _ i _ => l.length - (intOf i).toNat)
  case atStart => exact ⟨0, by omega, rfl, rfl, World.ownsRow_nil _ _ _ _, HB1.out⟩
  case round =>
    obtain ⟨k, hk, rfl, rfl, hown, hB⟩ := hrel
    have hbl := back_len (l.take k) (fun t ht => (HA.out t (List.mem_of_mem_take ht)).2.2)
    rw [List.length_take] at hbl
    by_cases hlt : k < l.length
    · obtain ⟨⟨k0, k1, k2, k3⟩, ht⟩ := get_tk hlt
      obtain ⟨g, o, rfl, hra, hg⟩ := HR.out.resolve_left (fun h => by rw [h] at hlt; simp at hlt)
      obtain ⟨a0, a1, a2, a3⟩ := (hra.below hB hg).get ht
      obtain ⟨hs, hn0, hn1⟩ := HA.out _ (List.mem_of_getElem? ht)
      simp only at a0 a1 a2 a3 hs hn0 hn1
      have hsn := take_snoc l k _ ht
      have hbs : backL (l.take (k + 1)) = backStep (backL (l.take k)) ⟨k0, k1, k2, k3⟩ := by rw [hsn, backL_snoc]
      have hi' : (k : Int) < (l.length : Int) := by omega
      have hba : Below wr.heap.size wr (wr.alloc (.cells #[.int .i64 k0, .int .i64 k1, .int .i64 k2, .string k3] 25)) := (Below.refl _ _).alloc (Nat.le_refl _) _
      have hBa := hB.trans (hba.mono hB.size)
      have Ea := HE.out.self hBa (Nat.le_refl _)
      have Ta := T.out _ hBa
      cases hp : tokText ⟨k0, k1, k2, k3⟩ with
      | none =>
        have cp := Lib.hid (put_none E ⟨k0, k1, k2, k3⟩ _ Ea Ta hs hn0 hn1 hp)
        have hbs2 : backL (l.take (k + 1)) = backL (l.take k) := by rw [hbs]; unfold backStep; rw [hp]
        have HBS := Lib.hid hbs2
        have HO := Lib.hid hown
        have HK := Lib.hid hbl
        clear hp hbs hbs2 hsn ht hra Ta Ea hown hbl
        generalize (backL (l.take k)) = bk at *
        go_wp2_with fail
        refine cp.out.mono ?_
        rintro e w2 ⟨rfl, hB2⟩
        have hB3 := hba.trans (hB2.mono hba.size)
        go_wp2_with fail
        go_roundw
        case rel => exact ⟨k + 1, by omega, by rw [HBS.out], by go_num, by rw [HBS.out]; exact own_below HO.out hB3, hB.trans (hB3.mono hB.size)⟩
        case measure => simp [intOf]; omega
      | some p =>
        have cp := Lib.hid (put_some E ⟨k0, k1, k2, k3⟩ p _ Ea Ta hs hn0 hn1 hp)
        have hpl := (told hp hn1).len
        have hbs2 : backL (l.take (k + 1)) = ((backL (l.take k)).1 ++ [⟨k0, (backL (l.take k)).2.length, k2, k3⟩], (backL (l.take k)).2 ++ p ++ [32]) := by rw [hbs]; unfold backStep; rw [hp]
        have HBS := Lib.hid hbs2
        have HO := Lib.hid hown
        clear hp hbs hbs2 hsn ht hra Ta Ea hown
        generalize (backL (l.take k)) = bk at *
        have z1 := bytesOf_size bk.2
        have z2 := bytesOf_size p
        go_wp2_with fail
        refine cp.out.mono ?_
        rintro e w2 ⟨rfl, hB2⟩
        obtain ⟨b0, b1, b2, b3, bf⟩ := box_at hB2
        have bf0 := bf 0
        have bf1 := bf 1
        have hB3 := hba.trans (hB2.mono hba.size)
        have hsz2 := hB3.size
        have hB4 : Below wr.heap.size wr ((w2.setCell ⟨wr.heap.size, 1, none⟩ (.int .i64 (bk.2.length : Int))).alloc (.cells #[.int .i64 k0, .int .i64 (bk.2.length : Int), .int .i64 k2, .string k3] 25)) :=
          (hB3.setCell (p := ⟨wr.heap.size, 1, none⟩) (Nat.le_refl _) _).alloc (by simp; omega) _
        have hown4 := own_below HO.out hB4
        have HO4 := Lib.hid hown4
        have hnc := new_cells (w2.setCell ⟨wr.heap.size, 1, none⟩ (.int .i64 (bk.2.length : Int))) (Tk.mk k0 bk.2.length k2 k3)
        rw [show (w2.setCell ⟨wr.heap.size, 1, none⟩ (.int .i64 (bk.2.length : Int))).heap.size = w2.heap.size from by simp] at hnc
        have HN := Lib.hid hnc
        have HB4 := Lib.hid (hB.trans (hB4.mono hB.size))
        clear hown4 hnc hB4 hba hBa
        have hkl : min k l.length = k := by omega
        rw [hkl] at hbl
        obtain ⟨hbl1, hbl2⟩ := hbl
        clear hkl
        have hszw : w.heap.size ≤ w2.heap.size := Nat.le_trans hB.size hsz2
        have ht1 : (bk.2.length : Int) ≤ 1048576 * 131071 := by omega
        have ht2 : (p.length : Int) ≤ 131070 := by omega
        go_wp2_with (at_builtin; refine wpList_append_own _ rfl (.tmp 30) (.tmp 32) _ rfl w.heap.size 25 i0 _ 4 40 Tryz.underlying22 hi hz0 hz1 hz2 rfl (by omega) u4 bk.1.length (cellsOf bk.1) rfl HO4.out ⟨w2.heap.size, 0, none⟩ 1 1 (Tk.mk k0 bk.2.length k2 k3).cells rfl rfl HN.out (cells_one' _) (by unfold maxLen; omega) (by omega) (by simp; omega) ?_; intro v' w5 hown5 hg5 _)
        have hB5 := HB4.out.grown hg5 (by simp; omega) (fun q hq => (HO4.out.lt q hq).1)
        exact ⟨⟨k + 1, by omega, by rw [HBS.out, bytes_join], by go_num, by
          rw [HBS.out]
          show w5.ownsRow _ _ _ _ (bk.1 ++ [_]).length (cellsOf (bk.1 ++ [_]))
          rw [cellsOf_snoc, List.length_append]
          exact hown5, hB5⟩, by simp [intOf]; omega⟩
    · have hi' : ¬ (k : Int) < (l.length : Int) := by omega
      have hke : l.take k = l := List.take_of_length_le (by omega)
      rw [hke] at hown ⊢
      have hok := back_lex (back_all l (fun t ht => (HA.out t ht).2.2))
      have hbn := (back_len l (fun t ht => (HA.out t ht).2.2)).2
      clear hke hbl
      generalize backL l = bk at *
      have htk : toksOf (bytesOf bk.2) = some bk.1 := by
        unfold toksOf
        rw [bytesOf_size, bytesOf_list]; exact hok
      have zt := bytesOf_size bk.2
      generalize bytesOf bk.2 = tx at *
      generalize bk.1 = wl at *
      clear hok zt
      by_cases hlong : 5000 < (tx.size : Int)
      · go_wp2_with fail
        go_ret
        exact ⟨rfl, hB⟩
      · have hz : tx.size ≤ 5000 := by omega
        obtain ⟨m, hm⟩ : ∃ m, wl.length = m := ⟨_, rfl⟩
        have cl := Lib.hid (lex_row E tx wl m wr (HE.out.self hB (Nat.le_refl _)) (by omega) htk hm)
        have HM := Lib.hid hm
        have hcnt := toks_count htk
        rw [hm] at hbn hcnt
        clear htk hm
        go_wp2_with fail
        refine cl.out.mono ?_
        rintro e w2 ⟨⟨gc, capc, rfl, rc, lc, ltc, mxc⟩, hB2⟩
        have hB3 := hB.trans (hB2.mono hB.size)
        have hown2 := own_below hown hB2
        have hrc : RowAt w2 gc 0 wl := fun i hi => by
          have := rc i (by rw [List.length_append]; omega)
          simpa only [List.getElem_append_left hi] using this
        have hend : (wl ++ [endTk tx])[m]? = some (endTk tx) := by rw [← HM.out]; simp
        obtain ⟨d0, d1, d2, d3⟩ := rc.get hend
        unfold endTk at d0 d1 d2 d3
        simp only [Nat.zero_add] at d0 d1 d2 d3
        unfold maxLen at mxc
        by_cases hm0 : m = 0
        · subst hm0
          have hv : ∃ y c, u4 = .slice y 0 c := by
            rcases hown2.2 with ⟨h, _⟩ | ⟨gw, capw, cur, h, _⟩
            · exact ⟨_, _, h⟩
            · exact ⟨_, _, by rw [h, HM.out]⟩
          obtain ⟨y, c, rfl⟩ := hv
          clear hown hown2 hrc rc hend
          go_wp2_with fail
          refine (same_empty (some ⟨gc, 0, none⟩) y capc c w2).mono ?_
          rintro e w3 ⟨rfl, nd, rfl⟩
          have hB4 := drewN_below hB3 nd
          go_wp2_with fail
          go_ret
          exact ⟨rfl, hB4⟩
        · obtain ⟨gw2, capw2, hv, hrw, hcw, hgw, hmw⟩ := row_at hown2 (by rw [HM.out]; omega)
          have hsm : Calls Tryz.prog 7 #[.slice (some ⟨gc, 0, none⟩) m capc, .slice (some ⟨gw2, 0, none⟩) m capw2] w2 fun e w' => e = .returned (.bool true) ∧ Drawn w2 w' := by
            have := same_yes wl gc 0 capc gw2 0 capw2 w2 hrc hrw (by rw [HM.out]; omega)
            rwa [HM.out] at this
          have HS := Lib.hid hsm
          unfold maxLen at hmw
          rw [HM.out] at hcw hv
          subst hv
          clear hown hown2 hrc rc hend hrw hsm
          go_wp2_with fail
          refine HS.out.mono ?_
          rintro e w3 ⟨rfl, nd, rfl⟩
          have hB4 := drewN_below hB3 nd
          go_wp2_with fail
          go_ret
          exact ⟨rfl, hB4⟩
end Go.Proofs.YtabngleincejfaaGreatDoor
