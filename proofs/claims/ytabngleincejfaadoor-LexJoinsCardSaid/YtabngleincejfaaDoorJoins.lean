/- The law LexJoins, walked: it answers true; what lay in memory stays. -/
import Derived.Test.YtabngleincejfaaDoorRows1
namespace Go.Proofs.YtabngleincejfaaDoor
open Go.ChangeShapes Go.WideShapes Go.ChangeAt Go.RowKit

theorem joins_long (E : Errs) (a b : ByteArray) (w : World) (hE : EnvL E w) (hs : 1000 < (a.size : Int) ∨ 1000 < (b.size : Int)) :
    Calls Tryd.prog 4 #[.string a, .string b] w fun e w' => e = .returned (.bool true) ∧ Below w.heap.size w w' := by
  have HE := Lib.hid hE
  clear hE
  by_cases h1 : 1000 < (a.size : Int)
  · clear hs
    go_enter Tryd.func4, Tryd.ntmps4
    go_wp2_with fail
    refine (alive_is E _ HE.out).mono ?_
    rintro e w1 ⟨rfl, hB1⟩
    go_wp2_with fail
    go_ret
    exact ⟨rfl, hB1⟩
  · have h2 : 1000 < (b.size : Int) := by omega
    clear hs
    go_enter Tryd.func4, Tryd.ntmps4
    go_wp2_with fail
    refine (alive_is E _ HE.out).mono ?_
    rintro e w1 ⟨rfl, hB1⟩
    go_wp2_with fail
    go_ret
    exact ⟨rfl, hB1⟩

theorem lex_gen (E : Errs) (s : ByteArray) (w : World) (hE : EnvL E w) (hs : s.size ≤ 65536) :
    Calls Tryd.prog 6 #[.string s] w fun e w' => (∃ v x n, e = .returned (.tuple #[v, x, .int .i64 n])) ∧ Below w.heap.size w w' := by
  refine (lex_all E s w hE hs).mono fun e w' h => ?_
  unfold LexEnds at h
  split at h
  · obtain ⟨v, rfl, _, hB⟩ := h
    exact ⟨⟨_, _, _, rfl⟩, hB⟩
  · obtain ⟨⟨v, x, rfl⟩, hB⟩ := h
    exact ⟨⟨_, _, _, rfl⟩, hB⟩
theorem lex_none (E : Errs) (s : ByteArray) (w : World) (hE : EnvL E w) (hs : s.size ≤ 65536) (h : toksOf s = none) :
    Calls Tryd.prog 6 #[.string s] w fun e w' => (∃ v x, e = .returned (.tuple #[v, x, .int .i64 5])) ∧ Below w.heap.size w w' := by
  have := lex_all E s w hE hs
  unfold LexEnds at this
  rwa [h] at this

theorem joins_bad (E : Errs) (a b : ByteArray) (w : World) (hE : EnvL E w) (h1 : (a.size : Int) ≤ 1000) (h2 : (b.size : Int) ≤ 1000) (h : toksOf a = none ∨ toksOf b = none) :
    Calls Tryd.prog 4 #[.string a, .string b] w fun e w' => e = .returned (.bool true) ∧ Below w.heap.size w w' := by
  have hz := join_size a b
  have cz : ∀ W, EnvL E W → Calls Tryd.prog 6 #[.string (a ++ ⟨#[32]⟩ ++ b)] W fun e w' => (∃ v x n, e = .returned (.tuple #[v, x, .int .i64 n])) ∧ Below W.heap.size W w' := fun W hW => lex_gen E _ W hW (by omega)
  have CZ := Lib.hid cz
  have HE := Lib.hid hE
  have ga := Lib.hid (fun W (hW : EnvL E W) => lex_gen E a W hW (by omega))
  have gb := Lib.hid (fun W (hW : EnvL E W) => lex_gen E b W hW (by omega))
  by_cases ha : toksOf a = none
  · have na := Lib.hid (fun W (hW : EnvL E W) => lex_none E a W hW (by omega) ha)
    clear cz hE h ha
    go_enter Tryd.func4, Tryd.ntmps4
    go_wp2_with fail
    refine (alive_is E _ HE.out).mono ?_
    rintro e w1 ⟨rfl, hB1⟩
    have E1 := HE.out.self hB1 (Nat.le_refl _)
    go_wp2_with fail
    refine (na.out _ E1).mono ?_
    rintro e w2 ⟨⟨v, x, rfl⟩, hB2⟩
    have E2 := E1.self hB2 (Nat.le_refl _)
    have hB3 := hB1.trans (hB2.mono hB1.size)
    go_wp2_with fail
    refine (gb.out _ E2).mono ?_
    rintro e w3 ⟨⟨v2, x2, n2, rfl⟩, hB4⟩
    have E3 := E2.self hB4 (Nat.le_refl _)
    have hB5 := hB3.trans (hB4.mono hB3.size)
    go_wp2_with fail
    refine (CZ.out _ E3).mono ?_
    rintro e w4 ⟨⟨v3, x3, n3, rfl⟩, hB6⟩
    have hB7 := hB5.trans (hB6.mono hB5.size)
    go_wp2_with fail
    go_ret
    exact ⟨rfl, hB7⟩
  · have hb : toksOf b = none := h.resolve_left ha
    have nb := Lib.hid (fun W (hW : EnvL E W) => lex_none E b W hW (by omega) hb)
    clear cz hE h ha hb
    go_enter Tryd.func4, Tryd.ntmps4
    go_wp2_with fail
    refine (alive_is E _ HE.out).mono ?_
    rintro e w1 ⟨rfl, hB1⟩
    have E1 := HE.out.self hB1 (Nat.le_refl _)
    go_wp2_with fail
    refine (ga.out _ E1).mono ?_
    rintro e w2 ⟨⟨v, x, n, rfl⟩, hB2⟩
    have E2 := E1.self hB2 (Nat.le_refl _)
    have hB3 := hB1.trans (hB2.mono hB1.size)
    go_wp2_with fail
    refine (nb.out _ E2).mono ?_
    rintro e w3 ⟨⟨v2, x2, rfl⟩, hB4⟩
    have E3 := E2.self hB4 (Nat.le_refl _)
    have hB5 := hB3.trans (hB4.mono hB3.size)
    go_wp2_with fail
    refine (CZ.out _ E3).mono ?_
    rintro e w4 ⟨⟨v3, x3, n3, rfl⟩, hB6⟩
    have hB7 := hB5.trans (hB6.mono hB5.size)
    cases hn : (n != 0)
    · go_wp2_with fail
      go_ret
      exact ⟨rfl, hB7⟩
    · go_wp2_with fail
      go_ret
      exact ⟨rfl, hB7⟩

theorem lex_row (E : Errs) (s : ByteArray) (l : List Tk) (k : Nat) (w : World) (hE : EnvL E w) (hs : s.size ≤ 65536) (h : toksOf s = some l) (hk : l.length = k) :
    Calls Tryd.prog 6 #[.string s] w fun e w' => (∃ g cap, e = .returned (.tuple #[.slice (some ⟨g, 0, none⟩) (k + 1) cap, .int .i64 0, .int .i64 0]) ∧ RowAt w' g 0 (l ++ [endTk s]) ∧ k + 1 ≤ cap ∧ g < w'.heap.size ∧ cap ≤ maxLen) ∧ Below w.heap.size w w' := by
  refine (lex_good E s l w hE hs h).mono fun e w' h => ?_
  obtain ⟨v, rfl, hown, hB⟩ := h
  obtain ⟨g, cap, rfl, h1, h2, h3, h4⟩ := row_at hown (by simp)
  have e1 : (l ++ [endTk s]).length = k + 1 := by simp [hk]
  rw [e1] at h2
  exact ⟨⟨g, cap, by rw [e1], h1, h2, h3, h4⟩, hB⟩

set_option maxHeartbeats 2000000 in
theorem joins_good (E : Errs) (a b : ByteArray) (x y : List Tk) (w : World) (hE : EnvL E w) (h1 : (a.size : Int) ≤ 1000) (h2 : (b.size : Int) ≤ 1000) (ha : toksOf a = some x) (hb : toksOf b = some y) :
    Calls Tryd.prog 4 #[.string a, .string b] w fun e w' => e = .returned (.bool true) ∧ Below w.heap.size w w' := by
  have hz := join_size a b
  have hxc := toks_count ha
  have hyc := toks_count hb
  have hj := join_toks ha hb
  obtain ⟨mx, hmx⟩ : ∃ m, x.length = m := ⟨_, rfl⟩
  obtain ⟨my, hmy⟩ : ∃ m, y.length = m := ⟨_, rfl⟩
  have ca := Lib.hid (fun W (hW : EnvL E W) => lex_row E a x mx W hW (by omega) ha hmx)
  have cb := Lib.hid (fun W (hW : EnvL E W) => lex_row E b y my W hW (by omega) hb hmy)
  have cz := Lib.hid (fun W (hW : EnvL E W) => lex_row E _ _ (mx + my) W hW (by omega) hj (by simp [hmx, hmy]))
  have HX := Lib.hid hmx
  have HY := Lib.hid hmy
  rw [hmx] at hxc
  rw [hmy] at hyc
  clear hmx hmy hz
  have HE := Lib.hid hE
  have cut := Lib.hid ha
  have cutb := Lib.hid hb
  have hem := end_moved a b
  clear hE hj ha hb
  go_enter Tryd.func4, Tryd.ntmps4
  go_wp2_with fail
  refine (alive_is E _ HE.out).mono ?_
  rintro e w1 ⟨rfl, hB1⟩
  have E1 := HE.out.self hB1 (Nat.le_refl _)
  go_wp2_with fail
  refine (ca.out _ E1).mono ?_
  rintro e w2 ⟨⟨ga, capa, rfl, ra, la, lta, mxa⟩, hB2⟩
  have E2 := E1.self hB2 (Nat.le_refl _)
  have hB3 := hB1.trans (hB2.mono hB1.size)
  go_wp2_with fail
  refine (cb.out _ E2).mono ?_
  rintro e w3 ⟨⟨gb, capb, rfl, rb, lb, ltb, mxb⟩, hB4⟩
  have E3 := E2.self hB4 (Nat.le_refl _)
  have hB5 := hB3.trans (hB4.mono hB3.size)
  have ra2 := ra.below hB4 lta
  have sz4 := hB4.size
  go_wp2_with fail
  refine (cz.out _ E3).mono ?_
  rintro e w4 ⟨⟨gz, capz, rfl, rz, lz, ltz, mxz⟩, hB6⟩
  have E4 := E3.self hB6 (Nat.le_refl _)
  have hB7 := hB5.trans (hB6.mono hB5.size)
  have ra3 := ra2.below hB6 (by omega)
  have rb3 := rb.below hB6 ltb
  have sz6 := hB6.size
  clear ra ra2 rb hB1 hB2 hB3 hB4 hB5 hB6 E1 E2 E3
  have rz1 : RowAt w4 gz 0 x := fun i hi => by
    have := rz i (by rw [List.length_append, List.length_append]; omega)
    simpa only [List.getElem_append_left hi, List.append_assoc] using this
  have ra1 : RowAt w4 ga 0 x := fun i hi => by
    have := ra3 i (by rw [List.length_append]; omega)
    simpa only [List.getElem_append_left hi] using this
  have hsm : ∀ n, Calls Tryd.prog 9 #[.slice (some ⟨gz, 0, none⟩) mx capz, .slice (some ⟨ga, 0, none⟩) mx capa] (w4.drewN n) fun e w' => e = .returned (.bool true) ∧ Drawn (w4.drewN n) w' := fun n => by
    have hd := drewN_below (Below.refl w4.heap.size w4) n
    have := same_yes x gz 0 capz ga 0 capa (w4.drewN n) (rz1.below hd ltz) (ra1.below hd (by omega)) (by rw [HX.out]; omega)
    rwa [HX.out] at this
  have HS := Lib.hid hsm
  clear rz1 ra1 hsm
  unfold maxLen at mxa mxb mxz
  go_wp2_with fail
  have tg : ((mx : Int) + (my : Int) + 1 != (mx : Int) + 1 + ((my : Int) + 1) - 1) = false := by simp; omega
  go_quiet (first | (go_at_call 9; refine Calls.quiet_of (HS.out _)))
  have hd := drewN_below (Below.refl w4.heap.size w4) nq
  have hB8 := hB7.trans (hd.mono hB7.size)
  have E5 := E4.self hd (Nat.le_refl _)
  have ra4 := ra3.below hd (by omega)
  have rb4 := rb3.below hd (by omega)
  have rz4 := rz.below hd ltz
  have sz8 := hd.size
  clear tg HS E4 hB7 ra3 rb3 rz hd
  generalize w4.drewN nq = w5 at *
  have hlist : (x ++ y.map (Tk.moved (a.size + 1)) ++ [endTk (a ++ ⟨#[32]⟩ ++ b)]).drop mx = (y ++ [endTk b]).map (Tk.moved (a.size + 1)) := by
    rw [hem, List.append_assoc, ← HX.out, List.drop_left, List.map_append]; rfl
  have rz5 := rz4.drop mx
  rw [hlist] at rz5
  have hsub : mx + my + 1 - mx = my + 1 := by omega
  clear hlist rz4
  go_wp2_with fail
  clear hsub
  go_loopw [91] (fun x wr => ∃ k : Nat, k ≤ my + 1 ∧ x = .int .i64 k ∧ Below w5.heap.size w5 wr) (fun x _ => my + 1 - (intOf x).toNat)
  case atStart => exact ⟨0, by omega, rfl, Below.refl _ _⟩
  case round =>
    obtain ⟨k, hk, rfl, hBr⟩ := hrel
    by_cases hlt : k < my + 1
    · have hly : (y ++ [endTk b]).length = my + 1 := by simp [HY.out]
      obtain ⟨⟨k0, k1, k2, k3⟩, ht⟩ := get_tk (l := y ++ [endTk b]) (k := k) (by rw [hly]; exact hlt)
      obtain ⟨a0, a1, a2, a3⟩ := (rz5.below hBr (by omega)).get (k := k) (t := Tk.moved (a.size + 1) ⟨k0, k1, k2, k3⟩) (by rw [List.getElem?_map, ht]; rfl)
      obtain ⟨b0, b1, b2, b3⟩ := (rb4.below hBr (by omega)).get ht
      obtain ⟨q, hq, hqb, _⟩ := cut_get cutb.out ht
      simp only [Tk.moved] at a0 a1 a2 a3 b0 b1 b2 b3 hq
      subst hq
      have hpos : (0 : Int) ≤ (q : Int) := by omega
      rw [Int.natCast_add] at a1
      rw [Nat.zero_add] at b0 b1 b2 b3
      have hgb : gb < wr.heap.size := by have := hBr.size; omega
      clear hly ht
      have hi' : (k : Int) < (my : Int) + 1 := by omega
      have szr := hBr.size
      go_wp2
      go_quiet (fail)
      go_wp2
      exact ⟨⟨k + 1, by omega, by go_num, drewN_below (hBr.alloc hBr.size _) nq⟩, by simp [intOf]; omega⟩
    · have hi' : ¬ (k : Int) < (my : Int) + 1 := by omega
      have ra5 := ra4.below hBr (by omega)
      have E6 := E5.self hBr (Nat.le_refl _)
      have hB9 := hB8.trans (hBr.mono hB8.size)
      have lta2 : ga < wr.heap.size := by have := hBr.size; omega
      clear ra4 rb4 rz5 E5 hB8 hBr hlt
      generalize wr = w6 at *
      go_wp2_with fail
      go_loopw [112] (fun x wq => ∃ k : Nat, k ≤ mx + 1 ∧ x = .int .i64 k ∧ Below w6.heap.size w6 wq) (fun x _ => mx + 1 - (intOf x).toNat)
      case atStart => exact ⟨0, by omega, rfl, Below.refl _ _⟩
      case round =>
        obtain ⟨n, hn, rfl, hBq⟩ := hrel
        by_cases hln : n < mx + 1
        · have hlx : (x ++ [endTk a]).length = mx + 1 := by simp [HX.out]
          obtain ⟨⟨k0, k1, k2, k3⟩, ht⟩ := get_tk (l := x ++ [endTk a]) (k := n) (by rw [hlx]; exact hln)
          have ra6 := ra5.below hBq lta2
          have E7 := E6.self hBq (Nat.le_refl _)
          obtain ⟨a0, a1, a2, a3⟩ := ra6.get ht
          obtain ⟨q, hq, hqb, hcut⟩ := cut_get cut.out ht
          simp only at a0 a1 a2 a3 hq
          subst hq
          have hpos : (0 : Int) ≤ (q : Int) := by omega
          have hqa : (q : Int) ≤ (a.size : Int) := by omega
          have hxt : ((x ++ [endTk a]).take n).length = n := by rw [List.length_take, hlx]; omega
          have hzq : (a.extract 0 q).size = q := by rw [Lib.size_eq, Lib.extract_data, List.drop_zero, Nat.sub_zero, List.length_take, ← Lib.size_eq]; omega
          have cc := Lib.hid (fun W (hW : EnvL E W) => lex_row E _ _ n W hW (by omega) hcut hxt)
          rw [Nat.zero_add] at a0 a1 a2 a3
          have hga : ga < wr.heap.size := by have := hBq.size; omega
          have hsq := hBq.size
          have HXT := Lib.hid hxt
          have RA := Lib.hid (ra6.take n)
          have hin : (n : Int) < (mx : Int) + 1 := by omega
          clear hlx ht hcut hzq hxt
          go_wp2_with fail
          have hba : Below wr.heap.size wr (wr.alloc (.cells #[.int .i64 k0, .int .i64 (q : Int), .int .i64 k2, .string k3] 28)) := (Below.refl _ _).alloc (Nat.le_refl _) _
          refine (cc.out _ (E7.self hba (Nat.le_refl _))).mono ?_
          rintro e w7 ⟨⟨gc, capc, rfl, rc, lc, ltc, mxc⟩, hBc⟩
          have hBd := hBq.trans ((hba.trans (hBc.mono hba.size)).mono hBq.size)
          have RA2 := (RA.out.below hba hga).below hBc (by have := hba.size; omega)
          have szc := hBc.size
          have rc1 : RowAt w7 gc 0 ((x ++ [endTk a]).take n) := fun i hi => by
            have := rc i (by rw [List.length_append]; omega)
            simpa only [List.getElem_append_left hi] using this
          have hga7 : ga < w7.heap.size := by have := hba.size; omega
          have hsm : ∀ m, Calls Tryd.prog 9 #[.slice (some ⟨gc, 0, none⟩) n capc, .slice (some ⟨ga, 0, none⟩) n capa] (w7.drewN m) fun e w' => e = .returned (.bool true) ∧ Drawn (w7.drewN m) w' := fun m => by
            have hd := drewN_below (Below.refl w7.heap.size w7) m
            have := same_yes ((x ++ [endTk a]).take n) gc 0 capc ga 0 capa (w7.drewN m) (rc1.below hd ltc) (RA2.below hd hga7) (by rw [HXT.out]; omega)
            rwa [HXT.out] at this
          have HS := Lib.hid hsm
          have tg : ((n : Int) + 1 != (n : Int) + 1) = false := by simp
          unfold maxLen at mxc
          clear a0 a1 a2 a3 rc rc1 hsm hba RA2
          go_wp2_with fail
          go_quiet (first | (go_at_call 9; refine Calls.quiet_of (HS.out _)))
          go_wp2_with fail
          exact ⟨⟨n + 1, by omega, by go_num, drewN_below hBd nq⟩, by simp [intOf]; omega⟩
        · have hin : ¬ (n : Int) < (mx : Int) + 1 := by omega
          have hB10 := hB9.trans (hBq.mono hB9.size)
          go_wp2_with fail
          go_ret
          exact ⟨rfl, hB10⟩

theorem joins_all (E : Errs) (a b : ByteArray) (w : World) (hE : EnvL E w) :
    Calls Tryd.prog 4 #[.string a, .string b] w fun e w' => e = .returned (.bool true) ∧ Below w.heap.size w w' := by
  by_cases h1 : 1000 < (a.size : Int)
  · exact joins_long E a b w hE (.inl h1)
  · by_cases h2 : 1000 < (b.size : Int)
    · exact joins_long E a b w hE (.inr h2)
    · cases ha : toksOf a with
      | none => exact joins_bad E a b w hE (by omega) (by omega) (.inl ha)
      | some x =>
        cases hb : toksOf b with
        | none => exact joins_bad E a b w hE (by omega) (by omega) (.inr hb)
        | some y => exact joins_good E a b x y w hE (by omega) (by omega) ha hb
end Go.Proofs.YtabngleincejfaaDoor
