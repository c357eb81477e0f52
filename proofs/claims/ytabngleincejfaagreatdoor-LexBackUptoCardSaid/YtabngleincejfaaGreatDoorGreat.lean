/- Lex at a number that is too great: it tells ErrLex, and the place. -/
import Derived.Test.YtabngleincejfaaGreatDoorChain
import Derived.Test.YtabngleincejfaaGreatDoorAs
import Derived.Outline
namespace Go.Proofs.YtabngleincejfaaGreatDoor
open Go.ChangeShapes Go.WideShapes Go.ChangeAt Go.RowKit

/-- What the errors lie as that a number too great leads to. -/
structure Env2 (tp : TypeId) (pv : Value) (T2 : TypeId) (v2 : Value) (W : World) : Prop where
  number : W.cell? ⟨3, 0, none⟩ = some (.iface T2 v2)
  range : W.var? Tryz.prog "strconv.ErrRange" = some #[.iface tp pv]
  et : W.cell? ⟨0, 0, none⟩ = some (.iface 90 (.agg #[.pointer (some ⟨12, 38, none⟩)]))
  at_ : 12 ≤ W.heap.size
theorem gRange : Tryz.prog.globalNamed "strconv.ErrRange" = some 11 := by kernel_rfl
theorem Env2.below {tp : TypeId} {pv : Value} {T2 : TypeId} {v2 : Value} {W W' : World} {B : Nat} (h : Env2 tp pv T2 v2 W) (hB : Below B W W') (hb : 12 ≤ B) : Env2 tp pv T2 v2 W' where
  number := (hB.cell (p := ⟨3, 0, none⟩) (Nat.lt_of_lt_of_le (by decide) hb)).trans h.number
  range := by
    have := h.range
    unfold World.var? at this ⊢
    rw [gRange] at this ⊢
    simp only [Option.bind_some] at this ⊢
    rw [hB.block 11 (Nat.lt_of_lt_of_le (by decide) hb)]
    exact this
  et := (hB.cell (p := ⟨0, 0, none⟩) (Nat.lt_of_lt_of_le (by decide) hb)).trans h.et
  at_ := Nat.le_trans h.at_ hB.size

set_option maxHeartbeats 1000000 in
theorem token_great (tp : TypeId) (pv : Value) (T2 : TypeId) (v2 : Value) (s : ByteArray) (i : Nat) (hi : i < s.size) (w : World) (hE : Env2 tp pv T2 v2 w) (hs : s.size ≤ 65536) (h1 : sortF (s[i].toNat : Int) = 2) (v : Int) (hv : v = Lib.intSat 64 (s.extract i (i + numLen (from_ s i))).data.toList) (h2 : Lib.parseIntB 64 (s.extract i (i + numLen (from_ s i))).data.toList = .range) :
    Calls Tryz.prog 25 #[.string s, .int .i64 i] w fun e w' => e = .returned (tokenV 3 v ⟨#[]⟩ ((i : Int) + (numLen (from_ s i) : Int)) (.iface T2 v2)) ∧ Below w.heap.size w w' := by
  have hle := numLen_le s i
  have hS := sortOf_any (s[i].toNat : Int)
  rw [h1] at hS
  have SC := Lib.hid hS
  have hz : (s.extract i (i + numLen (from_ s i))).size = numLen (from_ s i) := by
    rw [Lib.size_eq, Lib.extract_data, List.length_take, List.length_drop, ← Lib.size_eq]; omega
  have c : ∀ W : World, Env2 tp pv T2 v2 W → Calls Tryz.prog 44 #[.string (s.extract i (i + numLen (from_ s i))), .int .i64 10, .int .i64 64] W fun e w' => ∃ N : Nat, e = .returned (.tuple #[.int .i64 v, .iface 120 (.pointer (some ⟨N, 0, none⟩))]) ∧ Below W.heap.size W w' := fun W hW =>
    (Tryz.strconv_ParseInt_10_at64_range_var (s.extract i (i + numLen (from_ s i))) (by omega) h2 tp pv W hW.range).mono fun e w' ⟨N, he, _, _, hw⟩ => ⟨N, by rw [hv]; exact he, hw⟩
  have C := Lib.hid c
  have b1 : (i : Int) < (s.size : Int) := by omega
  have HE := Lib.hid hE
  clear c hS h1 hz h2 hE hv
  go_enter Tryz.func25, Tryz.ntmps25
  go_wp2_with (first | (go_at_call 30; refine (SC.out _).mono ?_; rintro e w' ⟨rfl, rfl⟩))
  go_loopw [12] (fun x wr => ∃ k : Nat, i ≤ k ∧ k ≤ s.size ∧ x = .int .i64 k ∧ wr = w.alloc (.cells #[.int .i64 0, .int .i64 0, .int .i64 0, .string ⟨#[]⟩] 25) ∧ ∀ j (h : j < s.size), i ≤ j → j < k → digitC s[j] = true) (fun x _ => s.size - (intOf x).toNat)
  case atStart => exact ⟨i, by omega, by omega, rfl, rfl, fun j h h2 h3 => by omega⟩
  case round =>
    obtain ⟨k, hk, hks, rfl, rfl, hall⟩ := hrel
    have HA := Lib.hid hall
    clear hall
    by_cases hlt : k < s.size
    · cases hr : digitC s[k]
      · have hnl := numLen_is s i k hk hks HA.out (fun _ => hr)
        have HN := Lib.hid hnl
        have hd : digitB (s[k].toNat : Int) = false := hr
        clear hnl hr
        have he : i + (k - i) = k := by omega
        have CK : ∀ W : World, Env2 tp pv T2 v2 W → Calls Tryz.prog 44 #[.string (s.extract i k), .int .i64 10, .int .i64 64] W fun e w' => ∃ N : Nat, e = .returned (.tuple #[.int .i64 v, .iface 120 (.pointer (some ⟨N, 0, none⟩))]) ∧ Below W.heap.size W w' := by
          have := C.out
          rw [HN.out, he] at this
          exact this
        have DK := Lib.hid CK
        clear CK he
        have b2 : (i : Int) ≤ (k : Int) := by omega
        have b3 : (k : Int) ≤ (s.size : Int) := by omega
        go_wp2_with (first | (go_at_call 32; refine (isDigit_any _ _).mono ?_; rintro e w' ⟨rfl, rfl⟩))
        refine (DK.out _ (HE.out.below ((Below.refl _ _).alloc (Nat.le_refl _) _) HE.out.at_)).mono ?_
        rintro e w1 ⟨N, rfl, hB⟩
        have hB' : Below (w.alloc tokObj).heap.size (w.alloc tokObj) w1 := hB
        obtain ⟨k0, k1, k2, k3, kf⟩ := tok_cells hB'
        have hEn := (HE.out.below (((Below.refl _ _).alloc (Nat.le_refl _) _).trans (hB'.mono (by simp))) HE.out.at_).number
        have hBw : Below w.heap.size w w1 := ((Below.refl _ _).alloc (Nat.le_refl _) _).trans (hB'.mono (by simp))
        clear hB hB'
        go_wp2_with fail
        refine bodyPost_ret (v := tokenV 3 v ⟨#[]⟩ (k : Int) (.iface T2 v2)) (by simp [results, Tryz.results25, go_sem, tokenV, k0, k1, k2, k3]) rfl ⟨by rw [HN.out, show (i : Int) + ((k - i : Nat) : Int) = (k : Int) from by omega], ?_⟩
        exact set4 hBw _ (Nat.le_refl _) _ _ _ _
      · have HR := Lib.hid hr
        have hd : digitB (s[k].toNat : Int) = true := hr
        clear hr
        go_wp2_with (first | (go_at_call 32; refine (isDigit_any _ _).mono ?_; rintro e w' ⟨rfl, rfl⟩))
        go_roundw
        case rel => exact ⟨k + 1, by omega, by omega, by go_num, trivial, fun j h h2 h3 => by
          rcases Nat.lt_or_ge j k with hj | hj
          · exact HA.out j h h2 hj
          · have : j = k := by omega
            subst this; exact HR.out⟩
        case measure => simp [intOf]; omega
    · have hnl := numLen_is s i k hk hks HA.out (fun h => by omega)
      have HN := Lib.hid hnl
      clear hnl
      have he : i + (k - i) = k := by omega
      have CK : ∀ W : World, Env2 tp pv T2 v2 W → Calls Tryz.prog 44 #[.string (s.extract i k), .int .i64 10, .int .i64 64] W fun e w' => ∃ N : Nat, e = .returned (.tuple #[.int .i64 v, .iface 120 (.pointer (some ⟨N, 0, none⟩))]) ∧ Below W.heap.size W w' := by
        have := C.out
        rw [HN.out, he] at this
        exact this
      have DK := Lib.hid CK
      clear CK he
      have b2 : (i : Int) ≤ (k : Int) := by omega
      have b3 : (k : Int) ≤ (s.size : Int) := by omega
      go_wp2_with (first | (go_at_call 32; refine (isDigit_any _ _).mono ?_; rintro e w' ⟨rfl, rfl⟩))
      refine (DK.out _ (HE.out.below ((Below.refl _ _).alloc (Nat.le_refl _) _) HE.out.at_)).mono ?_
      rintro e w1 ⟨N, rfl, hB⟩
      have hB' : Below (w.alloc tokObj).heap.size (w.alloc tokObj) w1 := hB
      obtain ⟨k0, k1, k2, k3, kf⟩ := tok_cells hB'
      have hEn := (HE.out.below (((Below.refl _ _).alloc (Nat.le_refl _) _).trans (hB'.mono (by simp))) HE.out.at_).number
      have hBw : Below w.heap.size w w1 := ((Below.refl _ _).alloc (Nat.le_refl _) _).trans (hB'.mono (by simp))
      clear hB hB'
      go_wp2_with fail
      refine bodyPost_ret (v := tokenV 3 v ⟨#[]⟩ (k : Int) (.iface T2 v2)) (by simp [results, Tryz.results25, go_sem, tokenV, k0, k1, k2, k3]) rfl ⟨by rw [HN.out, show (i : Int) + ((k - i : Nat) : Int) = (k : Int) from by omega], ?_⟩
      exact set4 hBw _ (Nat.le_refl _) _ _ _ _

end Go.Proofs.YtabngleincejfaaGreatDoor
