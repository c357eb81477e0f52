/- What the document's own answers come to: a number's digits, a number as a text, a text between quotes. -/
import Derived.Test.YthnmncghoiehdadDoorQuote
import Derived.Deep.RegionWith
import Derived.Lib.ItoaNum
import Derived.Outline
namespace Go.Proofs.YthnmncghoiehdadDoor
open Go.ChangeShapes Go.WideShapes Go.ChangeAt Go.RowKit

/-- A text of one byte. -/
def oneB (c : Int) : ByteArray := ⟨#[UInt8.ofNat c.toNat]⟩
theorem oneB_data (c : Int) : (oneB c).data.toList = [UInt8.ofNat c.toNat] := rfl

theorem conv1 (c : Int) (W : World) (b : Nat) (h : W.cell? ⟨b, 0, none⟩ = some (.int .u8 c)) : (convert 44 9 (.slice (some ⟨b, 0, none⟩) 1 1)).run Tryd.prog W = .ok (.string (oneB c)) W := by
  have := run_convert_bytes_arg (P := Tryd.prog) W 44 5 Tryd.underlying44 Tryd.underlying5 b 0 1 1 [c] rfl (fun i hi => by
    obtain rfl : i = 0 := by omega
    simpa using h) 9 Tryd.underlying9
  simpa [strOfNums, oneB] using this

theorem bcell {W w1 : World} (hb : Below W.heap.size W w1) : (∀ b o, b < W.heap.size → w1.cell? ⟨b, o, none⟩ = W.cell? ⟨b, o, none⟩) :=
  fun b o h => hb.cell (p := ⟨b, o, none⟩) h

theorem bs_eq {a : ByteArray} {l : List UInt8} (h : a.data.toList = l) : a = ⟨l.toArray⟩ := by subst h; exact (Lib.mk_data a).symm
theorem ret_str {a : ByteArray} {l : List UInt8} (h : a.data.toList = l) : Ending.returned (.string a) = .returned (.string ⟨l.toArray⟩) := by rw [bs_eq h]
theorem app_data (a b : ByteArray) : (a ++ b).data.toList = a.data.toList ++ b.data.toList := by simp [ByteArray.data_append]

theorem dec_le (u : Nat) : (Lib.decDigits u).length ≤ u + 1 := by
  induction u using Nat.strongRecOn with
  | _ u ih =>
    rw [Lib.decDigits.eq_def]
    split
    · simp
    · have := ih (u / 10) (by omega)
      simp only [List.length_append, List.length_cons, List.length_nil]
      omega

theorem digits_any (k : Nat) : ∀ (n : Int) (w : World), 0 ≤ n → n ≤ 9223372036854775807 → n.toNat < k →
    Calls Tryd.prog 19 #[.int .i64 n] w fun e w' => e = .returned (.string ⟨(Lib.decDigits n.toNat).toArray⟩) ∧ Below w.heap.size w w' := by
  induction k with
  | zero => intro n w _ _ h; omega
  | succ k ih =>
    intro n w h0 h1 hk
    by_cases hn : n < 10
    · have hd : ([UInt8.ofNat (48 + n).toNat] : List UInt8) = Lib.decDigits n.toNat := by rw [Lib.decDigits_one (i := n.toNat) (by omega), show (48 + n).toNat = 48 + n.toNat from by omega]
      have HD := Lib.hid hd
      clear hd ih
      have e3 : IntKind.i64.wrap (48 + n) = 48 + n := IntWalk.i64_in _ (by omega)
      have e4 : IntKind.u8.wrap (48 + n) = 48 + n := IntWalk.u8_in _ (by omega)
      have cv := conv1 (48 + n)
      go_enter Tryd.func19, Tryd.ntmps19
      go_wp2_with fail
      go_ret
      exact ⟨ret_str HD.out, (Below.refl _ _).alloc (Nat.le_refl _) _⟩
    · have IH := Lib.hid ih
      clear ih
      have hd : Lib.decDigits (n / 10).toNat ++ [UInt8.ofNat (48 + n % 10).toNat] = Lib.decDigits n.toNat := by
        rw [Lib.decDigits.eq_def n.toNat, dif_neg (by omega), show (n / 10).toNat = n.toNat / 10 from by omega, show (48 + n % 10).toNat = 48 + n.toNat % 10 from by omega]
      have HD := Lib.hid hd
      clear hd
      have e1 : IntKind.i64.wrap (n.tdiv 10) = n / 10 := by rw [Int.tdiv_eq_ediv_of_nonneg h0]; exact IntWalk.i64_in _ (by omega)
      have e2 : n.tmod 10 = n % 10 := Int.tmod_eq_emod_of_nonneg h0
      have e3 : IntKind.i64.wrap (48 + n % 10) = 48 + n % 10 := IntWalk.i64_in _ (by omega)
      have e4 : IntKind.u8.wrap (48 + n % 10) = 48 + n % 10 := IntWalk.u8_in _ (by omega)
      have cv := conv1 (48 + n % 10)
      have hdl : (Lib.decDigits (n / 10).toNat).length ≤ 922337203685477590 := by have := dec_le (n / 10).toNat; omega
      have hol : (oneB (48 + n % 10)).size ≤ 1 := Nat.le_refl _
      go_enter Tryd.func19, Tryd.ntmps19
      go_wp2_with fail
      go_region_with (go_at_call 19; refine (IH.out _ _ (by omega) (by omega) (by omega)).mono ?_; rintro e w' ⟨rfl, hB⟩; have hc := bcell hB; have hz := hB.size)
      all_goals
        go_wp2
        go_ret
        refine ⟨ret_str (by rw [app_data]; exact HD.out), ?_⟩
        first
        | exact Below.alloc (⟨hB.os, hB.tape, hB.output, hB.size, hB.block⟩ : Below w.heap.size w w') (by simpa using hB.size) _
        | exact ((Below.refl w.heap.size w).drew.alloc (Nat.le_refl _) _).trans (hB.mono (by simp))

theorem refQuote_any (s : ByteArray) (w : World) (hs : s.size ≤ 1000000) :
    Calls Tryd.prog 14 #[.string s] w fun e w' => e = .returned (.string ⟨(quoteL s.data.toList).toArray⟩) ∧ w = w' := by
  go_enter Tryd.func14, Tryd.ntmps14
  go_wp2
  go_loop [3, 4] (fun o v => ∃ k : Nat, k ≤ s.size ∧ v = .int .i64 k ∧ o = .string ⟨(quoted (ahead s k)).toArray⟩) (fun _ v => s.size - (intOf v).toNat)
  case atStart => exact ⟨0, by omega, rfl, rfl⟩
  case round =>
    obtain ⟨k, hk, rfl, rfl⟩ := hrel
    have hl := quoted_le (ahead s k)
    have hal := ahead_le s k
    by_cases hlt : k < s.size
    · have b1 : (k : Int) ≤ (k : Int) + 1 := by omega
      have b2 : (k : Int) + 1 ≤ (s.size : Int) := by omega
      have hsn := ahead_snoc s k hlt
      have HS : Hid (quoted (ahead s (k + 1)) = quoted (ahead s k) ++ escB s[k]) := by rw [hsn]; exact quoted_snoc _ _
      clear hsn
      have hx : (s.extract k (k + 1)).data.toList = [s[k]] := by
        rw [Lib.extract_data, List.drop_eq_getElem_cons (by simpa using hlt), Nat.add_sub_cancel_left]; rfl
      have HX := Lib.hid hx
      clear hx
      by_cases hq : s[k] = 34 ∨ s[k] = 92
      · have t2 : ((s[k].toNat : Int) == 92) = true ∨ ((s[k].toNat : Int) == 92) = false ∧ ((s[k].toNat : Int) == 34) = true := by
          rcases hq with h | h <;> rw [h] <;> decide
        have he : escB s[k] = [92, s[k]] := by
          have hc : s[k] ≠ 10 := by rcases hq with h | h <;> rw [h] <;> decide
          rw [escB, if_neg hc, if_pos hq]
        have HE := Lib.hid he
        clear hq he
        rcases t2 with t2 | ⟨t2, t3⟩
        all_goals
          go_wp2
          go_round
          case rel => exact ⟨k + 1, by omega, by go_num, congrArg Value.string (bs_eq (by rw [app_data, app_data, HX.out, HS.out, HE.out]; rfl))⟩
          case measure => simp [intOf]; omega
      · have t2 : ((s[k].toNat : Int) == 34) = false := by
          rw [beq_eq_false_iff_ne]; intro h; exact hq (.inl (u8_is 34 h))
        have t3 : ((s[k].toNat : Int) == 92) = false := by
          rw [beq_eq_false_iff_ne]; intro h; exact hq (.inr (u8_is 92 h))
        by_cases h10 : s[k] = 10
        · have t1 : ((s[k].toNat : Int) == 10) = true := by rw [h10]; rfl
          have he : escB s[k] = [92, 110] := by rw [escB, if_pos h10]
          have HE := Lib.hid he
          clear hq he h10
          go_wp2
          go_round
          case rel => exact ⟨k + 1, by omega, by go_num, congrArg Value.string (bs_eq (by rw [app_data, HS.out, HE.out]))⟩
          case measure => simp [intOf]; omega
        · have t1 : ((s[k].toNat : Int) == 10) = false := by
            rw [beq_eq_false_iff_ne]; intro h; exact h10 (u8_is 10 h)
          have he : escB s[k] = [s[k]] := by rw [escB, if_neg h10, if_neg hq]
          have HE := Lib.hid he
          clear hq he h10
          go_wp2
          go_round
          case rel => exact ⟨k + 1, by omega, by go_num, congrArg Value.string (bs_eq (by rw [app_data, HX.out, HS.out, HE.out]))⟩
          case measure => simp [intOf]; omega
    · have hall := ahead_all s k (by omega)
      have HA := Lib.hid hall
      clear hall
      go_wp2
      go_ret
      exact ⟨ret_str (by rw [app_data, HA.out]; rfl), rfl⟩
end Go.Proofs.YthnmncghoiehdadDoor
