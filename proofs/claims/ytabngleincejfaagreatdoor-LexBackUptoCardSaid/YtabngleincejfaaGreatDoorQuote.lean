/- What quote.Str writes of a text of at most a million bytes: it between two quotes, with what stands for some of its bytes. -/
import Derived.Test.YtabngleincejfaaGreatDoorRows
import Derived.Test.YtabngleincejfaaGreatDoorShelf
import Derived.WalkKit
import Derived.ProofKit
import Derived.OpenShut
import Derived.Deep.Light
import Derived.Deep.Draws
import Derived.Lib.Hide
import Derived.Lib.Strings
namespace Go.Proofs.YtabngleincejfaaGreatDoor
open Go.ChangeShapes Go.WideShapes Go.ChangeAt Go.RowKit

/-- What stands for a byte between two quotes. -/
def escB (c : UInt8) : List UInt8 := if c = 10 then [92, 110] else if c = 34 ∨ c = 92 then [92, c] else [c]
def quoted (l : List UInt8) : List UInt8 := 34 :: l.flatMap escB
def quoteL (l : List UInt8) : List UInt8 := quoted l ++ [34]

theorem quoted_snoc (l : List UInt8) (c : UInt8) : quoted (l ++ [c]) = quoted l ++ escB c := by simp [quoted]
theorem escB_le (c : UInt8) : (escB c).length ≤ 2 := by unfold escB; split <;> (try split) <;> simp
theorem quoted_le (l : List UInt8) : (quoted l).length ≤ 1 + 2 * l.length := by
  induction l with
  | nil => simp [quoted]
  | cons c r ih =>
    have := escB_le c
    simp only [quoted, List.flatMap_cons, List.length_cons, List.length_append] at *
    omega

/-- The bytes ahead of a place. -/
def ahead (s : ByteArray) (k : Nat) : List UInt8 := s.data.toList.take k
theorem ahead_snoc (s : ByteArray) (k : Nat) (h : k < s.size) : ahead s (k + 1) = ahead s k ++ [s[k]] := by
  unfold ahead
  rw [List.take_succ_eq_append_getElem (by simpa using h)]; rfl
theorem ahead_le (s : ByteArray) (k : Nat) : (ahead s k).length ≤ k := List.length_take_le _ _
theorem ahead_all (s : ByteArray) (k : Nat) (h : s.size ≤ k) : ahead s k = s.data.toList := by
  unfold ahead; exact List.take_of_length_le (by simpa using h)

theorem cells_snoc (l : List UInt8) (c : UInt8) : Lib.byteCells l ++ [.int .u8 (c.toNat : Int)] = Lib.byteCells (l ++ [c]) := by rw [Lib.byteCells_append]; rfl
theorem cells_quote : ([] : List Value) ++ [.int .u8 34] = Lib.byteCells (quoted []) := rfl
theorem cells_two (l : List UInt8) (c : UInt8) (h : c = 34 ∨ c = 92) : Lib.byteCells l ++ [.int .u8 92] ++ [.int .u8 (c.toNat : Int)] = Lib.byteCells (l ++ escB c) := by
  have hc : c ≠ 10 := by rcases h with rfl | rfl <;> decide
  rw [Lib.byteCells_append, escB, if_neg hc, if_pos h, List.append_assoc]; rfl
theorem cells_n (l : List UInt8) (c : UInt8) (h : c = 10) : Lib.byteCells l ++ Lib.strCells ⟨#[92, 110]⟩ = Lib.byteCells (l ++ escB c) := by
  rw [Lib.byteCells_append, escB, if_pos h]; rfl
theorem cells_one (l : List UInt8) (c : UInt8) (h : ¬ (c = 34 ∨ c = 92)) (h' : c ≠ 10) : Lib.byteCells l ++ [.int .u8 (c.toNat : Int)] = Lib.byteCells (l ++ escB c) := by
  rw [Lib.byteCells_append, escB, if_neg h', if_neg h]; rfl

theorem u8_is {c : UInt8} (d : UInt8) (h : (c.toNat : Int) = (d.toNat : Int)) : c = d := UInt8.toNat_inj.1 (by omega)

abbrev Held (B : Nat) (l : List UInt8) (w : World) : Prop := Lib.BuilderAt 52 5 B B (.pointer (some ⟨B, 0, none⟩)) (Lib.byteCells l) w

set_option maxHeartbeats 1100000 in
theorem str_any (s : ByteArray) (w : World) (hs : s.size ≤ 1100000) :
    Calls Tryz.prog 14 #[.string s] w fun e w' => e = .returned (.string ⟨(quoteL s.data.toList).toArray⟩) ∧ Below w.heap.size w w' := by
  have c0 : ∀ W : World, W = w.alloc (.cells #[.pointer none, .slice none 0 0] 52) → Calls Tryz.prog 20 #[.pointer (some ⟨w.heap.size, 0, none⟩), .int .i64 ((s.size : Int) + 2)] W fun e w' => e = .returned (.tuple #[]) ∧ (Lib.BuilderAt 52 5 w.heap.size w.heap.size (.pointer (some ⟨w.heap.size, 0, none⟩)) [] w' ∧ Below w.heap.size w w') := by
    rintro W rfl
    have := Tryz.Builder_Grow_fresh w.heap.size w.heap.size (s.size + 2) (w.alloc (.cells #[.pointer none, .slice none 0 0] 52)) (Nat.le_refl _) (heap_alloc_new w _) (by simp) (by omega)
    rw [Int.natCast_add] at this
    exact this.mono fun e w' ⟨he, hb, hB⟩ => ⟨he, hb, ((Below.refl _ _).alloc (Nat.le_refl _) _).trans hB⟩
  go_enter Tryz.func14, Tryz.ntmps14
  go_wp2_with fail
  refine (c0 _ rfl).mono ?_
  rintro e w1 ⟨rfl, hb1, hB1⟩
  go_wp2_with fail
  refine (Tryz.Builder_WriteByte w.heap.size w.heap.size [] 34 _ (.inr hb1) (by simp) hB1.size).mono ?_
  rintro e w2 ⟨rfl, hb2, hB2⟩
  rw [cells_quote] at hb2
  have hB3 := hB1.trans hB2
  go_wp2_with fail
  have hb2' : Held w.heap.size (quoted (ahead s 0)) w2 := hb2
  clear hb2 hb1 c0
  go_loopw [13] (fun v wr => ∃ k : Nat, k ≤ s.size ∧ v = .int .i64 k ∧ Held w.heap.size (quoted (ahead s k)) wr ∧ Below w.heap.size w wr) (fun v _ => s.size - (intOf v).toNat)
  case atStart => exact ⟨0, by omega, rfl, hb2', hB3⟩
  case round =>
    clear hb2' hB1 hB2 hB3
    obtain ⟨k, hk, rfl, hb, hB⟩ := hrel
    have hl := quoted_le (ahead s k)
    have hal := ahead_le s k
    by_cases hlt : k < s.size
    · have hsn := ahead_snoc s k hlt
      have HS : Hid (quoted (ahead s (k + 1)) = quoted (ahead s k) ++ escB s[k]) := by rw [hsn]; exact quoted_snoc _ _
      clear hsn
      by_cases h10 : s[k] = 10
      · have t1 : ((s[k].toNat : Int) == 10) = true := by rw [h10]; rfl
        have H10 := Lib.hid h10
        clear h10
        go_wp2_with fail
        refine (Tryz.Builder_WriteString w.heap.size w.heap.size _ ⟨#[92, 110]⟩ _ (.inr hb) (by rw [Lib.byteCells_length]; have : (⟨#[92, 110]⟩ : ByteArray).size = 2 := rfl; omega) hB.size).mono ?_
        rintro e w3 ⟨rfl, hb3, hB3⟩
        rw [cells_n _ _ H10.out, ← HS.out] at hb3
        have hB4 := hB.trans hB3
        go_wp2_with fail
        go_roundw
        case rel => exact ⟨k + 1, by omega, by go_num, hb3, hB4⟩
        case measure => simp [intOf]; omega
      · have t1 : ((s[k].toNat : Int) == 10) = false := by
          rw [beq_eq_false_iff_ne]; intro h; exact h10 (u8_is 10 h)
        have H10 := Lib.hid h10
        clear h10
        by_cases hq : s[k] = 34 ∨ s[k] = 92
        · have t2 : ((s[k].toNat : Int) == 34) = true ∨ ((s[k].toNat : Int) == 34) = false ∧ ((s[k].toNat : Int) == 92) = true := by
            rcases hq with h | h <;> rw [h] <;> decide
          have HQ := Lib.hid hq
          clear hq
          rcases t2 with t2 | ⟨t2, t3⟩
          all_goals
            go_wp2_with fail
            refine (Tryz.Builder_WriteByte w.heap.size w.heap.size _ 92 _ (.inr hb) (by rw [Lib.byteCells_length]; omega) hB.size).mono ?_
            rintro e w3 ⟨rfl, hb3, hB3⟩
            have hB4 := hB.trans hB3
            go_wp2_with fail
            refine (Tryz.Builder_WriteByte w.heap.size w.heap.size _ _ _ (.inr hb3) (by rw [List.length_append, Lib.byteCells_length]; simp; omega) hB4.size).mono ?_
            rintro e w5 ⟨rfl, hb5, hB5⟩
            have hB6 := hB4.trans hB5
            rw [cells_two _ _ HQ.out, ← HS.out] at hb5
            go_wp2_with fail
            go_roundw
            case rel => exact ⟨k + 1, by omega, by go_num, hb5, hB6⟩
            case measure => simp [intOf]; omega
        · have t2 : ((s[k].toNat : Int) == 34) = false := by
            rw [beq_eq_false_iff_ne]; intro h; exact hq (.inl (u8_is 34 h))
          have t3 : ((s[k].toNat : Int) == 92) = false := by
            rw [beq_eq_false_iff_ne]; intro h; exact hq (.inr (u8_is 92 h))
          have HQ := Lib.hid hq
          clear hq
          go_wp2_with fail
          refine (Tryz.Builder_WriteByte w.heap.size w.heap.size _ _ _ (.inr hb) (by rw [Lib.byteCells_length]; omega) hB.size).mono ?_
          rintro e w5 ⟨rfl, hb5, hB5⟩
          have hB6 := hB.trans hB5
          rw [cells_one _ _ HQ.out H10.out, ← HS.out] at hb5
          go_wp2_with fail
          go_roundw
          case rel => exact ⟨k + 1, by omega, by go_num, hb5, hB6⟩
          case measure => simp [intOf]; omega
    · have hall := ahead_all s k (by omega)
      rw [hall] at hb
      clear hall
      go_wp2_with fail
      refine (Tryz.Builder_WriteByte w.heap.size w.heap.size _ 34 _ (.inr hb) (by rw [Lib.byteCells_length]; have := quoted_le s.data.toList; rw [← Lib.size_eq] at this; omega) hB.size).mono ?_
      rintro e w5 ⟨rfl, hb5, hB5⟩
      have hB6 := hB.trans hB5
      have hb6 : Held w.heap.size (quoteL s.data.toList) w5 := by
        have := hb5
        rw [show (.int .u8 34 : Value) = .int .u8 ((34 : UInt8).toNat : Int) from rfl, cells_snoc] at this
        exact this
      clear hb5
      go_wp2_with fail
      refine (Tryz.Builder_String_any w.heap.size w.heap.size _ _ (.inr hb6) hB6.size).mono ?_
      rintro e w7 ⟨rfl, hB7⟩
      have hB8 := hB6.trans hB7
      go_wp2_with fail
      go_ret
      exact ⟨rfl, hB8⟩
end Go.Proofs.YtabngleincejfaaGreatDoor
