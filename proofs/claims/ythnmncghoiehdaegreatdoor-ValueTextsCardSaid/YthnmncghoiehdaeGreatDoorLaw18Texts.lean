/- The law ValueTexts, walked: a number's text is read as it, a text's is one token. -/
import Derived.Test.YthnmncghoiehdaeGreatDoorQuote
import Derived.Test.YthnmncghoiehdaeGreatDoorContent
import Derived.Test.YthnmncghoiehdaeGreatDoorPlain
import Derived.Test.YthnmncghoiehdaeGreatDoorNums
import Derived.Lib.AppendIntMem
import Derived.Deep.AppendLies
namespace Go.Proofs.YthnmncghoiehdaeGreatDoor
open Go.ChangeShapes Go.WideShapes Go.ChangeAt Go.RowKit

theorem from_uncons {s : ByteArray} {p : Nat} {c : UInt8} {r : List UInt8} (h : from_ s p = c :: r) : ∃ hp : p < s.size, s[p] = c ∧ from_ s (p + 1) = r := by
  have hp : p < s.size := by
    rcases Nat.lt_or_ge p s.size with h' | h'
    · exact h'
    · rw [from_end s p h'] at h; cases h
  rw [from_cons s p hp] at h
  injection h with h1 h2
  exact ⟨hp, h1, h2⟩

theorem dec_quoted (s : ByteArray) : ∀ (l : List UInt8) (p : Nat), from_ s p = l.flatMap escB ++ [34] → Dec s s.size p l
  | [], p, h => by
    obtain ⟨hp, h1, h2⟩ := from_uncons h
    refine .close hp h1 ?_
    have := from_length s (p + 1)
    rw [h2] at this
    simp at this; omega
  | c :: r, p, h => by
    rw [List.flatMap_cons, List.append_assoc] at h
    by_cases h10 : c = 10
    · have he : escB c = [92, 110] := by rw [escB, if_pos h10]
      rw [he] at h
      obtain ⟨hp, h1, h2⟩ := from_uncons h
      obtain ⟨hp2, h3, h4⟩ := from_uncons h2
      exact .esc hp2 h1 (.inl ⟨h3, h10⟩) (dec_quoted s r (p + 2) h4)
    · by_cases hq : c = 34 ∨ c = 92
      · have he : escB c = [92, c] := by rw [escB, if_neg h10, if_pos hq]
        rw [he] at h
        obtain ⟨hp, h1, h2⟩ := from_uncons h
        obtain ⟨hp2, h3, h4⟩ := from_uncons h2
        exact .esc hp2 h1 (.inr ⟨by rw [h3]; exact hq, h3.symm⟩) (dec_quoted s r (p + 2) h4)
      · have he : escB c = [c] := by rw [escB, if_neg h10, if_neg hq]
        rw [he] at h
        obtain ⟨hp, h1, h2⟩ := from_uncons h
        have := Dec.plain (e := s.size) hp (by rw [h1]; exact fun e => hq (.inl e)) (by rw [h1]; exact fun e => hq (.inr e)) (dec_quoted s r (p + 1) h2)
        rwa [h1] at this

/-- A text between quotes is one token. -/
theorem chain_quoted (wv : Value) (s : ByteArray) (T : ByteArray) (hT : T = ⟨(quoteL s.data.toList).toArray⟩) (hs : T.size ≤ 65536) : Chain wv T 0 [⟨4, 0, 0, s⟩] := by
  have h0 : from_ T 0 = 34 :: (s.data.toList.flatMap escB ++ [34]) := by subst hT; rfl
  obtain ⟨hp, h1, h2⟩ := from_uncons h0
  have hm : T.size ≤ maxLen := by unfold maxLen; omega
  have hsk : SkipsTo wv T 0 0 := fun W _ => (skip_stop T 0 hp W (by rw [h1]; rfl) (by rw [h0]; rfl)).mono fun e w' ⟨he, hw⟩ => ⟨he, hw ▸ Below.refl _ _⟩
  have hse : SkipsTo wv T T.size T.size := fun W _ => (skip_end T W).mono fun e w' ⟨he, hw⟩ => ⟨he, hw ▸ Below.refl _ _⟩
  have ht : Tells wv T 0 4 0 s T.size := fun W _ => by
    have := token_text T 0 T.size s.data.toList hp W hs (by rw [h1]; rfl) (dec_quoted T s.data.toList 1 h2)
    rw [Lib.mk_data] at this
    exact this
  exact .tok hsk (Nat.le_refl _) hp ht (by omega) (Nat.le_refl _) (.done hse)

theorem texts_long (n : Int) (s : ByteArray) (w : World) (hs : 3000 < (s.size : Int)) :
    Calls Tryz.prog 3 #[.int .i64 n, .string s] w fun e w' => e = .returned (.bool true) ∧ Below w.heap.size w w' := by
  go_enter Tryz.func3, Tryz.ntmps3
  go_wp2_with (go_at_call 4; refine (alive_is _).mono ?_; rintro e w' ⟨rfl, rfl⟩)
  go_ret
  exact ⟨rfl, (Below.refl _ _).alloc (Nat.le_refl _) _⟩

theorem below_grow (w : World) (k : Nat) (os : Array Obj) : Below w.heap.size w (Sort.grow (w.drewN k) os) := by
  refine ⟨rfl, rfl, rfl, ?_, fun i hi => ?_⟩
  · show w.heap.size ≤ (w.heap ++ os).size
    simp
  · show (w.heap ++ os)[i]? = w.heap[i]?
    rw [Array.getElem?_append, if_pos hi]

theorem int_any (n : Int) (w : World) (h0 : -9223372036854775808 ≤ n) (h1 : n ≤ 9223372036854775807) (htab : Lib.TabIs Tryz.prog w "internal/strconv.uint64pow10" .u64 Lib.pow10Tab) :
    Calls Tryz.prog 6 #[.int .i64 n] w fun e w' => e = .returned (.string ⟨(Lib.itoa n).toArray⟩) ∧ Below w.heap.size w w' := by
  have c := Tryz.strconv_FormatInt_10 n h0 h1 w htab
  have C := Lib.hid c
  clear c
  go_enter Tryz.func6, Tryz.ntmps6
  go_wp2_with (go_at_call 14; refine C.out.mono ?_; rintro e w' ⟨rfl, k, os, rfl⟩)
  go_ret
  exact ⟨rfl, below_grow w k os⟩

theorem text_any (s : ByteArray) (w : World) (hs : s.size ≤ 1000000) :
    Calls Tryz.prog 8 #[.string s] w fun e w' => e = .returned (.string ⟨(quoteL s.data.toList).toArray⟩) ∧ Below w.heap.size w w' := by
  go_enter Tryz.func8, Tryz.ntmps8
  go_wp2_with (go_at_call 17; refine (str_any s _ hs).mono ?_; rintro e w' ⟨rfl, hB⟩)
  go_ret
  exact ⟨rfl, hB⟩

theorem quoteL_le (l : List UInt8) : (quoteL l).length ≤ 2 + 2 * l.length := by
  have := quoted_le l
  unfold quoteL; rw [List.length_append]; simp; omega

theorem dec_half (u : Nat) : (Lib.decDigits u).length ≤ u / 2 + 1 := by
  induction u using Nat.strongRecOn with
  | _ u ih =>
    rw [Lib.decDigits.eq_def]
    split
    · simp
    · have := ih (u / 10) (by omega)
      simp only [List.length_append, List.length_cons, List.length_nil]
      omega

theorem itoa_le (n : Int) (h0 : -9223372036854775808 ≤ n) (h1 : n ≤ 9223372036854775807) : (⟨(Lib.itoa n).toArray⟩ : ByteArray).size ≤ 9223372036854775806 := by
  show (Lib.itoa n).toArray.size ≤ _
  have a := dec_half n.natAbs
  have b := dec_half n.toNat
  unfold Lib.itoa
  split
  · simp only [List.size_toArray, List.length_cons]; omega
  · simp only [List.size_toArray]; omega

set_option maxHeartbeats 1000000 in
theorem texts_short (n : Int) (s : ByteArray) (wv : Value) (w : World) (h0 : -9223372036854775808 ≤ n) (h1 : n ≤ 9223372036854775807) (hs : s.size ≤ 3000) (hE : Env wv w)
    (htab : Lib.TabIs Tryz.prog w "internal/strconv.uint64pow10" .u64 Lib.pow10Tab) :
    Calls Tryz.prog 3 #[.int .i64 n, .string s] w fun e w' => e = .returned (.bool true) ∧ Below w.heap.size w w' := by
  have T := Lib.hid (Lib.tabBelow_of_tabIs htab)
  have hs1 : (s.size : Int) ≤ 3000 := by omega
  have hE1 : ∀ W, Below w.heap.size w W → Env wv W := fun W hB => hE.below hB hE.wordAt
  have HE := Lib.hid hE1
  have cP : ∀ W : World, Calls Tryz.prog 5 #[.string ⟨(Lib.itoa n).toArray⟩, .int .i64 10, .int .i64 64] W fun e w' => e = .returned (.tuple #[.int .i64 n, .nilIface]) ∧ Below W.heap.size W w' := fun W =>
    (Tryz.strconv_ParseInt_10_at64_ok ⟨(Lib.itoa n).toArray⟩ (itoa_le n h0 h1) n (parse_itoa n h0 h1) W).mono fun e w' ⟨he, hw⟩ => ⟨he, by
      rcases hw with rfl | ⟨t, rfl⟩
      · exact Below.refl _ _
      · exact Lib.bytesWorld_below _ _ _⟩
  have CP := Lib.hid cP
  have cL : ∀ W : World, Below w.heap.size w W → Calls Tryz.prog 7 #[.string ⟨(quoteL s.data.toList).toArray⟩] W (Lexed W [⟨4, 0, 0, s⟩, endTk ⟨(quoteL s.data.toList).toArray⟩]) := fun W hB => by
    have hq : (⟨(quoteL s.data.toList).toArray⟩ : ByteArray).size ≤ 65536 := by
      have := quoteL_le s.data.toList
      rw [← Lib.size_eq] at this
      show (quoteL s.data.toList).toArray.size ≤ _
      simp; omega
    exact lex_chain wv _ _ W (hE1 W hB) hq (chain_quoted wv s _ rfl hq)
  have CL := Lib.hid cL
  clear htab hE hE1 cP cL
  go_enter Tryz.func3, Tryz.ntmps3
  go_wp2_with (go_at_call 4; refine (alive_is _).mono ?_; rintro e w' ⟨rfl, rfl⟩)
  have hB0 : Below w.heap.size w (numsIn w) := (Below.refl _ _).alloc (Nat.le_refl _) _
  refine (int_any n _ h0 h1 (T.out _ hB0)).mono ?_
  rintro e w1 ⟨rfl, hB1⟩
  have hB2 := hB0.trans (hB1.mono hB0.size)
  clear hB0 hB1
  go_wp2_with fail
  refine (CP.out _).mono ?_
  rintro e w3 ⟨rfl, hB3⟩
  have hB4 := hB2.trans (hB3.mono hB2.size)
  clear hB2 hB3
  go_wp2_with fail
  refine (text_any s _ (by omega)).mono ?_
  rintro e w5 ⟨rfl, hB5⟩
  have hB6 := hB4.trans (hB5.mono hB4.size)
  clear hB4 hB5
  go_wp2_with fail
  refine (CL.out _ hB6).mono ?_
  rintro e w7 ⟨v, rfl, hown, hB7⟩
  have hB8 := hB6.trans (hB7.mono hB6.size)
  clear hB6 hB7
  obtain ⟨g, cap, rfl, hg1, hg2⟩ := hown.form (by simp)
  have hcells := hown.cells (g := g) rfl
  have ha : ∀ j, (⟨g, 0, none⟩ : Addr).add j = ⟨g, j, none⟩ := fun j => by unfold Addr.add; split <;> simp_all
  have k0 : w7.cell? ⟨g, 0, none⟩ = some (.int .i64 4) := by rw [← ha 0]; exact hcells 0 _ rfl
  have k1 : w7.cell? ⟨g, 1, none⟩ = some (.int .i64 0) := by rw [← ha 1]; exact hcells 1 _ rfl
  have k2 : w7.cell? ⟨g, 2, none⟩ = some (.int .i64 0) := by rw [← ha 2]; exact hcells 2 _ rfl
  have k3 : w7.cell? ⟨g, 3, none⟩ = some (.string s) := by rw [← ha 3]; exact hcells 3 _ rfl
  clear ha
  clear hown hcells
  go_wp2_with fail
  go_ret
  exact ⟨rfl, hB8⟩
end Go.Proofs.YthnmncghoiehdaeGreatDoor
