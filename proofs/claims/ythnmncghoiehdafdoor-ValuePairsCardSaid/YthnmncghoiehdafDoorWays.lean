/- The texts of bools and of whole numbers as tokens. -/
import Derived.Test.YthnmncghoiehdafDoorBad
import Derived.Test.YthnmncghoiehdafDoorPlain
namespace Go.Proofs.YthnmncghoiehdafDoor
open Go.ChangeShapes Go.WideShapes Go.ChangeAt Go.RowKit

theorem dec_pow : ∀ (k u : Nat), u < 10 ^ (k + 1) → (Lib.decDigits u).length ≤ k + 1
  | 0, u, h => by
    rw [Lib.decDigits.eq_def, dif_pos (by simpa using h)]; simp
  | k + 1, u, h => by
    rw [Lib.decDigits.eq_def]
    split
    · simp
    · have := dec_pow k (u / 10) (by rw [Nat.pow_succ] at h; omega)
      simp only [List.length_append, List.length_cons, List.length_nil]; omega

theorem dec_all (u : Nat) : ∀ c ∈ Lib.decDigits u, 48 ≤ c.toNat ∧ c.toNat ≤ 57 := by
  induction u using Nat.strongRecOn with
  | _ u ih =>
    rw [Lib.decDigits.eq_def]
    split
    · rename_i h
      intro c hc
      simp only [List.mem_singleton] at hc
      subst hc; rw [digit_nat u h]; omega
    · rename_i h
      intro c hc
      rcases List.mem_append.1 hc with hc | hc
      · exact ih (u / 10) (by omega) c hc
      · simp only [List.mem_singleton] at hc
        subst hc; rw [digit_nat (u % 10) (by omega)]; omega

theorem digit_ten {c : UInt8} (h : 48 ≤ c.toNat ∧ c.toNat ≤ 57) : c = 48 ∨ c = 49 ∨ c = 50 ∨ c = 51 ∨ c = 52 ∨ c = 53 ∨ c = 54 ∨ c = 55 ∨ c = 56 ∨ c = 57 := by
  have e : ∀ d : UInt8, c.toNat = d.toNat → c = d := fun d hd => UInt8.toNat_inj.1 hd
  have h1 : c.toNat = 48 ∨ c.toNat = 49 ∨ c.toNat = 50 ∨ c.toNat = 51 ∨ c.toNat = 52 ∨ c.toNat = 53 ∨ c.toNat = 54 ∨ c.toNat = 55 ∨ c.toNat = 56 ∨ c.toNat = 57 := by omega
  rcases h1 with h | h | h | h | h | h | h | h | h | h
  · exact .inl (e 48 h)
  · exact .inr (.inl (e 49 h))
  · exact .inr (.inr (.inl (e 50 h)))
  · exact .inr (.inr (.inr (.inl (e 51 h))))
  · exact .inr (.inr (.inr (.inr (.inl (e 52 h)))))
  · exact .inr (.inr (.inr (.inr (.inr (.inl (e 53 h))))))
  · exact .inr (.inr (.inr (.inr (.inr (.inr (.inl (e 54 h)))))))
  · exact .inr (.inr (.inr (.inr (.inr (.inr (.inr (.inl (e 55 h))))))))
  · exact .inr (.inr (.inr (.inr (.inr (.inr (.inr (.inr (.inl (e 56 h)))))))))
  · exact .inr (.inr (.inr (.inr (.inr (.inr (.inr (.inr (.inr (e 57 h)))))))))
theorem digit_blank {c : UInt8} (h : 48 ≤ c.toNat ∧ c.toNat ≤ 57) : blankB (c.toNat : Int) = false := by
  rcases digit_ten h with rfl | rfl | rfl | rfl | rfl | rfl | rfl | rfl | rfl | rfl <;> rfl
theorem digit_sort {c : UInt8} (h : 48 ≤ c.toNat ∧ c.toNat ≤ 57) : sortF (c.toNat : Int) = 2 := by
  rcases digit_ten h with rfl | rfl | rfl | rfl | rfl | rfl | rfl | rfl | rfl | rfl <;> rfl
theorem digit_is {c : UInt8} (h : 48 ≤ c.toNat ∧ c.toNat ≤ 57) : digitC c = true := by
  rcases digit_ten h with rfl | rfl | rfl | rfl | rfl | rfl | rfl | rfl | rfl | rfl <;> rfl
theorem digit_open {c : UInt8} (h : 48 ≤ c.toNat ∧ c.toNat ≤ 57) (r : List UInt8) : Lib.hasPrefix (c :: r) [40, 42] = false := by
  rcases digit_ten h with rfl | rfl | rfl | rfl | rfl | rfl | rfl | rfl | rfl | rfl <;> rfl
theorem digit_sym {c : UInt8} (h : 48 ≤ c.toNat ∧ c.toNat ≤ 57) : symB ⟨#[45, c]⟩ = false := by
  unfold symB
  simp only [Lib.toList_data]
  rcases digit_ten h with rfl | rfl | rfl | rfl | rfl | rfl | rfl | rfl | rfl | rfl <;> rfl
theorem minus_sym : symB ⟨#[45]⟩ = true := by
  unfold symB
  simp only [Lib.toList_data]
  rfl

theorem while_all (p : UInt8 → Bool) : ∀ l : List UInt8, (∀ c ∈ l, p c = true) → l.takeWhile p = l
  | [], _ => rfl
  | c :: r, h => by rw [List.takeWhile_cons, if_pos (h c (by simp)), while_all p r (fun d hd => h d (by simp [hd]))]

/-- What stands where digits stand to the end. -/
theorem tail_facts (T : ByteArray) (i u : Nat) (h : from_ T i = Lib.decDigits u) : ∃ hi : i < T.size, sortF (T[i].toNat : Int) = 2 ∧ numLen (from_ T i) = T.size - i ∧ (T.extract i (i + numLen (from_ T i))).data.toList = Lib.decDigits u ∧ blankB (T[i].toNat : Int) = false ∧ Lib.hasPrefix (from_ T i) [40, 42] = false := by
  obtain ⟨c, r, hd, hc⟩ := dec_head u
  have hi : i < T.size := by
    rcases Nat.lt_or_ge i T.size with h' | h'
    · exact h'
    · rw [from_end T i h', hd] at h; cases h
  have hTi : T[i] = c := by
    rw [from_cons T i hi, hd] at h; injection h
  have hn : numLen (from_ T i) = T.size - i := by
    unfold numLen
    rw [h, while_all digitC _ (fun c hc => digit_is (dec_all u c hc)), ← h, from_length]
  refine ⟨hi, by rw [hTi]; exact digit_sort hc, hn, ?_, by rw [hTi]; exact digit_blank hc, by rw [h, hd]; exact digit_open hc r⟩
  rw [Lib.extract_data, hn]
  show List.take _ (from_ T i) = _
  rw [h, List.take_of_length_le]
  rw [← h, from_length]; omega

theorem skips_stop (wv : Value) (T : ByteArray) (i : Nat) (hi : i < T.size) (hb : blankB (T[i].toNat : Int) = false) (hp : Lib.hasPrefix (from_ T i) [40, 42] = false) : SkipsTo wv T i i :=
  fun W _ => (skip_stop T i hi W hb hp).mono fun _ _ ⟨he, hw⟩ => ⟨he, hw ▸ Below.refl _ _⟩
theorem skips_end (wv : Value) (T : ByteArray) : SkipsTo wv T T.size T.size := fun W _ => (skip_end T W).mono fun _ _ ⟨he, hw⟩ => ⟨he, hw ▸ Below.refl _ _⟩

/-- Digits to the end are one token. -/
theorem chain_digits (wv : Value) (T : ByteArray) (i u : Nat) (hs : T.size ≤ 65536) (hu : u ≤ 9223372036854775807) (h : from_ T i = Lib.decDigits u) : Chain wv T i [⟨3, i, u, ⟨#[]⟩⟩] := by
  obtain ⟨hi, h1, h2, h3, h4, h5⟩ := tail_facts T i u h
  refine .tok (e := T.size) (skips_stop wv T i hi h4 h5) (Nat.le_refl _) hi ?_ hi (Nat.le_refl _) (.done (skips_end wv T))
  intro W _
  have hp : Lib.parseIntB 64 (T.extract i (i + numLen (from_ T i))).data.toList = .ok (u : Int) := by
    rw [h3]
    have := parse_itoa (u : Int) (by omega) (by omega)
    unfold Lib.itoa at this
    rw [if_neg (by omega)] at this
    exact this
  have := token_digit T i hi W hs h1 (u : Int) hp
  rw [show (i : Int) + (numLen (from_ T i) : Int) = (T.size : Int) from by omega] at this
  exact this

/-- A minus sign and digits: the sign's token. -/
theorem minus_facts (T : ByteArray) (u : Nat) (h : T.data.toList = 45 :: Lib.decDigits u) : ∃ hi : 0 < T.size, T[0] = 45 ∧ from_ T 0 = 45 :: Lib.decDigits u ∧ from_ T 1 = Lib.decDigits u ∧ 2 ≤ T.size ∧ T.extract 0 1 = ⟨#[45]⟩ ∧ symB (T.extract 0 2) = false := by
  obtain ⟨c, r, hd, hc⟩ := dec_head u
  have hsz : T.size = 1 + (1 + r.length) := by rw [Lib.size_eq, h, hd]; simp; omega
  have hi : 0 < T.size := by omega
  have h0 : from_ T 0 = 45 :: Lib.decDigits u := h
  have h1 : from_ T 1 = Lib.decDigits u := by unfold from_; rw [h]; rfl
  have hT : T[0] = 45 := by
    have := from_cons T 0 hi
    rw [h0] at this; injection this with a b; exact a.symm
  have e1 : T.extract 0 1 = ⟨#[45]⟩ := by
    have : (T.extract 0 1).data.toList = [45] := by rw [Lib.extract_data, h]; rfl
    rw [← Lib.mk_data (T.extract 0 1), this]
  have e2 : T.extract 0 2 = ⟨#[45, c]⟩ := by
    have : (T.extract 0 2).data.toList = [45, c] := by rw [Lib.extract_data, h, hd]; rfl
    rw [← Lib.mk_data (T.extract 0 2), this]
  exact ⟨hi, hT, h0, h1, by omega, e1, by rw [e2]; exact digit_sym hc⟩

theorem tells_minus (wv : Value) (T : ByteArray) (u : Nat) (hs : T.size ≤ 65536) (h : T.data.toList = 45 :: Lib.decDigits u) : SkipsTo wv T 0 0 ∧ Tells wv T 0 6 0 ⟨#[45]⟩ 1 := by
  obtain ⟨hi, hT, h0, h1, h2, e1, e2⟩ := minus_facts T u h
  refine ⟨skips_stop wv T 0 hi (by rw [hT]; rfl) (by rw [h0]; rfl), ?_⟩
  intro W _
  have hx : T.extract 0 T.size = T := by
    have : (T.extract 0 T.size).data.toList = T.data.toList := by rw [Lib.extract_data, List.drop_zero, List.take_of_length_le]; rw [← Lib.size_eq]; omega
    rw [← Lib.mk_data (T.extract 0 T.size), this, Lib.mk_data]
  have := token_sym T 0 hi 1 (by omega) W (by unfold maxLen; omega) (by rw [hT]; rfl) (by omega) (fun W' => by
    rw [hx]
    exact symbol_one T W' (by omega) (fun _ => e2) (by rw [e1]; exact minus_sym))
  rw [show (0 : Nat) + 1 = 1 from rfl, e1] at this
  exact this

/-- A number's text that is at least 0. -/
theorem chain_pos (wv : Value) (n : Int) (h0 : 0 ≤ n) (h1 : n ≤ 9223372036854775807) : (⟨(Lib.itoa n).toArray⟩ : ByteArray).size ≤ 65536 ∧ Chain wv ⟨(Lib.itoa n).toArray⟩ 0 [⟨3, 0, n, ⟨#[]⟩⟩] := by
  have e : Lib.itoa n = Lib.decDigits n.toNat := by unfold Lib.itoa; rw [if_neg (by omega)]
  have hl := dec_pow 18 n.toNat (by omega)
  have hs : (⟨(Lib.itoa n).toArray⟩ : ByteArray).size ≤ 65536 := by
    show (Lib.itoa n).toArray.size ≤ _
    rw [e]; simp; omega
  refine ⟨hs, ?_⟩
  have := chain_digits wv ⟨(Lib.itoa n).toArray⟩ 0 n.toNat hs (by omega) e
  rw [show ((n.toNat : Nat) : Int) = n from by omega] at this
  exact this

theorem neg_facts (n : Int) (h0 : -9223372036854775808 ≤ n) (h1 : n < 0) : (⟨(Lib.itoa n).toArray⟩ : ByteArray).size ≤ 65536 ∧ (⟨(Lib.itoa n).toArray⟩ : ByteArray).data.toList = 45 :: Lib.decDigits n.natAbs := by
  have e : Lib.itoa n = 45 :: Lib.decDigits n.natAbs := by unfold Lib.itoa; rw [if_pos h1]
  have hl := dec_pow 18 n.natAbs (by omega)
  refine ⟨?_, e⟩
  show (Lib.itoa n).toArray.size ≤ _
  rw [e]; simp; omega

theorem chain_neg (wv : Value) (n : Int) (h0 : -9223372036854775808 < n) (h1 : n < 0) : Chain wv ⟨(Lib.itoa n).toArray⟩ 0 [⟨6, 0, 0, ⟨#[45]⟩⟩, ⟨3, 1, n.natAbs, ⟨#[]⟩⟩] := by
  obtain ⟨hs, e⟩ := neg_facts n (by omega) h1
  obtain ⟨hi, _, _, hf, h2, _, _⟩ := minus_facts _ _ e
  obtain ⟨a, b⟩ := tells_minus wv _ _ hs e
  exact .tok (j := 0) (e := 1) a (Nat.le_refl _) hi b (by omega) (by omega) (chain_digits wv _ 1 n.natAbs hs (by omega) hf)

/-- The least number's text. -/
theorem bad_min (wv : Value) (tp : TypeId) (pv : Value) (T2 : TypeId) (v2 : Value) : (⟨(Lib.itoa (-9223372036854775808)).toArray⟩ : ByteArray).size ≤ 65536 ∧ Bad wv tp pv T2 v2 ⟨(Lib.itoa (-9223372036854775808)).toArray⟩ 0 := by
  obtain ⟨hs, e⟩ := neg_facts (-9223372036854775808) (by omega) (by omega)
  obtain ⟨hi, _, _, hf, h2, _, _⟩ := minus_facts _ _ e
  obtain ⟨a, b⟩ := tells_minus wv _ _ hs e
  obtain ⟨hi1, g1, g2, g3, g4, g5⟩ := tail_facts _ 1 _ hf
  refine ⟨hs, .tok (j := 0) (e := 1) a (Nat.le_refl _) hi b (by omega) (by omega) (.here (skips_stop wv _ 1 hi1 g4 g5) (Nat.le_refl _) hi1 ?_)⟩
  intro W hW
  exact (token_great tp pv T2 v2 _ 1 hi1 W hW hs g1 _ rfl (by rw [g3]; exact parse_range _ (by decide) (by decide))).mono fun e w' ⟨he, hw⟩ => ⟨⟨_, _, _, _, he⟩, hw⟩

def boolT (b : Bool) : ByteArray := if b = true then ⟨#[116, 114, 117, 101]⟩ else ⟨#[102, 97, 108, 115, 101]⟩

theorem chain_bool (wv : Value) (b : Bool) : (boolT b).size ≤ 65536 ∧ Chain wv (boolT b) 0 [⟨2, 0, 0, boolT b⟩] := by
  have key : ∀ T : ByteArray, (hi : 0 < T.size) → T.size ≤ 100 → blankB (T[0].toNat : Int) = false → Lib.hasPrefix (from_ T 0) [40, 42] = false → sortF (T[0].toNat : Int) = 1 → wordLen (from_ T 0) = T.size → keyB T = true → Chain wv T 0 [⟨2, 0, 0, T⟩] := by
    intro T hi hs hb hp h1 hw hk
    refine .tok (e := T.size) (skips_stop wv T 0 hi hb hp) (Nat.le_refl _) hi ?_ hi (Nat.le_refl _) (.done (skips_end wv T))
    intro W hE
    have hx : T.extract 0 T.size = T := by
      have : (T.extract 0 T.size).data.toList = T.data.toList := by rw [Lib.extract_data, List.drop_zero, List.take_of_length_le]; rw [← Lib.size_eq]; omega
      rw [← Lib.mk_data (T.extract 0 T.size), this, Lib.mk_data]
    have := token_word T 0 hi wv W hE.word hE.wordAt (by unfold maxLen; omega) h1 (by rw [hw]; omega)
    rw [hw, Nat.zero_add, hx] at this
    unfold kindOf at this
    rw [if_pos hk, show ((0 : Nat) : Int) + (T.size : Int) = (T.size : Int) from by omega] at this
    exact this
  cases b
  · exact ⟨by decide, key _ (by decide) (by decide) rfl rfl rfl rfl (by unfold keyB; simp only [Lib.toList_data]; rfl)⟩
  · exact ⟨by decide, key _ (by decide) (by decide) rfl rfl rfl rfl (by unfold keyB; simp only [Lib.toList_data]; rfl)⟩
end Go.Proofs.YthnmncghoiehdafDoor
