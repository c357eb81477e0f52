/- The tokens of a text as a plain function of its bytes, and Lex told by it at every text of at most 65536 bytes. -/
import Derived.Test.YtabngleincejfaaGreatDoorWhole
import Derived.Test.YtabngleincejfaaGreatDoorFails
import Derived.Test.YtabngleincejfaaGreatDoorPlain
namespace Go.Proofs.YtabngleincejfaaGreatDoor
open Go.ChangeShapes Go.WideShapes Go.ChangeAt Go.RowKit

def bytesOf (l : List UInt8) : ByteArray := ⟨l.toArray⟩
theorem bytesOf_list (l : List UInt8) : (bytesOf l).data.toList = l := by simp [bytesOf]
theorem bytesOf_size (l : List UInt8) : (bytesOf l).size = l.length := by rw [Lib.size_eq, bytesOf_list]
theorem bytes_ext {s t : ByteArray} (h : s.data.toList = t.data.toList) : s = t := by
  obtain ⟨⟨l⟩⟩ := s
  obtain ⟨⟨m⟩⟩ := t
  simp at h; subst h; rfl
theorem bytesOf_data (s : ByteArray) : bytesOf s.data.toList = s := bytes_ext (bytesOf_list _)
theorem extract_from (s : ByteArray) (i n : Nat) : s.extract i (i + n) = bytesOf ((from_ s i).take n) := by
  apply bytes_ext
  rw [Lib.extract_data, bytesOf_list, Nat.add_sub_cancel_left]; rfl
theorem from_zero (s : ByteArray) : from_ s 0 = s.data.toList := rfl
theorem from_drop (s : ByteArray) (i n : Nat) : (from_ s i).drop n = from_ s (i + n) := by
  unfold from_; rw [List.drop_drop]

/-- How many bytes are passed over. -/
def skipL : Nat → List UInt8 → Option Nat
  | 0, _ => none
  | _ + 1, [] => some 0
  | f + 1, c :: r =>
    if blankB (c.toNat : Int) = true then (skipL f r).map (1 + ·)
    else if Lib.hasPrefix (c :: r) [40, 42] = true then
      if Lib.index ((c :: r).drop 2) [42, 41] = -1 then none
      else (skipL f ((c :: r).drop ((Lib.index ((c :: r).drop 2) [42, 41]).toNat + 4))).map ((Lib.index ((c :: r).drop 2) [42, 41]).toNat + 4 + ·)
    else some 0

def toldOf (c : UInt8) : Option UInt8 := if c = 110 then some 10 else if c = 34 ∨ c = 92 then some c else none

/-- What the bytes behind a quote tell, and how many these are with the quote at their end. -/
def decL : List UInt8 → Option (List UInt8 × Nat)
  | [] => none
  | c :: r =>
    if c = 34 then some ([], 1)
    else if c = 92 then match r with
      | [] => none
      | d :: r2 => match toldOf d with
        | none => none
        | some x => (decL r2).map fun p => (x :: p.1, 2 + p.2)
    else (decL r).map fun p => (c :: p.1, 1 + p.2)

theorem decL_cons (c : UInt8) (r : List UInt8) : decL (c :: r) = if c = 34 then some ([], 1)
    else if c = 92 then match r with
      | [] => none
      | d :: r2 => match toldOf d with
        | none => none
        | some x => (decL r2).map fun p => (x :: p.1, 2 + p.2)
    else (decL r).map fun p => (c :: p.1, 1 + p.2) := by rw [decL.eq_def]

/-- A token, without its place, and how many bytes it has. -/
structure Tok where
  kind : Int
  n : Int
  t : List UInt8
  len : Nat

def symQ (l : List UInt8) : Bool := symB (bytesOf l)
def symLen (l : List UInt8) : Nat := if 2 ≤ l.length ∧ symQ (l.take 2) = true then 2 else if symQ (l.take 1) = true then 1 else 0
def wordTok (l : List UInt8) : Option Tok := if wordLen l ≤ 100 then some ⟨kindOf (bytesOf (l.take (wordLen l))), 0, l.take (wordLen l), wordLen l⟩ else none
def tickTok (r : List UInt8) : Option Tok := if 0 < wordLen r ∧ wordLen r ≤ 100 then some ⟨5, 0, r.take (wordLen r), 1 + wordLen r⟩ else none
def digitTok (l : List UInt8) : Option Tok := match Lib.parseIntB 64 (l.take (numLen l)) with
  | .ok v => some ⟨3, v, [], numLen l⟩
  | _ => none
def textTok (r : List UInt8) : Option Tok := (decL r).map fun p => ⟨4, 0, p.1, 1 + p.2⟩
def symTok (l : List UInt8) : Option Tok := if 0 < symLen l then some ⟨6, 0, l.take (symLen l), symLen l⟩ else none
/-- The token that a text begins with. -/
def tokL (l : List UInt8) : Option Tok := match l with
  | [] => none
  | c :: r =>
    if sortF (c.toNat : Int) = 1 then wordTok (c :: r)
    else if sortF (c.toNat : Int) = 4 then tickTok r
    else if sortF (c.toNat : Int) = 2 then digitTok (c :: r)
    else if sortF (c.toNat : Int) = 3 then textTok r
    else symTok (c :: r)

/-- All tokens but the last one, from a place on. -/
def lexL : Nat → Nat → List UInt8 → Option (List Tk)
  | 0, _, _ => none
  | f + 1, p, l => match skipL (l.length + 1) l with
    | none => none
    | some k => if l.length ≤ k then some [] else match tokL (l.drop k) with
      | none => none
      | some x => (lexL f (p + k + x.len) (l.drop (k + x.len))).map (⟨x.kind, ((p + k : Nat) : Int), x.n, bytesOf x.t⟩ :: ·)

theorem skip_rel (s : ByteArray) : ∀ (f i : Nat), i ≤ s.size → s.size - i < f → SkipR s i ((skipL f (from_ s i)).map (i + ·))
  | 0, i, _, hf => by omega
  | f + 1, i, hi, hf => by
    rcases Nat.lt_or_ge i s.size with h | h
    · have hc := from_cons s i h
      have hd2 : (from_ s i).drop 2 = from_ s (i + 2) := from_drop s i 2
      rw [hc, skipL, ← hc]
      by_cases hb : blankB (s[i].toNat : Int) = true
      · rw [if_pos hb]
        have := skip_rel s f (i + 1) h (by omega)
        refine .blank h hb ?_
        rw [Option.map_map]
        have e : ((fun x => i + x) ∘ fun x => 1 + x) = fun x => i + 1 + x := by funext x; simp; omega
        rw [e]; exact this
      · rw [if_neg hb]
        have hb' : blankB (s[i].toNat : Int) = false := by simpa using hb
        by_cases hp : Lib.hasPrefix (from_ s i) [40, 42] = true
        · rw [if_pos hp, hd2]
          by_cases hx : Lib.index (from_ s (i + 2)) [42, 41] = -1
          · rw [if_pos hx]
            exact .opened h hb' hp hx
          · rw [if_neg hx]
            have hge := Lib.index_ge (from_ s (i + 2)) [42, 41]
            obtain ⟨n, hn⟩ : ∃ n : Nat, Lib.index (from_ s (i + 2)) [42, 41] = n := ⟨_, (Int.toNat_of_nonneg (by omega)).symm⟩
            have hf2 := index_fits s i n hn (prefix_room s i hp)
            rw [hn, Int.toNat_natCast, from_drop]
            have := skip_rel s f (i + (n + 4)) hf2 (by omega)
            refine .note h hb' hp hn ?_
            rw [Option.map_map]
            have e : ((fun x => i + x) ∘ fun x => n + 4 + x) = fun x => i + (n + 4) + x := by funext x; simp; omega
            rw [e]; exact this
        · rw [if_neg hp]
          exact .here h hb' (by simpa using hp)
    · have : i = s.size := by omega
      subst this
      rw [from_end s _ (Nat.le_refl _), skipL]
      exact .stop

theorem toldOf_is {c d : UInt8} (h : toldOf c = some d) : toldB c d := by
  unfold toldOf at h
  split at h
  · rename_i h1; exact .inl ⟨h1, by simpa using h.symm⟩
  · split at h
    · rename_i h1; exact .inr ⟨h1, by simpa using h.symm⟩
    · cases h
theorem toldOf_no {c : UInt8} (h : toldOf c = none) : c ≠ 110 ∧ c ≠ 34 ∧ c ≠ 92 := by
  unfold toldOf at h
  split at h
  · cases h
  · split at h
    · cases h
    · rename_i h1 h2
      exact ⟨h1, fun h => h2 (.inl h), fun h => h2 (.inr h)⟩

theorem dec_rel (s : ByteArray) : ∀ (f i : Nat), i ≤ s.size → s.size - i < f → (∀ p, decL (from_ s i) = some p → Dec s (i + p.2) i p.1 ∧ i + p.2 ≤ s.size) ∧ (decL (from_ s i) = none → DecBad s i)
  | 0, i, _, hf => by omega
  | f + 1, i, hi, hf => by
    rcases Nat.lt_or_ge i s.size with h | h
    · rw [from_cons s i h, decL_cons]
      by_cases h34 : s[i] = 34
      · rw [if_pos h34]
        exact ⟨fun p hp => (by cases hp; exact ⟨.close h h34 rfl, h⟩), fun hp => (by cases hp)⟩
      · rw [if_neg h34]
        by_cases h92 : s[i] = 92
        · rw [if_pos h92]
          rcases Nat.lt_or_ge (i + 1) s.size with h2 | h2
          · rw [from_cons s (i + 1) h2]
            simp only
            cases ht : toldOf s[i + 1] with
            | none => 
              obtain ⟨a, b, c⟩ := toldOf_no ht
              exact ⟨fun p hp => (by cases hp), fun _ => .wrong h2 h92 a b c⟩
            | some x =>
              obtain ⟨a, b⟩ := dec_rel s f (i + 2) h2 (by omega)
              simp only
              constructor
              · intro p hp
                rw [Option.map_eq_some_iff] at hp
                obtain ⟨q, hq, rfl⟩ := hp
                obtain ⟨a1, a2⟩ := a q hq
                refine ⟨.esc h2 h92 (toldOf_is ht) ?_, ?_⟩
                · have e : i + (2 + q.2) = i + 2 + q.2 := by omega
                  simp only [e]; exact a1
                · simp only; omega
              · intro hp
                rw [Option.map_eq_none_iff] at hp
                exact .esc h2 h92 (toldOf_is ht) (b hp)
          · rw [from_end s (i + 1) h2]
            exact ⟨fun p hp => (by cases hp), fun _ => .last h (by omega) h92⟩
        · rw [if_neg h92]
          obtain ⟨a, b⟩ := dec_rel s f (i + 1) h (by omega)
          constructor
          · intro p hp
            rw [Option.map_eq_some_iff] at hp
            obtain ⟨q, hq, rfl⟩ := hp
            obtain ⟨a1, a2⟩ := a q hq
            refine ⟨.plain h h34 h92 ?_, ?_⟩
            · have e : i + (1 + q.2) = i + 1 + q.2 := by omega
              simp only [e]; exact a1
            · simp only; omega
          · intro hp
            rw [Option.map_eq_none_iff] at hp
            exact .plain h h34 h92 (b hp)
    · have : i = s.size := by omega
      subst this
      rw [from_end s _ (Nat.le_refl _)]
      exact ⟨fun p hp => (by simp [decL] at hp), fun _ => .open_⟩

theorem sortF_vals (n : Int) : sortF n = 0 ∨ sortF n = 1 ∨ sortF n = 2 ∨ sortF n = 3 ∨ sortF n = 4 := by
  unfold sortF
  repeat' split
  all_goals simp
theorem digit_sort {n : Int} (h : sortF n = 2) : digitB n = true := by
  unfold sortF at h
  repeat' split at h
  all_goals first | assumption | omega
theorem small_sort {n : Int} (h : sortF n = 1) : digitB n = false := by
  unfold sortF at h
  unfold digitB
  split at h
  · rename_i h1
    have : n = 95 := by simpa using h1
    subst this; rfl
  · split at h
    · rename_i h1
      unfold smallB at h1
      simp at h1
      simp; omega
    · repeat' split at h
      all_goals omega

theorem wordLen_pos (c : UInt8) (r : List UInt8) (h : sortF (c.toNat : Int) = 1) : 0 < wordLen (c :: r) := by
  rw [wordLen_cons, if_pos h]; omega

theorem pu_digits (M : Nat) : ∀ (l : List UInt8) (a : Nat), (∀ c ∈ l, digitC c = true) → (∃ u, Lib.parseUintM M a l = .ok u) ∨ Lib.parseUintM M a l = .range
  | [], a, _ => .inl ⟨a, rfl⟩
  | c :: r, a, h => by
    have hc := h c (by simp)
    unfold digitC digitB at hc
    simp only [Bool.and_eq_true, decide_eq_true_eq] at hc
    unfold Lib.parseUintM
    rw [if_pos (by omega)]
    split
    · exact .inr rfl
    · split
      · exact .inr rfl
      · exact pu_digits M r _ fun d hd => h d (by simp [hd])

theorem pi_digits (l : List UInt8) (h0 : l ≠ []) (h : ∀ c ∈ l, digitC c = true) : (∃ v, Lib.parseIntB 64 l = .ok v) ∨ Lib.parseIntB 64 l = .range := by
  cases l with
  | nil => exact absurd rfl h0
  | cons c r =>
    have hc := h c (by simp)
    unfold digitC digitB at hc
    simp only [Bool.and_eq_true, decide_eq_true_eq] at hc
    have e1 : (c.toNat = 43 ∨ c.toNat = 45) = False := by simp; omega
    simp only [Lib.parseIntB, e1, if_false]
    have hu : (∃ u, Lib.parseUintB 64 (c :: r) = .ok u) ∨ Lib.parseUintB 64 (c :: r) = .range := by
      unfold Lib.parseUintB
      rw [if_neg (by simp)]
      exact pu_digits _ _ _ h
    rcases hu with ⟨u, hu⟩ | hu <;> rw [hu] <;> simp only
    · repeat' split
      all_goals first | exact .inr rfl | exact .inr trivial | exact .inl ⟨_, rfl⟩
    · exact .inr trivial

theorem numLen_pos (c : UInt8) (r : List UInt8) (h : sortF (c.toNat : Int) = 2) : 0 < numLen (c :: r) := by
  have : digitC c = true := digit_sort h
  unfold numLen
  rw [List.takeWhile_cons, if_pos this]; simp
theorem num_take (l : List UInt8) : l.take (numLen l) = l.takeWhile digitC := by
  unfold numLen
  exact (List.prefix_iff_eq_take.1 (List.takeWhile_prefix digitC)).symm
theorem num_digits (l : List UInt8) : ∀ c ∈ l.take (numLen l), digitC c = true := by
  rw [num_take]
  intro c hc
  exact List.all_eq_true.1 (List.all_takeWhile (p := digitC) (l := l)) c hc

theorem symQ_extract (s : ByteArray) (i n : Nat) : symB ((s.extract i s.size).extract 0 n) = symQ ((from_ s i).take n) := by
  unfold symQ
  congr 1
  apply bytes_ext
  rw [bytesOf_list, Lib.extract_data, Lib.extract_to_end]
  simp [from_]

theorem size_extract (s : ByteArray) (i : Nat) : (s.extract i s.size).size = s.size - i := by
  rw [Lib.size_eq, Lib.extract_to_end, List.length_drop, ← Lib.size_eq]

theorem tok_rel (E : Errs) (s : ByteArray) (hs : s.size ≤ 65536) (i : Nat) (hi : i < s.size) :
    (∀ x, tokL (from_ s i) = some x → TellsL E s i x.kind x.n (bytesOf x.t) (i + x.len) ∧ 0 < x.len ∧ i + x.len ≤ s.size) ∧ (tokL (from_ s i) = none → FailsL E s i) := by
  have hm : s.size ≤ maxLen := by unfold maxLen; omega
  have hwl := wordLen_le s i
  have hwl1 := wordLen_le s (i + 1)
  have hnl := numLen_le s i
  have hc := from_cons s i hi
  have hT : tokL (from_ s i) = if sortF (s[i].toNat : Int) = 1 then wordTok (from_ s i) else if sortF (s[i].toNat : Int) = 4 then tickTok (from_ s (i + 1)) else if sortF (s[i].toNat : Int) = 2 then digitTok (from_ s i)
      else if sortF (s[i].toNat : Int) = 3 then textTok (from_ s (i + 1)) else symTok (from_ s i) := by
    rw [hc, tokL, ← hc]
  rw [hT]
  rcases sortF_vals (s[i].toNat : Int) with h | h | h | h | h
  · rw [if_neg (by omega), if_neg (by omega), if_neg (by omega), if_neg (by omega)]
    unfold symTok symLen
    rw [from_length]
    by_cases h2 : 2 ≤ s.size - i ∧ symQ ((from_ s i).take 2) = true
    · rw [if_pos h2, if_pos (by omega)]
      refine ⟨fun x hx => ?_, fun hx => by cases hx⟩
      cases hx
      refine ⟨fun W hW => ?_, by simp, by simp only; omega⟩
      have := token_sym s i hi 2 (by omega) W hm h (by omega) (fun W' => by
        have := symbol_two (s.extract i s.size) W' (by rw [size_extract]; omega) (by rw [symQ_extract s i 2]; exact h2.2)
        have e : (s.extract i s.size).extract 0 2 = s.extract i (i + 2) := by
          apply bytes_ext
          rw [Lib.extract_data, Lib.extract_to_end, Lib.extract_data]; simp
        rwa [e] at this)
      rw [extract_from] at this
      simpa using this
    · rw [if_neg h2]
      have h2' : 2 ≤ (s.extract i s.size).size → symB ((s.extract i s.size).extract 0 2) = false := by
        rw [size_extract]
        intro h3
        rw [symQ_extract s i 2]
        cases h4 : symQ ((from_ s i).take 2)
        · rfl
        · exact absurd ⟨h3, h4⟩ h2
      by_cases h1 : symQ ((from_ s i).take 1) = true
      · rw [if_pos h1, if_pos (by omega)]
        refine ⟨fun x hx => ?_, fun hx => by cases hx⟩
        cases hx
        refine ⟨fun W hW => ?_, by simp, by simp only; omega⟩
        have := token_sym s i hi 1 (by omega) W hm h (by omega) (fun W' => by
          have := symbol_one (s.extract i s.size) W' (by rw [size_extract]; omega) h2' (by rw [symQ_extract s i 1]; exact h1)
          have e : (s.extract i s.size).extract 0 1 = s.extract i (i + 1) := by
            apply bytes_ext
            rw [Lib.extract_data, Lib.extract_to_end, Lib.extract_data]; simp
          rwa [e] at this)
        rw [extract_from] at this
        simpa using this
      · rw [if_neg h1, if_neg (by omega)]
        refine ⟨fun x hx => (by cases hx), fun _ W hW => ?_⟩
        refine (token_none s i hi _ W hW.byte h (fun W' => symbol_none (s.extract i s.size) W' (by rw [size_extract]; omega) h2' (by rw [symQ_extract s i 1]; simpa using h1))).mono ?_
        rintro e w' ⟨he, hB⟩
        exact ⟨⟨_, _, _, _, _, _, he⟩, hB⟩
  · rw [if_pos h]
    have hp := wordLen_pos s[i] (from_ s (i + 1)) h
    rw [← hc] at hp
    unfold wordTok
    by_cases hl : wordLen (from_ s i) ≤ 100
    · rw [if_pos hl]
      refine ⟨fun x hx => ?_, fun hx => by cases hx⟩
      cases hx
      refine ⟨fun W hW => ?_, hp, by simp only; omega⟩
      have := token_word s i hi _ W hW.word hW.env.wordAt hm h hl
      rw [extract_from] at this
      simpa using this
    · rw [if_neg hl]
      refine ⟨fun x hx => (by cases hx), fun _ W hW => ?_⟩
      have hw : ∀ W' : World, Below W.heap.size W W' → Calls Tryz.prog 17 #[.string s, .int .i64 i] W' fun e w' => e = .returned (.tuple #[.string ⟨#[]⟩, .iface E.tw E.vw]) ∧ Drawn W' w' := fun W' hB => by
        have := word_yes s i hi _ W' (hW.self hB (Nat.le_refl _)).word hm h
        unfold wordGives at this
        rwa [if_neg hl] at this
      refine (token_wordly s i hi W hm h ⟨#[]⟩ _ (Nat.zero_le _) hw).mono ?_
      rintro e w' ⟨he, hB⟩
      exact ⟨⟨_, _, _, _, _, _, he⟩, hB⟩
  · rw [if_neg (by omega), if_neg (by omega), if_pos h]
    have hp := numLen_pos s[i] (from_ s (i + 1)) h
    rw [← hc] at hp
    have hlen : ((from_ s i).take (numLen (from_ s i))).length = numLen (from_ s i) := by
      rw [List.length_take, from_length]; omega
    have hne : (from_ s i).take (numLen (from_ s i)) ≠ [] := by
      intro h0; rw [h0] at hlen; simp at hlen; omega
    have hx : (s.extract i (i + numLen (from_ s i))).data.toList = (from_ s i).take (numLen (from_ s i)) := by rw [extract_from, bytesOf_list]
    unfold digitTok
    rcases pi_digits _ hne (num_digits _) with ⟨v, hv⟩ | hv
    · rw [hv]
      refine ⟨fun x hx' => ?_, fun hx => by cases hx⟩
      cases hx'
      refine ⟨fun W hW => ?_, hp, by simp only; omega⟩
      have := token_digit s i hi W hs h v (by rw [hx]; exact hv)
      simpa [bytesOf] using this
    · rw [hv]
      refine ⟨fun x hx => (by cases hx), fun _ W hW => ?_⟩
      refine (token_great E.tp E.pv E.tn E.vn s i hi W hW.two hs h _ rfl (by rw [hx]; exact hv)).mono ?_
      rintro e w' ⟨he, hB⟩
      exact ⟨⟨_, _, _, _, _, _, he⟩, hB⟩
  · rw [if_neg (by omega), if_neg (by omega), if_neg (by omega), if_pos h]
    obtain ⟨a, b⟩ := dec_rel s (s.size + 1) (i + 1) hi (by omega)
    unfold textTok
    cases hd : decL (from_ s (i + 1)) with
    | none =>
      refine ⟨fun x hx => (by cases hx), fun _ W hW => ?_⟩
      refine (token_open E s i hi W hW hs h (b hd)).mono ?_
      rintro e w' ⟨⟨e', he⟩, hB⟩
      exact ⟨⟨_, _, _, _, _, _, he⟩, hB⟩
    | some p =>
      obtain ⟨a1, a2⟩ := a p hd
      refine ⟨fun x hx => ?_, fun hx => by cases hx⟩
      cases hx
      have e : i + (1 + p.2) = i + 1 + p.2 := by omega
      simp only [e]
      exact ⟨fun W hW => token_text s i _ p.1 hi W hs h a1, by omega, a2⟩
  · rw [if_neg (by omega), if_pos h]
    unfold tickTok
    by_cases hl : 0 < wordLen (from_ s (i + 1)) ∧ wordLen (from_ s (i + 1)) ≤ 100
    · rw [if_pos hl]
      refine ⟨fun x hx => ?_, fun hx => by cases hx⟩
      cases hx
      have hi1 : i + 1 < s.size := by omega
      have h1 : sortF (s[i + 1].toNat : Int) = 1 := by
        have := hl.1
        rw [from_cons s (i + 1) hi1, wordLen_cons] at this
        split at this
        · assumption
        · omega
      refine ⟨fun W hW => ?_, by simp only; omega, by simp only; omega⟩
      have hw : ∀ W' : World, Below W.heap.size W W' → Calls Tryz.prog 17 #[.string s, .int .i64 ((i : Int) + 1)] W' fun e w' => e = .returned (.tuple #[.string (s.extract (i + 1) (i + 1 + wordLen (from_ s (i + 1)))), .nilIface]) ∧ Drawn W' w' := fun W' hB => by
        have := word_yes s (i + 1) hi1 _ W' (hW.self hB (Nat.le_refl _)).word hm h1
        unfold wordGives at this
        rwa [if_pos hl.2, Int.natCast_add] at this
      have hz : (s.extract (i + 1) (i + 1 + wordLen (from_ s (i + 1)))).size = wordLen (from_ s (i + 1)) := by
        rw [extract_from, bytesOf_size, List.length_take, from_length]; omega
      have := token_tickly s i hi W hm h _ _ (by rw [hz]; omega) hw
      rw [hz, extract_from] at this
      have e : (((i + (1 + wordLen (from_ s (i + 1))) : Nat)) : Int) = (i : Int) + 1 + (wordLen (from_ s (i + 1)) : Int) := by omega
      simp only [e]
      exact this
    · rw [if_neg hl]
      refine ⟨fun x hx => (by cases hx), fun _ W hW => ?_⟩
      have hw : ∃ t : ByteArray, t.size = 0 ∧ ∀ W' : World, Below W.heap.size W W' → Calls Tryz.prog 17 #[.string s, .int .i64 ((i : Int) + 1)] W' fun e w' => e = .returned (.tuple #[.string t, .iface E.tw E.vw]) ∧ Drawn W' w' := by
        refine ⟨⟨#[]⟩, rfl, fun W' hB => ?_⟩
        have hg := (hW.self hB (Nat.le_refl _)).word
        rcases Nat.lt_or_ge (i + 1) s.size with hi1 | hi1
        · by_cases h1 : sortF (s[i + 1].toNat : Int) = 1
          · have := word_yes s (i + 1) hi1 _ W' hg hm h1
            have hp := wordLen_pos s[i + 1] (from_ s (i + 1 + 1)) h1
            rw [← from_cons s (i + 1) hi1] at hp
            unfold wordGives at this
            rwa [if_neg (by omega), Int.natCast_add] at this
          · have := word_no s (i + 1) hi1 _ W' hg (by simpa using h1)
            rwa [Int.natCast_add] at this
        · have e : i + 1 = s.size := by omega
          have := word_end s _ W' hg
          rw [← e, Int.natCast_add] at this
          exact this
      obtain ⟨t, ht, hw⟩ := hw
      refine (token_tickly s i hi W hm h t _ (by omega) hw).mono ?_
      rintro e w' ⟨he, hB⟩
      exact ⟨⟨_, _, _, _, _, _, he⟩, hB⟩

theorem lex_rel (E : Errs) (s : ByteArray) (hs : s.size ≤ 65536) : ∀ (f i : Nat), i ≤ s.size → s.size - i < f → (∀ l, lexL f i (from_ s i) = some l → ChainL E s i l) ∧ (lexL f i (from_ s i) = none → BadL E s i)
  | 0, i, _, hf => by omega
  | f + 1, i, hi, hf => by
    have hk := skip_rel s ((from_ s i).length + 1) i hi (by rw [from_length]; omega)
    rw [lexL]
    cases hsk : skipL ((from_ s i).length + 1) (from_ s i) with
    | none =>
      rw [hsk] at hk
      exact ⟨fun l hl => (by cases hl), fun _ => .note hk⟩
    | some k =>
      rw [hsk] at hk
      have hk2 : SkipR s i (some (i + k)) := hk
      have hto := hk2.to_le
      simp only
      by_cases hle : (from_ s i).length ≤ k
      · rw [if_pos hle]
        rw [from_length] at hle
        have e : i + k = s.size := by omega
        rw [e] at hk2
        exact ⟨fun l hl => (by cases hl; exact .done hk2), fun hl => by cases hl⟩
      · rw [if_neg hle, from_drop]
        rw [from_length] at hle
        have hlt : i + k < s.size := by omega
        obtain ⟨a, b⟩ := tok_rel E s hs (i + k) hlt
        cases ht : tokL (from_ s (i + k)) with
        | none => exact ⟨fun l hl => (by cases hl), fun _ => .here hk2 hlt (b ht)⟩
        | some x =>
          obtain ⟨a1, a2, a3⟩ := a x ht
          simp only
          rw [from_drop, show i + (k + x.len) = i + k + x.len from by omega]
          obtain ⟨c, d⟩ := lex_rel E s hs f (i + k + x.len) a3 (by omega)
          constructor
          · intro l hl
            rw [Option.map_eq_some_iff] at hl
            obtain ⟨l', hl', rfl⟩ := hl
            exact .tok hk2 hlt a1 (by omega) a3 (c l' hl')
          · intro hl
            rw [Option.map_eq_none_iff] at hl
            exact .tok hk2 hlt a1 (by omega) a3 (d hl)

/-- The tokens of a text but the last one. -/
def toksOf (s : ByteArray) : Option (List Tk) := lexL (s.size + 1) 0 s.data.toList

/-- What Lex has behind it. -/
def LexEnds (s : ByteArray) (w : World) (e : Ending) (w' : World) : Prop := match toksOf s with
  | some l => Lexed w (l ++ [endTk s]) e w'
  | none => (∃ v x, e = .returned (.tuple #[v, x, .int .i64 5])) ∧ Below w.heap.size w w'

theorem lex_all (E : Errs) (s : ByteArray) (w : World) (hE : EnvL E w) (hs : s.size ≤ 65536) :
    Calls Tryz.prog 6 #[.string s] w (LexEnds s w) := by
  obtain ⟨a, b⟩ := lex_rel E s hs (s.size + 1) 0 (by omega) (by omega)
  unfold LexEnds toksOf
  rw [from_zero] at a b
  cases h : lexL (s.size + 1) 0 s.data.toList with
  | none => exact lex_badL E s w hE hs (b h)
  | some l => exact lex_chainL E s l w hE hs (a l h)
end Go.Proofs.YtabngleincejfaaGreatDoor
