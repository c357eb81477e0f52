/- Put: a token as a text; and that its text is told as that token. -/
import Derived.Test.YtabngleincejfaaGreatDoorRows1
import Derived.Test.YtabngleincejfaaGreatDoorQuote
import Derived.Lib.ItoaLen
namespace Go.Proofs.YtabngleincejfaaGreatDoor
open Go.ChangeShapes Go.WideShapes Go.ChangeAt Go.RowKit

/-- How many bytes the shortest text of a Str has. -/
def leastN (s : ByteArray) : Int := (s.size : Int) + 2 + Lib.countByte s.data.toList 34 + Lib.countByte s.data.toList 92

/-- What Put answers; none: ErrArg. -/
def tokText (t : Tk) : Option (List UInt8) :=
  if t.kind ≠ 3 ∧ t.n ≠ 0 then none
  else if t.kind = 1 then if nameB t.t = true then some t.t.data.toList else none
  else if t.kind = 2 then if keyB t.t = true then some t.t.data.toList else none
  else if t.kind = 6 then if symB t.t = true then some t.t.data.toList else none
  else if t.kind = 5 then if isWordB t.t = true then some (39 :: t.t.data.toList) else none
  else if t.kind = 3 then if 0 ≤ t.n ∧ t.t.data.toList = [] then some (Lib.itoa t.n) else none
  else if t.kind = 4 then if leastN t.t ≤ 65536 then some (quoteL t.t.data.toList) else none
  else none

theorem dec_quote : ∀ l : List UInt8, decL (l.flatMap escB ++ [34]) = some (l, (l.flatMap escB).length + 1)
  | [] => by rw [List.flatMap_nil, List.nil_append, decL_cons, if_pos rfl]; rfl
  | c :: r => by
    have ih := dec_quote r
    rw [List.flatMap_cons, List.append_assoc]
    by_cases h10 : c = 10
    · subst h10
      have he : escB 10 = [92, 110] := rfl
      rw [he]
      show decL (92 :: 110 :: (r.flatMap escB ++ [34])) = _
      rw [decL_cons, if_neg (by decide), if_pos rfl]
      simp only
      rw [show toldOf 110 = some 10 from rfl, ih]
      simp only [Option.map_some, List.length_append, List.length_cons, List.length_nil, Option.some.injEq, Prod.mk.injEq, true_and]; omega
    · by_cases hq : c = 34 ∨ c = 92
      · have he : escB c = [92, c] := by unfold escB; rw [if_neg h10, if_pos hq]
        rw [he]
        show decL (92 :: c :: (r.flatMap escB ++ [34])) = _
        rw [decL_cons, if_neg (by decide), if_pos rfl]
        have ht : toldOf c = some c := by
          unfold toldOf
          rw [if_neg (by rcases hq with rfl | rfl <;> decide), if_pos hq]
        simp only
        rw [ht, ih]
        simp only [Option.map_some, List.length_append, List.length_cons, List.length_nil, Option.some.injEq, Prod.mk.injEq, true_and]; omega
      · have he : escB c = [c] := by unfold escB; rw [if_neg h10, if_neg hq]
        rw [he]
        show decL (c :: (r.flatMap escB ++ [34])) = _
        rw [decL_cons, if_neg (fun h => hq (.inl h)), if_neg (fun h => hq (.inr h)), ih]
        simp only [Option.map_some, List.length_append, List.length_cons, List.length_nil, Option.some.injEq, Prod.mk.injEq, true_and]; omega

theorem esc_len (l : List UInt8) : (l.flatMap escB).length ≤ 2 * l.length := by
  induction l with
  | nil => simp
  | cons c r ih =>
    rw [List.flatMap_cons, List.length_append, List.length_cons]
    have := escB_le c
    omega

theorem dec_all (u : Nat) : ∀ c ∈ Lib.decDigits u, digitC c = true := by
  induction u using Nat.strongRecOn with
  | _ u ih =>
    rw [Lib.decDigits.eq_def]
    split
    · rename_i h
      intro c hc
      rw [List.mem_singleton] at hc
      subst hc
      unfold digitC digitB
      rw [digit_nat u h]; simp; omega
    · rename_i h
      intro c hc
      rw [List.mem_append, List.mem_singleton] at hc
      rcases hc with hc | rfl
      · exact ih (u / 10) (by omega) c hc
      · unfold digitC digitB
        rw [digit_nat (u % 10) (by omega)]; simp; omega

theorem digit_facts {c : UInt8} (h : digitC c = true) : sortF (c.toNat : Int) = 2 ∧ blankB (c.toNat : Int) = false ∧ c ≠ 40 := by
  unfold digitC digitB at h
  simp only [Bool.and_eq_true, decide_eq_true_eq] at h
  refine ⟨?_, ?_, ?_⟩
  · unfold sortF smallB digitB
    rw [if_neg (by simp; omega), if_neg (by simp; omega), if_pos (by simp; omega)]
  · unfold blankB; simp; omega
  · rintro rfl; simp at h

theorem takeWhile_whole {p : UInt8 → Bool} : ∀ l : List UInt8, (∀ c ∈ l, p c = true) → l.takeWhile p = l
  | [], _ => rfl
  | c :: r, h => by rw [List.takeWhile_cons, if_pos (h c (by simp)), takeWhile_whole r fun d hd => h d (by simp [hd])]

/-- What a token's text is like. -/
structure Told (t : Tk) (p : List UInt8) : Prop where
  head : ∃ c r, p = c :: r ∧ blankB (c.toNat : Int) = false ∧ Lib.hasPrefix p [40, 42] = false
  tok : tokL p = some ⟨t.kind, t.n, t.t.data.toList, p.length⟩
  len : p.length ≤ 131070

theorem no_note {c : UInt8} {r : List UInt8} (h : c ≠ 40) : Lib.hasPrefix (c :: r) [40, 42] = false := by
  simp [Lib.hasPrefix, List.isPrefixOf]
  intro e; exact absurd e.symm h

theorem told_word {t : Tk} (hw : isWordB t.t = true) (hn : t.n = 0) (hk : t.kind = kindOf t.t) : Told t t.t.data.toList := by
  obtain ⟨c, r, hd, hs, hl, h100⟩ := isWord_sort hw
  obtain ⟨hb, h40⟩ := small_first hs
  have hz : t.t.size = (c :: r).length := by rw [Lib.size_eq, hd]
  refine ⟨⟨c, r, hd, hb, by rw [hd]; exact no_note h40⟩, ?_, by rw [← Lib.size_eq]; omega⟩
  have ht : (c :: r).take (wordLen (c :: r)) = c :: r := by rw [hl, hz]; exact List.take_length
  have hby : bytesOf (c :: r) = t.t := by rw [← hd]; exact bytesOf_data t.t
  rw [hd, tokL, if_pos hs]
  unfold wordTok
  rw [if_pos (by omega)]
  simp only [ht, hby]
  rw [hl, hz, hk, hn]

theorem told_tick {t : Tk} (hw : isWordB t.t = true) (hn : t.n = 0) (hk : t.kind = 5) : Told t (39 :: t.t.data.toList) := by
  obtain ⟨c, r, hd, hs, hl, h100⟩ := isWord_sort hw
  have hz : t.t.size = (c :: r).length := by rw [Lib.size_eq, hd]
  have hp := wordLen_pos c r hs
  have ht : (c :: r).take (wordLen (c :: r)) = c :: r := by rw [hl, hz]; exact List.take_length
  refine ⟨⟨39, _, rfl, by decide, no_note (by decide)⟩, ?_, by rw [List.length_cons, ← Lib.size_eq]; omega⟩
  rw [hd, tokL, if_neg (by decide), if_pos (by decide)]
  unfold tickTok
  rw [if_pos ⟨hp, by omega⟩, ht, hl, hz, hk, hn, List.length_cons (a := 39)]
  congr 2; omega

theorem told_int {t : Tk} (h0 : 0 ≤ t.n) (h1 : t.n ≤ 9223372036854775807) (he : t.t.data.toList = []) (hk : t.kind = 3) : Told t (Lib.itoa t.n) := by
  have hi : Lib.itoa t.n = Lib.decDigits t.n.toNat := by unfold Lib.itoa; rw [if_neg (by omega)]
  have hall := dec_all t.n.toNat
  obtain ⟨c, r, hd, _⟩ := dec_head t.n.toNat
  have hpar := parse_itoa t.n (by omega) h1
  have hlen : (Lib.itoa t.n).length ≤ 21 := Lib.itoa_length_le t.n (by omega) h1
  rw [hi] at hpar hlen ⊢
  obtain ⟨s2, hb, h40⟩ := digit_facts (hall c (by rw [hd]; simp))
  have hnl : numLen (Lib.decDigits t.n.toNat) = (Lib.decDigits t.n.toNat).length := by
    unfold numLen; rw [takeWhile_whole _ hall]
  refine ⟨⟨c, r, hd, hb, by rw [hd]; exact no_note h40⟩, ?_, by omega⟩
  rw [hd] at hpar hnl ⊢
  rw [tokL, if_neg (by omega), if_neg (by omega), if_pos s2]
  unfold digitTok
  rw [hnl, List.take_length, hpar, he, hk]

theorem told_str {t : Tk} (hl : leastN t.t ≤ 65536) (hn : t.n = 0) (hk : t.kind = 4) : Told t (quoteL t.t.data.toList) := by
  unfold leastN at hl
  have h3 := esc_len t.t.data.toList
  rw [← Lib.size_eq] at h3
  have e : quoteL t.t.data.toList = 34 :: (t.t.data.toList.flatMap escB ++ [34]) := rfl
  rw [e]
  refine ⟨⟨34, _, rfl, by decide, no_note (by decide)⟩, ?_, by simp only [List.length_cons, List.length_append, List.length_nil]; omega⟩
  rw [tok_text (by decide) (dec_quote _), hk, hn]
  simp; omega

theorem told_key {t : Tk} (h : keyB t.t = true) (hn : t.n = 0) (hk : t.kind = 2) : Told t t.t.data.toList := by
  refine told_word ?_ hn (by rw [hk]; unfold kindOf; rw [if_pos h])
  rw [keyB_list] at h
  have hz := Lib.size_eq t.t
  unfold isWordB
  rw [from_zero]
  generalize t.t.data.toList = l at *
  rw [hz]
  unfold keyL at h
  simp only [Bool.or_eq_true, beq_iff_eq] at h
  rcases h with ((((((((((((((((((rfl | rfl) | rfl) | rfl) | rfl) | rfl) | rfl) | rfl) | rfl) | rfl) | rfl) | rfl) | rfl) | rfl) | rfl) | rfl) | rfl) | rfl) | rfl) <;> decide

theorem told_sym {t : Tk} (h : symB t.t = true) (hn : t.n = 0) (hk : t.kind = 6) : Told t t.t.data.toList := by
  have hs : symL t.t.data.toList = true := by
    rw [← symQ_list]; unfold symQ; rw [bytesOf_data]; exact h
  have key : ∀ l : List UInt8, symL l = true → (∃ c r, l = c :: r ∧ blankB (c.toNat : Int) = false ∧ Lib.hasPrefix l [40, 42] = false) ∧ (∃ c r, l = c :: r ∧ sortF (c.toNat : Int) = 0) ∧ (2 ≤ l.length → symL (l.take 2) = true) ∧ (l.length = 1 → symL (l.take 1) = true) ∧ 1 ≤ l.length ∧ l.length ≤ 2 := by
    intro l h
    unfold symL at h
    simp only [Bool.or_eq_true, beq_iff_eq] at h
    rcases h with ((((((((((((((((((rfl | rfl) | rfl) | rfl) | rfl) | rfl) | rfl) | rfl) | rfl) | rfl) | rfl) | rfl) | rfl) | rfl) | rfl) | rfl) | rfl) | rfl) | rfl) <;> exact ⟨⟨_, _, rfl, by decide, by decide⟩, ⟨_, _, rfl, by decide⟩, by decide, by decide, by decide, by decide⟩
  obtain ⟨k1, ⟨c, r, hc, h0⟩, k2, k3, k4, k5⟩ := key _ hs
  refine ⟨k1, ?_, by omega⟩
  have hsl : symLen t.t.data.toList = t.t.data.toList.length := by
    unfold symLen
    rw [symQ_list, symQ_list]
    rcases Nat.lt_or_ge t.t.data.toList.length 2 with h | h
    · have e1 : t.t.data.toList.length = 1 := by omega
      rw [if_neg (fun x => by omega), if_pos (k3 e1), e1]
    · have e2 : t.t.data.toList.length = 2 := by omega
      rw [if_pos ⟨h, k2 h⟩, e2]
  rw [hc] at hsl ⊢
  rw [tok_sym h0 hsl (by simp), hk, hn, List.take_length]

theorem told {t : Tk} {p : List UInt8} (h : tokText t = some p) (h1 : t.n ≤ 9223372036854775807) : Told t p := by
  unfold tokText at h
  split at h
  · cases h
  · rename_i hkn
    have hn : t.kind ≠ 3 → t.n = 0 := fun hk => Classical.byContradiction fun h => hkn ⟨hk, h⟩
    split at h
    · rename_i hk
      split at h
      · rename_i hx
        cases h
        unfold nameB at hx
        simp only [Bool.and_eq_true, Bool.not_eq_true'] at hx
        exact told_word hx.1 (hn (by omega)) (by rw [hk]; unfold kindOf; rw [hx.2]; rfl)
      · cases h
    · split at h
      · rename_i hk
        split at h
        · rename_i hx
          cases h; exact told_key hx (hn (by omega)) hk
        · cases h
      · split at h
        · rename_i hk
          split at h
          · rename_i hx
            cases h; exact told_sym hx (hn (by omega)) hk
          · cases h
        · split at h
          · rename_i hk
            split at h
            · rename_i hx
              cases h; exact told_tick hx (hn (by omega)) hk
            · cases h
          · split at h
            · rename_i hk
              split at h
              · rename_i hx
                cases h; exact told_int hx.1 h1 hx.2 hk
              · cases h
            · split at h
              · rename_i hk
                split at h
                · rename_i hx
                  cases h; exact told_str hx (hn (by omega)) hk
                · cases h
              · cases h

theorem told_lex {t : Tk} {p : List UInt8} (h : Told t p) (f k : Nat) (hf : p.length < f) : lexL f k p = some [⟨t.kind, k, t.n, t.t⟩] := by
  obtain ⟨c, r, rfl, hb, hp⟩ := h.head
  obtain ⟨f', rfl⟩ : ∃ f', f = f' + 2 := ⟨f - 2, by simp at hf; omega⟩
  have hs : skipL ((c :: r).length + 1) (c :: r) = some 0 := by rw [skipL, if_neg (by simp [hb]), if_neg (by simp [hp])]
  have := lex_step (f := f' + 1) (p := k) (x := ⟨t.kind, t.n, t.t.data.toList, (c :: r).length⟩) (r := []) hs (by simp) (by rw [List.drop_zero]; exact h.tok) (by
    rw [Nat.zero_add, List.drop_length]
    exact lex_stop (by decide))
  rw [this, bytesOf_data]; rfl

/-- What the law has laid by behind some tokens: those that it wants, and their text. -/
def backStep (s : List Tk × List UInt8) (t : Tk) : List Tk × List UInt8 := match tokText t with
  | none => s
  | some q => (s.1 ++ [⟨t.kind, s.2.length, t.n, t.t⟩], s.2 ++ q ++ [32])
def backL (l : List Tk) : List Tk × List UInt8 := l.foldl backStep ([], [])
theorem backL_snoc (l : List Tk) (t : Tk) : backL (l ++ [t]) = backStep (backL l) t := by unfold backL; rw [List.foldl_append]; rfl

def BackOk (s : List Tk × List UInt8) : Prop := s = ([], []) ∨ ∃ l0, s.2 = l0 ++ [32] ∧ lexL (l0.length + 1) 0 l0 = some s.1
theorem back_step {s : List Tk × List UInt8} {t : Tk} (h : BackOk s) (h1 : t.n ≤ 9223372036854775807) : BackOk (backStep s t) := by
  unfold backStep
  cases ht : tokText t with
  | none => exact h
  | some q =>
    have hq := told ht h1
    simp only
    rcases h with rfl | ⟨l0, hl, hx⟩
    · refine .inr ⟨q, by simp, ?_⟩
      simpa using told_lex hq (q.length + 1) 0 (by omega)
    · refine .inr ⟨s.2 ++ q, by simp, ?_⟩
      rw [hl, List.append_assoc]
      have := told_lex hq (q.length + 1) (0 + l0.length + 1) (by omega)
      have hj := lex_join q _ (q.length + 1) (by omega) (l0.length + 1) 0 l0 s.1 ((l0 ++ ([32] ++ q)).length + 1) hx this (by simp)
      simpa using hj
theorem back_all (l : List Tk) (h : ∀ t ∈ l, t.n ≤ 9223372036854775807) : BackOk (backL l) := by
  have : ∀ (l : List Tk) (s : List Tk × List UInt8), (∀ t ∈ l, t.n ≤ 9223372036854775807) → BackOk s → BackOk (l.foldl backStep s) := by
    intro l
    induction l with
    | nil => intro s _ hs; exact hs
    | cons t r ih => intro s ha hs; exact ih _ (fun u hu => ha u (by simp [hu])) (back_step hs (ha t (by simp)))
  exact this l _ h (.inl rfl)
theorem back_lex {s : List Tk × List UInt8} (h : BackOk s) : lexL (s.2.length + 1) 0 s.2 = some s.1 := by
  rcases h with rfl | ⟨l0, hl, hx⟩
  · exact lex_stop (f := 0) (p := 0) (l := []) (by decide)
  · rw [hl]
    have hb : lexL 1 (0 + l0.length + 1) [] = some [] := lex_stop (f := 0) (by decide)
    have := lex_join [] [] 1 (by decide) (l0.length + 1) 0 l0 s.1 ((l0 ++ [32]).length + 1) hx hb (by simp)
    simpa using this
end Go.Proofs.YtabngleincejfaaGreatDoor
