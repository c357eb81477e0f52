/- Plain facts on the tokens of texts: of two texts with a blank between, of a text's beginning, of names; no Go in sight. -/
import Derived.Test.YtabngleincejfaaGreatDoorText
import Derived.Test.YtabngleincejfaaGreatDoorNamed
namespace Go.Proofs.YtabngleincejfaaGreatDoor

/-- Nothing, or a blank at first. -/
def Ends (m : List UInt8) : Prop := ∀ c r, m = c :: r → c = 32

theorem occ_grow {a b sub : List UInt8} {j : Nat} (hj : j ≤ a.length) (h : Lib.occAt a sub j = true) : Lib.occAt (a ++ b) sub j = true := by
  unfold Lib.occAt at *
  rw [List.drop_append_of_le_length hj]
  exact List.isPrefixOf_iff_prefix.2 ((List.isPrefixOf_iff_prefix.1 h).trans (List.prefix_append _ _))
theorem occ_cut {a b sub : List UInt8} {j : Nat} (hj : j + sub.length ≤ a.length) (h : Lib.occAt (a ++ b) sub j = true) : Lib.occAt a sub j = true := by
  unfold Lib.occAt at *
  rw [List.drop_append_of_le_length (by omega)] at h
  exact List.isPrefixOf_iff_prefix.2 (List.prefix_of_prefix_length_le (List.isPrefixOf_iff_prefix.1 h) (List.prefix_append _ _) (by rw [List.length_drop]; omega))

theorem index_at {a sub : List UInt8} {n : Nat} (h : Lib.index a sub = n) : n ≤ a.length ∧ Lib.occAt a sub n = true ∧ ∀ j, j < n → Lib.occAt a sub j = false := by
  rcases Lib.index_spec a sub with ⟨h1, _⟩ | ⟨i, h1, h2, h3, h4⟩
  · omega
  · have : i = n := by omega
    subst this
    exact ⟨h2, h3, h4⟩

theorem index_grow {a b sub : List UInt8} {n : Nat} (h : Lib.index a sub = n) : Lib.index (a ++ b) sub = n := by
  obtain ⟨h1, h2, h3⟩ := index_at h
  have hr := Lib.index_room a sub (by omega)
  refine Lib.index_first (by rw [List.length_append]; omega) (occ_grow h1 h2) fun j hj => ?_
  cases ho : Lib.occAt (a ++ b) sub j
  · rfl
  · have := occ_cut (a := a) (b := b) (sub := sub) (j := j) (by omega) ho
    rw [h3 j hj] at this; cases this

theorem index_cut {a b sub : List UInt8} {n : Nat} (h : Lib.index (a ++ b) sub = n) (hn : n + sub.length ≤ a.length) : Lib.index a sub = n := by
  obtain ⟨h1, h2, h3⟩ := index_at h
  refine Lib.index_first (by omega) (occ_cut hn h2) fun j hj => ?_
  cases ho : Lib.occAt a sub j
  · rfl
  · have := occ_grow (b := b) (by omega) ho
    rw [h3 j hj] at this; cases this

theorem skipL_fuel : ∀ (f f' : Nat) (l : List UInt8), l.length < f → l.length < f' → skipL f l = skipL f' l
  | 0, _, _, h, _ => by omega
  | _, 0, _, _, h => by omega
  | f + 1, f' + 1, [], _, _ => rfl
  | f + 1, f' + 1, c :: r, h, h' => by
    rw [List.length_cons] at h h'
    rw [skipL, skipL, skipL_fuel f f' r (by omega) (by omega)]
    have : ∀ n : Nat, skipL f ((c :: r).drop (n + 4)) = skipL f' ((c :: r).drop (n + 4)) := fun n => skipL_fuel f f' _ (by rw [List.length_drop, List.length_cons]; omega) (by rw [List.length_drop, List.length_cons]; omega)
    rw [this]

theorem skipL_le : ∀ (f : Nat) (l : List UInt8) (k : Nat), skipL f l = some k → k ≤ l.length
  | 0, _, _, h => by cases h
  | f + 1, [], k, h => by cases h; simp
  | f + 1, c :: r, k, h => by
    rw [skipL] at h
    split at h
    · rw [Option.map_eq_some_iff] at h
      obtain ⟨j, hj, rfl⟩ := h
      have := skipL_le f r j hj
      rw [List.length_cons]; omega
    · split at h
      · split at h
        · cases h
        · rename_i hx
          rw [Option.map_eq_some_iff] at h
          obtain ⟨j, hj, rfl⟩ := h
          have := skipL_le f _ j hj
          have hge := Lib.index_ge ((c :: r).drop 2) [42, 41]
          have hr := Lib.index_room ((c :: r).drop 2) [42, 41] (by omega)
          rw [List.length_drop] at this hr
          have e : ([42, 41] : List UInt8).length = 2 := rfl
          omega
      · cases h; simp

theorem hasPrefix_grow {l m : List UInt8} (hm : Ends m) (h : Lib.hasPrefix l [40, 42] = false) (hl : l ≠ []) : Lib.hasPrefix (l ++ m) [40, 42] = false := by
  cases l with
  | nil => exact absurd rfl hl
  | cons c r =>
    cases r with
    | nil =>
      cases m with
      | nil => simpa using h
      | cons d m' =>
        have := hm d m' rfl
        subst this
        simp [Lib.hasPrefix, List.isPrefixOf]
    | cons d r' => simpa [Lib.hasPrefix, List.isPrefixOf] using h
theorem hasPrefix_more {l m : List UInt8} (h : Lib.hasPrefix l [40, 42] = true) : Lib.hasPrefix (l ++ m) [40, 42] = true :=
  List.isPrefixOf_iff_prefix.2 ((List.isPrefixOf_iff_prefix.1 h).trans (List.prefix_append _ _))
theorem hasPrefix_two {l : List UInt8} (h : Lib.hasPrefix l [40, 42] = true) : 2 ≤ l.length := (List.isPrefixOf_iff_prefix.1 h).length_le
theorem hasPrefix_less {l m : List UInt8} (h : Lib.hasPrefix (l ++ m) [40, 42] = true) (hl : 2 ≤ l.length) : Lib.hasPrefix l [40, 42] = true :=
  List.isPrefixOf_iff_prefix.2 (List.prefix_of_prefix_length_le (List.isPrefixOf_iff_prefix.1 h) (List.prefix_append _ _) hl)

theorem skip_grow {m : List UInt8} (hm : Ends m) : ∀ (f : Nat) (l : List UInt8) (k f' f'' : Nat), skipL f l = some k → (l ++ m).length < f' → m.length < f'' → skipL f' (l ++ m) = if k < l.length then some k else (skipL f'' m).map (k + ·)
  | 0, _, _, _, _, h, _, _ => by cases h
  | f + 1, [], k, f', f'', h, h', h'' => by
    cases h
    rw [if_neg (by simp), List.nil_append, skipL_fuel f' f'' m (by simpa using h') h'']
    simp
  | f + 1, c :: r, k, 0, f'', h, h', h'' => by omega
  | f + 1, c :: r, k, f' + 1, f'', h, h', h'' => by
    rw [skipL] at h
    rw [List.cons_append, skipL]
    split at h
    · rename_i hb
      rw [Option.map_eq_some_iff] at h
      obtain ⟨j, hj, rfl⟩ := h
      rw [if_pos hb, skip_grow hm f r j f' f'' hj (by simp at h' ⊢; omega) h'']
      rw [List.length_cons]
      by_cases hlt : j < r.length
      · rw [if_pos hlt, if_pos (by omega)]; rfl
      · rw [if_neg hlt, if_neg (by omega), Option.map_map]
        congr 1; funext x; simp; omega
    · rename_i hb
      rw [if_neg hb]
      split at h
      · rename_i hp
        have h2 := hasPrefix_two hp
        rw [← List.cons_append, if_pos (hasPrefix_more hp), List.drop_append_of_le_length h2]
        split at h
        · cases h
        · rename_i hx
          rw [Option.map_eq_some_iff] at h
          obtain ⟨j, hj, rfl⟩ := h
          have hge := Lib.index_ge ((c :: r).drop 2) [42, 41]
          have hr := Lib.index_room ((c :: r).drop 2) [42, 41] (by omega)
          obtain ⟨n, hn⟩ : ∃ n : Nat, Lib.index ((c :: r).drop 2) [42, 41] = n := ⟨_, (Int.toNat_of_nonneg (by omega)).symm⟩
          rw [List.length_drop] at hr
          have e : ([42, 41] : List UInt8).length = 2 := rfl
          have hg : Lib.index ((c :: r).drop 2 ++ m) [42, 41] = n := index_grow hn
          rw [hn, Int.toNat_natCast] at hj ⊢
          rw [hg, if_neg (by omega), Int.toNat_natCast, List.drop_append_of_le_length (by omega)]
          rw [skip_grow hm f ((c :: r).drop (n + 4)) j f' f'' hj (by rw [List.length_append, List.length_drop] at *; rw [List.length_cons] at *; omega) h'']
          rw [List.length_drop]
          by_cases hlt : j < (c :: r).length - (n + 4)
          · rw [if_pos hlt, if_pos (by omega)]; rfl
          · rw [if_neg hlt, if_neg (by omega), Option.map_map]
            congr 1; funext x; simp; omega
      · rename_i hp
        cases h
        rw [← List.cons_append, if_neg (by rw [hasPrefix_grow hm (by simpa using hp) (by simp)]; simp), if_pos (by simp)]

theorem skip_cut : ∀ (f : Nat) (l m : List UInt8) (k f' : Nat), skipL f (l ++ m) = some k → k ≤ l.length → l.length < f' → skipL f' l = some k
  | 0, _, _, _, _, h, _, _ => by cases h
  | f + 1, _, _, _, 0, _, _, h' => by omega
  | f + 1, [], m, k, f' + 1, h, hk, _ => by
    have : k = 0 := by simpa using hk
    subst this; rfl
  | f + 1, c :: r, m, k, f' + 1, h, hk, h' => by
    rw [List.cons_append, skipL] at h
    rw [skipL]
    rw [List.length_cons] at hk h'
    split at h
    · rename_i hb
      rw [Option.map_eq_some_iff] at h
      obtain ⟨j, hj, rfl⟩ := h
      rw [if_pos hb, skip_cut f r m j f' hj (by omega) (by omega)]; rfl
    · rename_i hb
      rw [if_neg hb]
      rw [← List.cons_append] at h
      split at h
      · rename_i hp
        split at h
        · cases h
        · rename_i hx
          rw [Option.map_eq_some_iff] at h
          obtain ⟨j, hj, rfl⟩ := h
          have hge := Lib.index_ge (((c :: r) ++ m).drop 2) [42, 41]
          obtain ⟨n, hn⟩ : ∃ n : Nat, Lib.index (((c :: r) ++ m).drop 2) [42, 41] = n := ⟨_, (Int.toNat_of_nonneg (by omega)).symm⟩
          rw [hn, Int.toNat_natCast] at hj hk ⊢
          have hl : n + 4 ≤ (c :: r).length := by rw [List.length_cons]; omega
          rw [List.drop_append_of_le_length (by omega)] at hn
          have hn' : Lib.index ((c :: r).drop 2) [42, 41] = n := index_cut hn (by rw [List.length_drop]; show n + 2 ≤ _; omega)
          rw [if_pos (hasPrefix_less hp (by omega)), hn', if_neg (by omega), Int.toNat_natCast]
          rw [List.drop_append_of_le_length hl] at hj
          rw [skip_cut f _ m j f' hj (by rw [List.length_drop, List.length_cons]; omega) (by rw [List.length_drop, List.length_cons]; omega)]; rfl
      · rename_i hp
        cases h
        rw [if_neg]
        intro hp2
        exact hp (hasPrefix_more hp2)

theorem tw_grow {p : UInt8 → Bool} {l m : List UInt8} (hm : ∀ c r, m = c :: r → p c = false) : (l ++ m).takeWhile p = l.takeWhile p := by
  have h0 : m.takeWhile p = [] := by
    cases m with
    | nil => rfl
    | cons c r => rw [List.takeWhile_cons, hm c r rfl]; rfl
  induction l with
  | nil => simpa using h0
  | cons c r ih => rw [List.cons_append, List.takeWhile_cons, List.takeWhile_cons, ih]
theorem tw_cut {p : UInt8 → Bool} : ∀ {l m : List UInt8}, ((l ++ m).takeWhile p).length ≤ l.length → l.takeWhile p = (l ++ m).takeWhile p
  | [], m, h => by
    have : m.takeWhile p = [] := List.length_eq_zero_iff.1 (by simpa using h)
    simp [this]
  | c :: r, m, h => by
    rw [List.cons_append, List.takeWhile_cons] at h ⊢
    rw [List.takeWhile_cons]
    split
    · rename_i hc
      rw [if_pos hc] at h
      rw [tw_cut (by simpa using h)]
    · rfl

theorem rest_blank : restB 32 = false := by decide
theorem digit_blank : digitC 32 = false := by decide
theorem wl_le (l : List UInt8) : wordLen l ≤ l.length := by
  cases l with
  | nil => simp [wordLen]
  | cons c r =>
    rw [wordLen_cons]
    have := (List.takeWhile_prefix (l := r) restB).length_le
    split <;> simp <;> omega
theorem nl_le (l : List UInt8) : numLen l ≤ l.length := (List.takeWhile_prefix (l := l) digitC).length_le
theorem wl_grow {l m : List UInt8} (hm : Ends m) : wordLen (l ++ m) = wordLen l := by
  cases l with
  | nil =>
    cases m with
    | nil => rfl
    | cons c r =>
      have := hm c r rfl
      subst this
      rw [List.nil_append, wordLen_cons, if_neg (by decide)]; rfl
  | cons c r =>
    rw [List.cons_append, wordLen_cons, wordLen_cons, tw_grow (fun c r h => by rw [hm c r h]; exact rest_blank)]
theorem wl_cut {l m : List UInt8} (h : wordLen (l ++ m) ≤ l.length) : wordLen l = wordLen (l ++ m) := by
  cases l with
  | nil =>
    rw [List.nil_append] at h ⊢
    have h0 : wordLen m = 0 := by simpa using h
    rw [h0]; rfl
  | cons c r =>
    rw [List.cons_append, wordLen_cons] at h ⊢
    rw [wordLen_cons]
    split
    · rename_i hc
      rw [if_pos hc] at h
      rw [tw_cut (m := m) (by rw [List.length_cons] at h; omega)]
    · rfl
theorem nl_grow {l m : List UInt8} (hm : Ends m) : numLen (l ++ m) = numLen l := by
  unfold numLen
  rw [tw_grow (fun c r h => by rw [hm c r h]; exact digit_blank)]
theorem nl_cut {l m : List UInt8} (h : numLen (l ++ m) ≤ l.length) : numLen l = numLen (l ++ m) := by
  unfold numLen at *
  rw [tw_cut h]

theorem dec_grow {m : List UInt8} : ∀ (f : Nat) (l : List UInt8) (p : List UInt8 × Nat), l.length < f → decL l = some p → decL (l ++ m) = some p ∧ p.2 ≤ l.length
  | 0, _, _, hf, _ => by omega
  | f + 1, [], p, _, h => by cases h
  | f + 1, c :: r, p, hf, h => by
    rw [decL_cons] at h
    rw [List.cons_append, decL_cons]
    rw [List.length_cons] at hf ⊢
    split at h
    · rename_i h1
      rw [if_pos h1]
      cases h
      exact ⟨rfl, by simp⟩
    · rename_i h1
      rw [if_neg h1]
      split at h
      · rename_i h2
        rw [if_pos h2]
        cases r with
        | nil => cases h
        | cons d r2 =>
          simp only at h
          rw [List.cons_append]
          simp only
          split at h
          · cases h
          · rename_i x hx
            rw [Option.map_eq_some_iff] at h
            obtain ⟨q, hq, rfl⟩ := h
            rw [List.length_cons] at hf
            obtain ⟨a, b⟩ := dec_grow f r2 q (by omega) hq
            rw [a]
            exact ⟨rfl, by simp; omega⟩
      · rename_i h2
        rw [if_neg h2]
        rw [Option.map_eq_some_iff] at h
        obtain ⟨q, hq, rfl⟩ := h
        obtain ⟨a, b⟩ := dec_grow f r q (by omega) hq
        rw [a]
        exact ⟨rfl, by simp; omega⟩
theorem dec_cut {m : List UInt8} : ∀ (f : Nat) (l : List UInt8) (p : List UInt8 × Nat), l.length < f → decL (l ++ m) = some p → p.2 ≤ l.length → decL l = some p
  | 0, _, _, hf, _, _ => by omega
  | f + 1, [], p, _, h, hp => by
    have hz : 0 < p.2 := by
      cases m with
      | nil => cases h
      | cons c r =>
        rw [List.nil_append, decL_cons] at h
        split at h
        · cases h; simp
        · split at h
          · split at h
            · cases h
            · split at h
              · cases h
              · rw [Option.map_eq_some_iff] at h
                obtain ⟨q, _, rfl⟩ := h
                simp; omega
          · rw [Option.map_eq_some_iff] at h
            obtain ⟨q, _, rfl⟩ := h
            simp; omega
    simp at hp; omega
  | f + 1, c :: r, p, hf, h, hp => by
    rw [List.cons_append, decL_cons] at h
    rw [decL_cons]
    rw [List.length_cons] at hf hp
    split at h
    · rename_i h1
      rw [if_pos h1]; exact h
    · rename_i h1
      rw [if_neg h1]
      split at h
      · rename_i h2
        rw [if_pos h2]
        cases r with
        | nil =>
          exfalso
          cases m with
          | nil => cases h
          | cons d m' =>
            simp only [List.nil_append] at h
            split at h
            · cases h
            · rw [Option.map_eq_some_iff] at h
              obtain ⟨q, _, rfl⟩ := h
              simp at hp; omega
        | cons d r2 =>
          rw [List.cons_append] at h
          simp only at h ⊢
          split at h
          · cases h
          · rename_i x hx
            rw [Option.map_eq_some_iff] at h
            obtain ⟨q, hq, rfl⟩ := h
            rw [List.length_cons] at hf hp
            simp only at hp
            rw [dec_cut f r2 q (by omega) hq (by omega)]
            rfl
      · rename_i h2
        rw [if_neg h2]
        rw [Option.map_eq_some_iff] at h
        obtain ⟨q, hq, rfl⟩ := h
        simp only at hp
        rw [dec_cut f r q (by omega) hq (by omega)]
        rfl

theorem symQ_blank (c : UInt8) : symQ [c, 32] = false := by
  unfold symQ symB
  simp only [Lib.toList_data, bytesOf_list]
  simp

theorem symQ_nil : symQ [] = false := by
  unfold symQ symB
  simp only [Lib.toList_data, bytesOf_list]
  simp
theorem symLen_len (l : List UInt8) : symLen l ≤ l.length := by
  unfold symLen
  split
  · omega
  · split
    · rename_i h
      cases l with
      | nil => rw [List.take_nil, symQ_nil] at h; cases h
      | cons c r => simp
    · omega
theorem sl_two (c d : UInt8) (r m : List UInt8) : symLen ((c :: d :: r) ++ m) = symLen (c :: d :: r) := by
  have h1 : 2 ≤ ((c :: d :: r) ++ m).length := by simp
  have h2 : 2 ≤ (c :: d :: r).length := by simp
  have e2 : ((c :: d :: r) ++ m).take 2 = (c :: d :: r).take 2 := rfl
  have e1 : ((c :: d :: r) ++ m).take 1 = (c :: d :: r).take 1 := rfl
  unfold symLen
  rw [e2, e1]
  by_cases h : symQ ((c :: d :: r).take 2) = true
  · rw [if_pos ⟨h1, h⟩, if_pos ⟨h2, h⟩]
  · have n1 : ¬ (2 ≤ ((c :: d :: r) ++ m).length ∧ symQ ((c :: d :: r).take 2) = true) := fun x => h x.2
    have n2 : ¬ (2 ≤ (c :: d :: r).length ∧ symQ ((c :: d :: r).take 2) = true) := fun x => h x.2
    rw [if_neg n1, if_neg n2]
theorem sl_one (c : UInt8) (m : List UInt8) (h : symQ (([c] ++ m).take 2) = false ∨ m = []) : symLen ([c] ++ m) = symLen [c] := by
  rcases h with h | rfl
  · have e1 : ([c] ++ m).take 1 = [c].take 1 := rfl
    unfold symLen
    have n1 : ¬ (2 ≤ ([c] ++ m).length ∧ symQ (([c] ++ m).take 2) = true) := fun x => by rw [h] at x; cases x.2
    have n2 : ¬ (2 ≤ [c].length ∧ symQ ([c].take 2) = true) := fun x => absurd x.1 (by simp)
    rw [e1, if_neg n1, if_neg n2]
  · rfl
theorem sl_grow {l m : List UInt8} (hm : Ends m) (hl : l ≠ []) : symLen (l ++ m) = symLen l := by
  cases l with
  | nil => exact absurd rfl hl
  | cons c r =>
    cases r with
    | cons d r2 => exact sl_two c d r2 m
    | nil =>
      refine sl_one c m ?_
      cases m with
      | nil => exact .inr rfl
      | cons d m' =>
        have := hm d m' rfl
        subst this
        exact .inl (symQ_blank c)
theorem sl_cut {l m : List UInt8} (h : symLen (l ++ m) ≤ l.length) (hl : l ≠ []) : symLen l = symLen (l ++ m) := by
  cases l with
  | nil => exact absurd rfl hl
  | cons c r =>
    cases r with
    | cons d r2 => exact (sl_two c d r2 m).symm
    | nil =>
      refine (sl_one c m ?_).symm
      cases m with
      | nil => exact .inr rfl
      | cons d m' =>
        refine .inl ?_
        cases h2 : symQ (([c] ++ d :: m').take 2)
        · rfl
        · exfalso
          unfold symLen at h
          rw [if_pos ⟨by simp, h2⟩] at h
          simp at h

theorem tok_len {l : List UInt8} {x : Tok} (h : tokL l = some x) : 0 < x.len ∧ x.len ≤ l.length := by
  cases l with
  | nil => cases h
  | cons c r =>
    rw [tokL] at h
    split at h
    · rename_i hs
      have := wordLen_pos c r hs
      have h2 := wl_le (c :: r)
      unfold wordTok at h
      split at h
      · cases h; exact ⟨this, h2⟩
      · cases h
    · split at h
      · have h2 := wl_le r
        unfold tickTok at h
        split at h
        · cases h; simp; omega
        · cases h
      · split at h
        · rename_i hs
          have := numLen_pos c r hs
          have h2 := nl_le (c :: r)
          unfold digitTok at h
          split at h
          · cases h; exact ⟨this, h2⟩
          · cases h
        · split at h
          · unfold textTok at h
            rw [Option.map_eq_some_iff] at h
            obtain ⟨p, hp, rfl⟩ := h
            have := (dec_grow (m := []) (r.length + 1) r p (by omega) hp).2
            simp; omega
          · unfold symTok at h
            have := symLen_len (c :: r)
            split at h
            · cases h; simp only; omega
            · cases h

theorem tok_grow {l m : List UInt8} {x : Tok} (hm : Ends m) (h : tokL l = some x) : tokL (l ++ m) = some x := by
  cases l with
  | nil => cases h
  | cons c r =>
    rw [tokL] at h
    rw [List.cons_append, tokL]
    have t1 : wordTok (c :: (r ++ m)) = wordTok (c :: r) := by
      unfold wordTok
      rw [← List.cons_append, wl_grow hm, List.take_append_of_le_length (wl_le _)]
    have t2 : tickTok (r ++ m) = tickTok r := by
      unfold tickTok
      rw [wl_grow hm, List.take_append_of_le_length (wl_le _)]
    have t3 : digitTok (c :: (r ++ m)) = digitTok (c :: r) := by
      unfold digitTok
      rw [← List.cons_append, nl_grow hm, List.take_append_of_le_length (nl_le _)]
    have t4 : symTok (c :: (r ++ m)) = symTok (c :: r) := by
      unfold symTok
      rw [← List.cons_append, sl_grow hm (by simp), List.take_append_of_le_length (symLen_len _)]
    rw [t1, t2, t3, t4]
    split at h
    · rename_i hs; rw [if_pos hs]; exact h
    · rename_i hs; rw [if_neg hs]
      split at h
      · rename_i hs; rw [if_pos hs]; exact h
      · rename_i hs; rw [if_neg hs]
        split at h
        · rename_i hs; rw [if_pos hs]; exact h
        · rename_i hs; rw [if_neg hs]
          split at h
          · rename_i hs; rw [if_pos hs]
            unfold textTok at h ⊢
            rw [Option.map_eq_some_iff] at h
            obtain ⟨p, hp, rfl⟩ := h
            rw [(dec_grow (m := m) (r.length + 1) r p (by omega) hp).1]; rfl
          · rename_i hs; rw [if_neg hs]; exact h

theorem tok_cut {l m : List UInt8} {x : Tok} (h : tokL (l ++ m) = some x) (hx : x.len ≤ l.length) : tokL l = some x := by
  have hp := (tok_len h).1
  cases l with
  | nil => simp at hx; omega
  | cons c r =>
    rw [List.cons_append, tokL] at h
    rw [tokL]
    split at h
    · rename_i hs; rw [if_pos hs]
      unfold wordTok at h ⊢
      rw [← List.cons_append] at h
      split at h
      · rename_i h1
        cases h
        have hx' : wordLen (c :: r ++ m) ≤ (c :: r).length := hx
        rw [wl_cut hx', if_pos h1, List.take_append_of_le_length hx']
      · cases h
    · rename_i hs; rw [if_neg hs]
      split at h
      · rename_i hs; rw [if_pos hs]
        unfold tickTok at h ⊢
        split at h
        · rename_i h1
          cases h
          have hx2 : wordLen (r ++ m) ≤ r.length := by simp at hx; omega
          have := wl_cut hx2
          rw [this, if_pos h1, List.take_append_of_le_length hx2]
        · cases h
      · rename_i hs; rw [if_neg hs]
        split at h
        · rename_i hs; rw [if_pos hs]
          unfold digitTok at h ⊢
          rw [← List.cons_append] at h
          split at h
          · rename_i v hv
            cases h
            have hx' : numLen (c :: r ++ m) ≤ (c :: r).length := hx
            rw [List.take_append_of_le_length hx'] at hv
            rw [nl_cut hx', hv]
          · cases h
        · rename_i hs; rw [if_neg hs]
          split at h
          · rename_i hs; rw [if_pos hs]
            unfold textTok at h ⊢
            rw [Option.map_eq_some_iff] at h
            obtain ⟨p, hpp, rfl⟩ := h
            rw [dec_cut (m := m) (r.length + 1) r p (by omega) hpp (by simp at hx; omega)]; rfl
          · rename_i hs; rw [if_neg hs]
            unfold symTok at h ⊢
            rw [← List.cons_append] at h
            split at h
            · rename_i h1
              cases h
              have hx' : symLen (c :: r ++ m) ≤ (c :: r).length := hx
              rw [sl_cut hx' (by simp), if_pos h1, List.take_append_of_le_length hx']
            · cases h

theorem lexL_fuel : ∀ (f f' p : Nat) (l : List UInt8), l.length < f → l.length < f' → lexL f p l = lexL f' p l
  | 0, _, _, _, h, _ => by omega
  | _, 0, _, _, _, h => by omega
  | f + 1, f' + 1, p, l, h, h' => by
    rw [lexL, lexL]
    cases hk : skipL (l.length + 1) l with
    | none => rfl
    | some k =>
      simp only
      split
      · rfl
      · cases ht : tokL (l.drop k) with
        | none => rfl
        | some x =>
          have hl := tok_len ht
          simp only
          rw [lexL_fuel f f' _ (l.drop (k + x.len)) (by rw [List.length_drop] at *; omega) (by rw [List.length_drop] at *; omega)]

/-- Two texts, a blank between: the tokens of both. -/
theorem lex_join (b : List UInt8) (y : List Tk) (f2 : Nat) (hf2 : b.length < f2) : ∀ (f p : Nat) (l : List UInt8) (x : List Tk) (f' : Nat), lexL f p l = some x → lexL f2 (p + l.length + 1) b = some y → (l ++ 32 :: b).length < f' → lexL f' p (l ++ 32 :: b) = some (x ++ y)
  | 0, _, _, _, _, h, _, _ => by cases h
  | f + 1, p, l, x, 0, _, _, h => by omega
  | f + 1, p, l, x, f' + 1, h, hy, hf => by
    have hm : Ends (32 :: b) := fun c r e => by cases e; rfl
    rw [lexL] at h
    rw [lexL]
    cases hk : skipL (l.length + 1) l with
    | none => rw [hk] at h; cases h
    | some k =>
      rw [hk] at h
      simp only at h
      have hkl := skipL_le _ _ _ hk
      have hg := skip_grow hm (l.length + 1) l k ((l ++ 32 :: b).length + 1) (b.length + 2) hk (by omega) (by simp)
      split at h
      · rename_i hle
        cases h
        have e : k = l.length := by omega
        subst e
        rw [if_neg (by omega), show b.length + 2 = (b.length + 1) + 1 from rfl, skipL, if_pos (by decide)] at hg
        obtain ⟨f3, rfl⟩ : ∃ f3, f2 = f3 + 1 := ⟨f2 - 1, by omega⟩
        rw [lexL] at hy
        cases hj : skipL (b.length + 1) b with
        | none => rw [hj] at hy; cases hy
        | some j =>
          rw [hj] at hy hg
          simp only [Option.map_some] at hy hg
          rw [hg]
          simp only
          rw [List.length_append, List.length_cons] at *
          have hd : ∀ n, (l ++ 32 :: b).drop (l.length + (1 + n)) = b.drop n := fun n => by
            rw [List.drop_append, show l.length + (1 + n) - l.length = n + 1 from by omega, List.drop_succ_cons, List.drop_eq_nil_of_le (by omega)]; rfl
          by_cases hbj : b.length ≤ j
          · rw [if_pos hbj] at hy
            rw [if_pos (by omega)]; simpa using hy
          · rw [if_neg hbj] at hy
            rw [if_neg (by omega), hd j]
            cases ht : tokL (b.drop j) with
            | none => rw [ht] at hy; cases hy
            | some z =>
              rw [ht] at hy
              have hz := tok_len ht
              rw [List.length_drop] at hz
              simp only at hy ⊢
              rw [show l.length + (1 + j) + z.len = l.length + (1 + (j + z.len)) from by omega, hd, lexL_fuel f' f3 _ _ (by rw [List.length_drop]; omega) (by rw [List.length_drop]; omega)]
              rw [show p + (l.length + (1 + j)) = p + l.length + 1 + j from by omega]
              simpa using hy
      · rename_i hle
        rw [if_pos (by omega)] at hg
        rw [hg]
        simp only
        rw [if_neg (by rw [List.length_append]; omega), List.drop_append_of_le_length (by omega)]
        cases ht : tokL (l.drop k) with
        | none => rw [ht] at h; cases h
        | some z =>
          rw [ht] at h
          have hz := tok_len ht
          rw [List.length_drop] at hz
          rw [tok_grow hm ht]
          simp only at h ⊢
          rw [Option.map_eq_some_iff] at h
          obtain ⟨x', hx', rfl⟩ := h
          rw [List.drop_append_of_le_length (by omega)]
          rw [lex_join b y f2 hf2 f (p + k + z.len) (l.drop (k + z.len)) x' f' hx' (by
            have e : p + k + z.len + (l.drop (k + z.len)).length + 1 = p + l.length + 1 := by rw [List.length_drop]; omega
            rw [e]; exact hy) (by rw [List.length_append, List.length_drop] at *; omega)]
          rfl

/-- A text cut where a token begins: the tokens ahead of it. -/
theorem lex_cut : ∀ (f p : Nat) (l : List UInt8) (x : List Tk) (i : Nat) (f' : Nat), lexL f p l = some x → i < x.length → l.length < f' → ∃ q t, q < l.length ∧ x[i]? = some t ∧ t.at_ = ((p + q : Nat) : Int) ∧ lexL f' p (l.take q) = some (x.take i)
  | 0, _, _, _, _, _, h, _, _ => by cases h
  | f + 1, p, l, x, i, 0, _, _, h => by omega
  | f + 1, p, l, x, i, f' + 1, h, hi, hf => by
    rw [lexL] at h
    cases hk : skipL (l.length + 1) l with
    | none => rw [hk] at h; cases h
    | some k =>
      rw [hk] at h
      simp only at h
      split at h
      · cases h; simp at hi
      · rename_i hle
        cases ht : tokL (l.drop k) with
        | none => rw [ht] at h; cases h
        | some z =>
          rw [ht] at h
          have hz := tok_len ht
          rw [List.length_drop] at hz
          simp only at h
          rw [Option.map_eq_some_iff] at h
          obtain ⟨x', hx', rfl⟩ := h
          have hcut : ∀ q, k ≤ q → q ≤ l.length → skipL ((l.take q).length + 1) (l.take q) = some k := fun q h1 h2 => by
            refine skip_cut (l.length + 1) (l.take q) (l.drop q) k _ (by rw [List.take_append_drop]; exact hk) (by rw [List.length_take]; omega) (by omega)
          cases i with
          | zero =>
            refine ⟨k, _, by omega, rfl, rfl, ?_⟩
            rw [lexL, hcut k (by omega) (by omega)]
            simp only
            rw [if_pos (by rw [List.length_take]; omega)]; rfl
          | succ i =>
            obtain ⟨q, t, hq, ht2, hat, hr⟩ := lex_cut f (p + k + z.len) (l.drop (k + z.len)) x' i f' hx' (by simpa using hi) (by rw [List.length_drop]; omega)
            rw [List.length_drop] at hq
            refine ⟨k + z.len + q, t, by omega, by simpa using ht2, by rw [hat]; congr 1; omega, ?_⟩
            rw [lexL, hcut (k + z.len + q) (by omega) (by omega)]
            simp only
            rw [if_neg (by rw [List.length_take]; omega)]
            have htk : tokL ((l.take (k + z.len + q)).drop k) = some z := by
              refine tok_cut (m := l.drop (k + z.len + q)) ?_ (by rw [List.length_drop, List.length_take]; omega)
              rw [← List.drop_append_of_le_length (by rw [List.length_take]; omega), List.take_append_drop]; exact ht
            rw [htk]
            simp only
            have hdt : (l.take (k + z.len + q)).drop (k + z.len) = (l.drop (k + z.len)).take q := by
              rw [List.drop_take]; congr 1; omega
            rw [hdt, hr]; rfl

theorem small_first {c : UInt8} (h : sortF (c.toNat : Int) = 1) : blankB (c.toNat : Int) = false ∧ c ≠ 40 := by
  constructor
  · unfold blankB
    simp
    refine ⟨⟨⟨?_, ?_⟩, ?_⟩, ?_⟩ <;> intro e <;> rw [e] at h <;> exact absurd h (by decide)
  · rintro rfl; exact absurd h (by decide)

/-- What isn't passed over. -/
theorem skip_none {c : UInt8} {r : List UInt8} (f : Nat) (hb : blankB (c.toNat : Int) = false) (h : c ≠ 40) : skipL (f + 1) (c :: r) = some 0 := by
  rw [skipL, if_neg (by simp [hb]), if_neg]
  simp [Lib.hasPrefix, List.isPrefixOf]
  intro e; exact absurd e.symm h

theorem isWord_sort {s : ByteArray} (h : isWordB s = true) : ∃ c r, s.data.toList = c :: r ∧ sortF (c.toNat : Int) = 1 ∧ wordLen (c :: r) = s.size ∧ s.size ≤ 100 := by
  unfold isWordB at h
  simp only [Bool.and_eq_true, decide_eq_true_eq] at h
  obtain ⟨⟨h1, h2⟩, h3⟩ := h
  rw [from_zero] at h2
  cases hd : s.data.toList with
  | nil => rw [Lib.size_eq, hd] at h1; simp at h1
  | cons c r =>
    rw [hd] at h2
    refine ⟨c, r, rfl, ?_, h2, h3⟩
    rw [wordLen_cons] at h2
    split at h2
    · assumption
    · omega

theorem names_one {s : ByteArray} (h : nameB s = true) : toksOf s = some [⟨1, 0, 0, s⟩] := by
  unfold nameB at h
  simp only [Bool.and_eq_true, Bool.not_eq_true'] at h
  obtain ⟨hw, hk⟩ := h
  obtain ⟨c, r, hd, hs, hl, h100⟩ := isWord_sort hw
  obtain ⟨hb, h40⟩ := small_first hs
  have hz : s.size = (c :: r).length := by rw [Lib.size_eq, hd]
  unfold toksOf
  rw [hd, lexL, skip_none _ hb h40]
  simp only
  rw [if_neg (by simp), List.drop_zero, tokL, if_pos hs]
  have ht : (c :: r).take (wordLen (c :: r)) = c :: r := by rw [hl, hz]; exact List.take_length
  have hby : bytesOf (c :: r) = s := by rw [← hd]; exact bytesOf_data s
  unfold wordTok
  rw [if_pos (by omega)]
  simp only [ht, hby]
  rw [hl, Nat.zero_add, Nat.zero_add, hz, List.drop_length, ← hz]
  obtain ⟨z, hz2⟩ : ∃ z, s.size = z + 1 := ⟨s.size - 1, by rw [hz]; simp⟩
  rw [hz2, lexL, List.length_nil, skipL]
  simp [kindOf, hk]

theorem names_back {s : ByteArray} (h : toksOf s = some [⟨1, 0, 0, s⟩]) : nameB s = true := by
  unfold toksOf at h
  rw [lexL] at h
  split at h
  · cases h
  · rename_i k hk
    split at h
    · cases h
    · split at h
      · cases h
      · rename_i x hx
        rw [Option.map_eq_some_iff] at h
        obtain ⟨l', _, hl'⟩ := h
        simp only [List.cons.injEq, Tk.mk.injEq] at hl'
        obtain ⟨⟨h1, h2, h3, h4⟩, _⟩ := hl'
        have hk0 : k = 0 := by omega
        subst hk0
        rw [List.drop_zero] at hx
        have h5 : x.t = s.data.toList := by rw [← h4, bytesOf_list]
        cases hd : s.data.toList with
        | nil => rw [hd] at hx; cases hx
        | cons c r =>
          rw [hd, tokL] at hx
          split at hx
          · rename_i hs
            unfold wordTok at hx
            split at hx
            · rename_i h100
              cases hx
              simp only at h1 h4 h5
              have hl := congrArg List.length h5
              rw [List.length_take, hd] at hl
              have hle := wl_le (c :: r)
              have hz : s.size = (c :: r).length := by rw [Lib.size_eq, hd]
              rw [h4] at h1
              unfold nameB isWordB
              rw [from_zero, hd]
              simp only [Bool.and_eq_true, decide_eq_true_eq, Bool.not_eq_true']
              refine ⟨⟨⟨?_, ?_⟩, ?_⟩, ?_⟩
              · rw [hz]; simp
              · omega
              · omega
              · unfold kindOf at h1
                cases hkb : keyB s
                · rfl
                · rw [if_pos hkb] at h1; omega
            · cases hx
          · split at hx
            · unfold tickTok at hx
              split at hx
              · cases hx; simp at h1
              · cases hx
            · split at hx
              · unfold digitTok at hx
                split at hx
                · cases hx; simp at h1
                · cases hx
              · split at hx
                · unfold textTok at hx
                  rw [Option.map_eq_some_iff] at hx
                  obtain ⟨p, _, rfl⟩ := hx
                  simp at h1
                · unfold symTok at hx
                  split at hx
                  · cases hx; simp at h1
                  · cases hx

theorem names_more {s : ByteArray} (h : nameB s = true) (hz : s.size ≠ 100) : isWordB (s ++ ⟨#[120]⟩) = true := by
  unfold nameB at h
  simp only [Bool.and_eq_true, Bool.not_eq_true'] at h
  obtain ⟨c, r, hd, hs, hl, h100⟩ := isWord_sort h.1
  have hd2 : (s ++ ⟨#[120]⟩ : ByteArray).data.toList = c :: (r ++ [120]) := by simp [ByteArray.data_append, hd]
  have hz2 : (s ++ ⟨#[120]⟩ : ByteArray).size = s.size + 1 := by rw [Lib.size_eq, hd2, Lib.size_eq, hd]; simp
  have hz3 : s.size = r.length + 1 := by rw [Lib.size_eq, hd]; simp
  rw [wordLen_cons, if_pos hs] at hl
  have hall : r.takeWhile restB = r := by
    have hp := List.takeWhile_prefix (l := r) restB
    exact hp.eq_of_length (by omega)
  have h2 : (r ++ [120]).takeWhile restB = r ++ [120] := by
    have : ∀ l : List UInt8, l.takeWhile restB = l → (l ++ [120]).takeWhile restB = l ++ [120] := by
      intro l
      induction l with
      | nil => intro _; decide
      | cons d l ih =>
        intro hl
        rw [List.takeWhile_cons] at hl
        split at hl
        · rename_i hd
          rw [List.cons_append, List.takeWhile_cons, if_pos hd, ih (by simpa using hl)]
        · cases hl
    exact this r hall
  unfold isWordB
  rw [from_zero, hd2, wordLen_cons, if_pos hs, h2, hz2]
  simp
  omega
end Go.Proofs.YtabngleincejfaaGreatDoor
