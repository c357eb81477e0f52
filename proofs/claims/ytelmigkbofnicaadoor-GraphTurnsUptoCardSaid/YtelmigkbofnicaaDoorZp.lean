/- Graphs whose nodes stand in another order, and one closed node that stands twice: the same types. -/
import Derived.Test.YtelmigkbofnicaaDoorGp
namespace Go.Proofs.YtelmigkbofnicaaDoor
open Go.ChangeShapes Go.WideShapes Go.ChangeAt Go.RowKit

def turnI (b n : Nat) (a : Int) : Int := (((a.toNat + b) % n : Nat) : Int)
def turnN (b n : Nat) (x : GN) : GN := { x with args := x.args.map (turnI b n) }
def noN : GN := { k := 0, nm := ⟨#[]⟩, args := [], labels := [], op := false }
def turnG (b : Nat) (G : List GN) : List GN := (List.range G.length).map fun j => turnN b G.length (G.getD ((j + (G.length - b % G.length)) % G.length) noN)
theorem turn_back {b n i : Nat} (hi : i < n) : ((i + b) % n + (n - b % n)) % n = i := by
  have hn : 0 < n := by omega
  have h1 : b % n < n := Nat.mod_lt _ hn
  have h2 : (i + b) % n = (i + b % n) % n := by rw [Nat.add_mod, Nat.mod_eq_of_lt hi, ]
  rw [h2]
  rcases Nat.lt_or_ge (i + b % n) n with h | h
  · rw [Nat.mod_eq_of_lt h, show i + b % n + (n - b % n) = i + n by omega, Nat.add_mod_right, Nat.mod_eq_of_lt hi]
  · rw [Nat.mod_eq_sub_mod h, Nat.mod_eq_of_lt (show i + b % n - n < n by omega), show i + b % n - n + (n - b % n) = i by omega, Nat.mod_eq_of_lt hi]
theorem turn_forth {b n j : Nat} (hj : j < n) : ((j + (n - b % n)) % n + b) % n = j := by
  have hn : 0 < n := by omega
  have h1 : b % n < n := Nat.mod_lt _ hn
  rw [Nat.add_mod, Nat.mod_mod]
  rcases Nat.lt_or_ge (j + (n - b % n)) n with h | h
  · rw [Nat.mod_eq_of_lt h, show j + (n - b % n) + b % n = j + n by omega, Nat.add_mod_right, Nat.mod_eq_of_lt hj]
  · rcases Nat.lt_or_ge (j + (n - b % n)) (n + n) with h2 | h2
    · rw [Nat.mod_eq_sub_mod h, Nat.mod_eq_of_lt (show j + (n - b % n) - n < n by omega), show j + (n - b % n) - n + b % n = j by omega, Nat.mod_eq_of_lt hj]
    · omega
theorem turn_inj {b n i j : Nat} (hi : i < n) (hj : j < n) (h : (i + b) % n = (j + b) % n) : i = j := by
  rw [← turn_back (b := b) hi, h, turn_back hj]
theorem turn_len (b : Nat) (G : List GN) : (turnG b G).length = G.length := by simp [turnG]
theorem turn_get {b : Nat} {G : List GN} {i : Nat} {x : GN} (h : G[i]? = some x) : (turnG b G)[(i + b) % G.length]? = some (turnN b G.length x) := by
  have hi := (List.getElem?_eq_some_iff.1 h).1
  have hn : 0 < G.length := by omega
  unfold turnG
  rw [List.getElem?_map, List.getElem?_range (Nat.mod_lt _ hn)]
  simp only [Option.map_some]
  rw [turn_back hi, List.getD_eq_getElem?_getD, h]; rfl
theorem turn_has {b : Nat} {G : List GN} {j : Nat} (hj : j < G.length) : ∃ i x, G[i]? = some x ∧ j = (i + b) % G.length ∧ (turnG b G)[j]? = some (turnN b G.length x) := by
  have hn : 0 < G.length := by omega
  have hi : (j + (G.length - b % G.length)) % G.length < G.length := Nat.mod_lt _ hn
  refine ⟨_, _, List.getElem?_eq_getElem hi, (turn_forth hj).symm, ?_⟩
  have := turn_get (b := b) (List.getElem?_eq_getElem hi)
  rw [turn_forth hj] at this
  exact this
theorem head_args {x y : GN} (h0 : x.k = y.k) (h1 : x.nm = y.nm) (h2 : x.args.length = y.args.length) (h3 : x.labels = y.labels) (h4 : x.op = y.op) : headB x = headB y := by
  unfold headB
  rw [h0, h1, h2, h3, h4]
theorem turn_fit {b : Nat} {x : GN} {n : Nat} (hn : 0 < n) (h : fitG x n = true) : fitG (turnN b n x) n = true := by
  have h1 := fit_head h
  unfold fitG
  rw [Bool.and_eq_true]
  refine ⟨?_, ?_⟩
  · unfold argsIn
    rw [List.all_eq_true]
    intro a ha
    obtain ⟨c, _, rfl⟩ := List.mem_map.1 (show a ∈ x.args.map (turnI b n) from ha)
    refine inside_iff.2 ?_
    unfold turnI
    have := Nat.mod_lt (c.toNat + b) hn
    omega
  · rw [← h1]
    exact head_args rfl rfl (by simp [turnN]) rfl rfl
theorem turn_check {b : Nat} {G : List GN} {r : Nat} (h : checkG G (r : Int) = 0) : checkG (turnG b G) (((r + b) % G.length : Nat) : Int) = 0 := by
  obtain ⟨h1, h2, h3⟩ := checkG_ok.1 h
  have h4 := inside_iff.1 h2
  have hn : 0 < G.length := by omega
  refine checkG_ok.2 ⟨by rw [turn_len]; exact h1, ?_, fun x hx => ?_⟩
  · rw [turn_len]
    refine inside_iff.2 ?_
    have := Nat.mod_lt (r + b) hn
    omega
  · obtain ⟨j, hj, e⟩ := List.mem_iff_getElem.1 hx
    rw [turn_len] at hj
    obtain ⟨i, y, hy, _, hz⟩ := turn_has (b := b) (G := G) hj
    rw [List.getElem?_eq_getElem (by rw [turn_len]; exact hj), e] at hz
    cases hz
    rw [turn_len]
    exact turn_fit hn (h3 y (List.mem_of_getElem? hy))
theorem toG_in {G : List GN} {i : Nat} {x : GN} (h : G[i]? = some x) : (toG G)[i]? = some (toN x) := by
  unfold toG; rw [List.getElem?_map, h]; rfl
theorem turn_same {b : Nat} {G : List GN} {r : Nat} (h : checkG G (r : Int) = 0) : sameGr G (r : Int) (turnG b G) (((r + b) % G.length : Nat) : Int) = true := by
  obtain ⟨h1, h2, h3⟩ := checkG_ok.1 h
  have h4 := inside_iff.1 h2
  have hr : r < G.length := by omega
  refine sameGr_iff.2 ⟨h, turn_check h, fun a c => a < G.length ∧ c = (a + b) % G.length, ⟨by simpa using hr, by show ((((r + b) % G.length : Nat) : Int)).toNat = ((r : Int).toNat + b) % G.length; rw [Int.toNat_natCast, Int.toNat_natCast]⟩, ⟨?_, ?_, ?_, ?_⟩⟩
  · rintro a c ⟨ha, rfl⟩
    have hx := List.getElem?_eq_getElem ha
    exact ⟨_, _, toG_in hx, toG_in (turn_get hx), ⟨rfl, rfl, rfl, rfl⟩, by simp [toN, turnN]⟩
  · rintro a c x y ⟨ha, rfl⟩ hx hy i p q hp hq
    have hg := List.getElem?_eq_getElem ha
    rw [toG_in hg] at hx
    rw [toG_in (turn_get hg)] at hy
    cases hx; cases hy
    have hp' : (G[a].args.map Int.toNat)[i]? = some p := hp
    have hq' : ((G[a].args.map (turnI b G.length)).map Int.toNat)[i]? = some q := hq
    rw [List.getElem?_map, Option.map_eq_some_iff] at hp'
    obtain ⟨c, hc, rfl⟩ := hp'
    rw [List.getElem?_map, List.getElem?_map, hc] at hq'
    simp only [Option.map_some, Option.some.injEq] at hq'
    subst hq'
    have := fit_args (h3 _ (List.getElem_mem ha)) c (List.mem_of_getElem? hc)
    exact ⟨by omega, by unfold turnI; omega⟩
  · rintro a c c' x ⟨_, rfl⟩ ⟨_, rfl⟩ _ _; rfl
  · rintro a a' c x ⟨ha, rfl⟩ ⟨ha', e⟩ _ _
    exact (turn_inj ha ha' e).symm

/-- The first Arg, where it is one node, another one. -/
def fstI (k n : Nat) : List Int → List Int
  | [] => []
  | a :: l => (if a = (k : Int) then (n : Int) else a) :: l
def twiceN (k n : Nat) (x : GN) : GN := { x with args := fstI k n x.args }
def twiceG (k : Nat) (H : List GN) : List GN := (H ++ [H.getD k noN]).map (twiceN k H.length)
theorem fst_len (k n : Nat) (l : List Int) : (fstI k n l).length = l.length := by cases l <;> simp [fstI]
theorem fst_get {k n : Nat} {l : List Int} {i : Nat} {a : Int} (h : (fstI k n l)[i]? = some a) : ∃ c, l[i]? = some c ∧ (a = c ∨ c = (k : Int) ∧ a = (n : Int)) := by
  cases l with
  | nil => cases h
  | cons c l =>
    cases i with
    | zero =>
      have h' : (if c = (k : Int) then (n : Int) else c) = a := by simpa [fstI] using h
      refine ⟨c, rfl, ?_⟩
      split at h'
      · rename_i e; exact .inr ⟨e, h'.symm⟩
      · exact .inl h'.symm
    | succ i => exact ⟨a, by simpa [fstI] using h, .inl rfl⟩
theorem twice_len (k : Nat) (H : List GN) : (twiceG k H).length = H.length + 1 := by simp [twiceG]
theorem twice_get {k : Nat} {H : List GN} {i : Nat} {x : GN} (h : H[i]? = some x) : (twiceG k H)[i]? = some (twiceN k H.length x) := by
  have hi := (List.getElem?_eq_some_iff.1 h).1
  unfold twiceG
  rw [List.getElem?_map, List.getElem?_append_left hi, h]; rfl
theorem twice_last {k : Nat} {H : List GN} {x : GN} (h : H[k]? = some x) : (twiceG k H)[H.length]? = some (twiceN k H.length x) := by
  unfold twiceG
  rw [List.getElem?_map, List.getElem?_append_right (Nat.le_refl _), Nat.sub_self, List.getD_eq_getElem?_getD, h]; rfl
theorem twice_fit {k : Nat} {x : GN} {n : Nat} (h : fitG x n = true) : fitG (twiceN k n x) ((n + 1 : Nat) : Int) = true := by
  have h1 := fit_head h
  have h2 := fit_args h
  unfold fitG
  rw [Bool.and_eq_true]
  refine ⟨?_, ?_⟩
  · unfold argsIn
    rw [List.all_eq_true]
    intro a ha
    obtain ⟨i, hi, e⟩ := List.mem_iff_getElem.1 (show a ∈ fstI k n x.args from ha)
    obtain ⟨c, hc, hac⟩ := fst_get (k := k) (n := n) (l := x.args) (i := i) (a := a) (by rw [List.getElem?_eq_getElem hi, e])
    have := h2 c (List.mem_of_getElem? hc)
    refine inside_iff.2 ?_
    rcases hac with rfl | ⟨_, rfl⟩ <;> omega
  · rw [← h1]
    exact head_args rfl rfl (fst_len _ _ _) rfl rfl
theorem twice_check {k : Nat} {H : List GN} {s : Nat} (h : checkG H (s : Int) = 0) (hk : k < H.length) (hl : H.length ≤ 300) : checkG (twiceG k H) (s : Int) = 0 := by
  obtain ⟨h1, h2, h3⟩ := checkG_ok.1 h
  have h4 := inside_iff.1 h2
  refine checkG_ok.2 ⟨by rw [twice_len]; omega, ?_, fun x hx => ?_⟩
  · rw [twice_len]
    refine inside_iff.2 ?_
    omega
  · unfold twiceG at hx
    obtain ⟨y, hy, rfl⟩ := List.mem_map.1 hx
    rw [twice_len]
    refine twice_fit ?_
    rcases List.mem_append.1 hy with hy | hy
    · exact h3 y hy
    · rw [List.mem_singleton.1 hy, List.getD_eq_getElem?_getD, List.getElem?_eq_getElem hk]
      exact h3 _ (List.getElem_mem hk)
theorem twice_same {k : Nat} {H : List GN} {s : Nat} (h : checkG H (s : Int) = 0) {z : GN} (hk : H[k]? = some z) (hl : H.length ≤ 300) (hc : ¬ z.freeB = true) : sameGr H (s : Int) (twiceG k H) (s : Int) = true := by
  have hkn := (List.getElem?_eq_some_iff.1 hk).1
  obtain ⟨h1, h2, h3⟩ := checkG_ok.1 h
  have h4 := inside_iff.1 h2
  have at_ : ∀ a c, (a < H.length ∧ c = a) ∨ (a = k ∧ c = H.length) → ∃ x, H[a]? = some x ∧ (twiceG k H)[c]? = some (twiceN k H.length x) := fun a c hac => by
    rcases hac with ⟨ha, rfl⟩ | ⟨rfl, rfl⟩
    · exact ⟨_, List.getElem?_eq_getElem ha, twice_get (List.getElem?_eq_getElem ha)⟩
    · exact ⟨z, hk, twice_last hk⟩
  have closed : ∀ x, (toG H)[k]? = some x → x.free → False := fun x hx hf => by
    rw [toG_in hk] at hx
    cases hx
    refine hc ?_
    unfold GN.freeB
    rcases hf with h | h
    · simp [show z.k = 1 from h]
    · simp [show z.op = true from h]
  refine sameGr_iff.2 ⟨h, twice_check h hkn hl, fun a c => (a < H.length ∧ c = a) ∨ (a = k ∧ c = H.length), .inl ⟨by simp; omega, rfl⟩, ⟨?_, ?_, ?_, ?_⟩⟩
  · intro a c hac
    obtain ⟨x, hx, hy⟩ := at_ a c hac
    exact ⟨_, _, toG_in hx, toG_in hy, ⟨rfl, rfl, rfl, rfl⟩, by simp [toN, twiceN, fst_len]⟩
  · intro a c x y hac hx hy i p q hp hq
    obtain ⟨x', hx', hy'⟩ := at_ a c hac
    rw [toG_in hx'] at hx
    rw [toG_in hy'] at hy
    cases hx; cases hy
    have hp' : (x'.args.map Int.toNat)[i]? = some p := hp
    have hq' : ((fstI k H.length x'.args).map Int.toNat)[i]? = some q := hq
    rw [List.getElem?_map, Option.map_eq_some_iff] at hp' hq'
    obtain ⟨c1, hc1, rfl⟩ := hp'
    obtain ⟨d1, hd1, rfl⟩ := hq'
    obtain ⟨c2, hc2, hcd⟩ := fst_get hd1
    rw [hc1] at hc2
    cases hc2
    have := fit_args (h3 _ (List.mem_of_getElem? hx')) c1 (List.mem_of_getElem? hc1)
    rcases hcd with rfl | ⟨rfl, rfl⟩
    · exact .inl ⟨by omega, rfl⟩
    · exact .inr ⟨by simp, by simp⟩
  · intro a c c' x h1 h2 hx hf
    rcases h1 with ⟨_, rfl⟩ | ⟨rfl, rfl⟩
    · rcases h2 with ⟨_, rfl⟩ | ⟨rfl, rfl⟩
      · rfl
      · exact (closed x hx hf).elim
    · exact (closed x hx hf).elim
  · intro a a' c x h1 h2 hx hf
    rcases h1 with ⟨ha, rfl⟩ | ⟨rfl, rfl⟩
    · rcases h2 with ⟨_, rfl⟩ | ⟨rfl, e⟩
      · rfl
      · omega
    · exact (closed x hx hf).elim
end Go.Proofs.YtelmigkbofnicaaDoor
