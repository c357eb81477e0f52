/-! What is marked: some nodes, and what follows from them; a list of what is still to be looked at. -/
namespace Gu

/-- What some lead to. -/
inductive Rch (nx : Nat → List Nat) (from_ : List Nat) : Nat → Prop
  | start {a : Nat} (h : a ∈ from_) : Rch nx from_ a
  | next {i j : Nat} (h : Rch nx from_ i) (hj : j ∈ nx i) : Rch nx from_ j
theorem Rch.lt {nx : Nat → List Nat} {from_ : List Nat} {n : Nat} (hf : ∀ a ∈ from_, a < n) (hn : ∀ i, i < n → ∀ j ∈ nx i, j < n) {i : Nat} (h : Rch nx from_ i) : i < n := by
  induction h with
  | start h => exact hf _ h
  | next _ hj ih => exact hn _ ih _ hj
theorem Rch.mono {nx : Nat → List Nat} {f g : List Nat} (hf : ∀ a ∈ f, Rch nx g a) {i : Nat} (h : Rch nx f i) : Rch nx g i := by
  induction h with
  | start h => exact hf _ h
  | next _ hj ih => exact ih.next hj

def setT (seen : Nat → Bool) (q : Nat) : Nat → Bool := fun i => if i = q then true else seen i
/-- What is known on the way. -/
structure Mk (nx : Nat → List Nat) (n : Nat) (from_ : List Nat) (seen : Nat → Bool) (todo : List Nat) : Prop where
  sound : ∀ i, seen i = true → Rch nx from_ i
  todo_ : ∀ i ∈ todo, Rch nx from_ i
  start : ∀ a ∈ from_, seen a = true ∨ a ∈ todo
  kids : ∀ i, seen i = true → ∀ j ∈ nx i, seen j = true ∨ j ∈ todo
theorem mk_start {nx : Nat → List Nat} {n : Nat} {from_ : List Nat} : Mk nx n from_ (fun _ => false) from_ :=
  ⟨fun _ h => (by cases h), fun _ h => .start h, fun _ h => .inr h, fun _ h => (by cases h)⟩
theorem Mk.skip {nx : Nat → List Nat} {n : Nat} {from_ : List Nat} {seen : Nat → Bool} {t : List Nat} {q : Nat} (h : Mk nx n from_ seen (t ++ [q])) (hq : seen q = true) : Mk nx n from_ seen t := by
  have key : ∀ a, seen a = true ∨ a ∈ t ++ [q] → seen a = true ∨ a ∈ t := fun a ha => by
    rcases ha with ha | ha
    · exact .inl ha
    · rcases List.mem_append.1 ha with ha | ha
      · exact .inr ha
      · rw [List.mem_singleton.1 ha]; exact .inl hq
  exact ⟨h.sound, fun i hi => h.todo_ i (List.mem_append.2 (.inl hi)), fun a ha => key a (h.start a ha), fun i hi j hj => key j (h.kids i hi j hj)⟩
theorem Mk.step {nx : Nat → List Nat} {n : Nat} {from_ : List Nat} {seen : Nat → Bool} {t : List Nat} {q : Nat} (h : Mk nx n from_ seen (t ++ [q])) : Mk nx n from_ (setT seen q) (t ++ nx q) := by
  have hq : Rch nx from_ q := h.todo_ q (by simp)
  have key : ∀ a, seen a = true ∨ a ∈ t ++ [q] → setT seen q a = true ∨ a ∈ t ++ nx q := fun a ha => by
    unfold setT
    by_cases e : a = q
    · rw [if_pos e]; exact .inl rfl
    · rw [if_neg e]
      rcases ha with ha | ha
      · exact .inl ha
      · rcases List.mem_append.1 ha with ha | ha
        · exact .inr (List.mem_append.2 (.inl ha))
        · exact absurd (List.mem_singleton.1 ha) e
  refine ⟨fun i hi => ?_, fun i hi => ?_, fun a ha => key a (h.start a ha), fun i hi j hj => ?_⟩
  · unfold setT at hi
    by_cases e : i = q
    · rw [e]; exact hq
    · rw [if_neg e] at hi; exact h.sound i hi
  · rcases List.mem_append.1 hi with hi | hi
    · exact h.todo_ i (List.mem_append.2 (.inl hi))
    · exact hq.next hi
  · by_cases e : i = q
    · subst e; exact .inr (List.mem_append.2 (.inr hj))
    · unfold setT at hi; rw [if_neg e] at hi; exact key j (h.kids i hi j hj)
theorem Mk.done {nx : Nat → List Nat} {n : Nat} {from_ : List Nat} {seen : Nat → Bool} (h : Mk nx n from_ seen []) (i : Nat) : seen i = true ↔ Rch nx from_ i := by
  refine ⟨h.sound i, fun hr => ?_⟩
  induction hr with
  | start ha => exact (h.start _ ha).elim id fun h => (by cases h)
  | next _ hj ih => exact (h.kids _ ih _ hj).elim id fun h => (by cases h)

/-- How much may still be put on the list. -/
def cost (nx : Nat → List Nat) (seen : Nat → Bool) : Nat → Nat
  | 0 => 0
  | k + 1 => cost nx seen k + if seen k then 0 else (nx k).length
theorem cost_other {nx : Nat → List Nat} {seen : Nat → Bool} {q : Nat} : ∀ k, k ≤ q → cost nx (setT seen q) k = cost nx seen k
  | 0, _ => rfl
  | k + 1, h => by
    rw [cost, cost, cost_other k (by omega)]
    unfold setT
    rw [if_neg (show ¬ k = q by omega)]
theorem cost_step {nx : Nat → List Nat} {seen : Nat → Bool} {q : Nat} (hq : seen q = false) : ∀ k, q < k → cost nx (setT seen q) k + (nx q).length = cost nx seen k
  | 0, h => by omega
  | k + 1, h => by
    rw [cost, cost]
    by_cases e : k = q
    · subst e
      rw [cost_other k (Nat.le_refl _), hq]
      have : setT seen k k = true := by unfold setT; rw [if_pos rfl]
      rw [this]
      simp
    · have := cost_step (nx := nx) hq k (by omega)
      have e2 : setT seen q k = seen k := by unfold setT; rw [if_neg e]
      rw [e2]
      omega
theorem cost_le {nx : Nat → List Nat} {seen : Nat → Bool} {K : Nat} : ∀ n, (∀ i, i < n → (nx i).length ≤ K) → cost nx seen n ≤ n * K
  | 0, _ => by simp [cost]
  | n + 1, h => by
    have h1 := cost_le (seen := seen) n fun i hi => h i (by omega)
    have h2 := h n (by omega)
    rw [cost, Nat.succ_mul]
    split <;> omega
end Gu
