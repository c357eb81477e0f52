/-! The nodes that are reached, in order: a list of what is still to be looked at. -/
namespace Gu

/-- What is put on the list for a node: where it leads, the last one first, what was met left out. -/
def fresh (order : List Nat) (l : List Nat) : List Nat := l.reverse.filter fun a => !order.contains a
/-- The nodes that are reached, of so many rounds at most. -/
def runR (args : Nat → List Nat) : Nat → List Nat → List Nat → List Nat
  | 0, order, _ => order
  | k + 1, order, todo =>
    match todo.getLast? with
    | none => order
    | some n => if order.contains n then runR args k order todo.dropLast else runR args k (order ++ [n]) (todo.dropLast ++ fresh (order ++ [n]) (args n))

/-- What is known on the way. -/
structure Way (args : Nat → List Nat) (N r : Nat) (order todo : List Nat) : Prop where
  nd : order.Nodup
  lt : ∀ x, x ∈ order ∨ x ∈ todo → x < N
  root : r ∈ order ∨ r ∈ todo
  kids : ∀ a ∈ order, ∀ c ∈ args a, c ∈ order ∨ c ∈ todo
  head : order = [] ∧ todo = [r] ∨ order.head? = some r
theorem way_start {args : Nat → List Nat} {N r : Nat} (hr : r < N) : Way args N r [] [r] :=
  ⟨List.nodup_nil, fun x hx => by rcases hx with h | h; cases h; rw [List.mem_singleton.1 h]; exact hr, .inr (by simp), fun _ h => (by cases h), .inl ⟨rfl, rfl⟩⟩
theorem mem_fresh {order l : List Nat} {a : Nat} : a ∈ fresh order l ↔ a ∈ l ∧ a ∉ order := by
  unfold fresh
  rw [List.mem_filter]
  simp
theorem Way.skip {args : Nat → List Nat} {N r n : Nat} {order todo : List Nat} (h : Way args N r order (todo ++ [n])) (hn : n ∈ order) : Way args N r order todo := by
  have key : ∀ x, x ∈ order ∨ x ∈ todo ++ [n] → x ∈ order ∨ x ∈ todo := fun x hx => by
    rcases hx with hx | hx
    · exact .inl hx
    · rcases List.mem_append.1 hx with hx | hx
      · exact .inr hx
      · rw [List.mem_singleton.1 hx]; exact .inl hn
  refine ⟨h.nd, fun x hx => h.lt x (hx.imp id fun a => List.mem_append.2 (.inl a)), key _ h.root, fun a ha c hc => key _ (h.kids a ha c hc), ?_⟩
  rcases h.head with ⟨h1, _⟩ | h1
  · rw [h1] at hn; cases hn
  · exact .inr h1
theorem Way.step {args : Nat → List Nat} {N r n : Nat} {order todo : List Nat} (h : Way args N r order (todo ++ [n])) (hn : n ∉ order) (ha : ∀ c ∈ args n, c < N) : Way args N r (order ++ [n]) (todo ++ fresh (order ++ [n]) (args n)) := by
  have key : ∀ x, x ∈ order ∨ x ∈ todo ++ [n] → x ∈ order ++ [n] ∨ x ∈ todo ++ fresh (order ++ [n]) (args n) := fun x hx => by
    rcases hx with hx | hx
    · exact .inl (List.mem_append.2 (.inl hx))
    · rcases List.mem_append.1 hx with hx | hx
      · exact .inr (List.mem_append.2 (.inl hx))
      · exact .inl (List.mem_append.2 (.inr hx))
  refine ⟨?_, fun x hx => ?_, key _ h.root, fun a ha' c hc => ?_, ?_⟩
  · rw [List.nodup_append]
    refine ⟨h.nd, by simp, fun a ha b hb => ?_⟩
    rw [List.mem_singleton.1 hb]
    intro e; rw [e] at ha; exact hn ha
  · rcases hx with hx | hx
    · rcases List.mem_append.1 hx with hx | hx
      · exact h.lt x (.inl hx)
      · exact h.lt x (.inr (List.mem_append.2 (.inr hx)))
    · rcases List.mem_append.1 hx with hx | hx
      · exact h.lt x (.inr (List.mem_append.2 (.inl hx)))
      · exact ha x (mem_fresh.1 hx).1
  · rcases List.mem_append.1 ha' with ha' | ha'
    · exact key _ (h.kids a ha' c hc)
    · rw [List.mem_singleton.1 ha'] at hc
      by_cases e : c ∈ order ++ [n]
      · exact .inl e
      · exact .inr (List.mem_append.2 (.inr (mem_fresh.2 ⟨hc, e⟩)))
  · refine .inr ?_
    rcases h.head with ⟨h1, h2⟩ | h1
    · subst h1
      have e : todo = [] ∧ n = r := by
        cases todo with
        | nil => simpa using h2
        | cons a t => simp at h2
      rw [e.2]; rfl
    · cases order with
      | nil => cases h1
      | cons a t => simpa using h1
/-- At the end: the root, and whatever a node leads to that is there. -/
theorem Way.done {args : Nat → List Nat} {N r : Nat} {order : List Nat} (h : Way args N r order []) : order.Nodup ∧ (∀ x ∈ order, x < N) ∧ order.head? = some r ∧ ∀ a ∈ order, ∀ c ∈ args a, c ∈ order := by
  refine ⟨h.nd, fun x hx => h.lt x (.inl hx), ?_, fun a ha c hc => (h.kids a ha c hc).elim id fun h => (by cases h)⟩
  rcases h.head with ⟨_, h2⟩ | h2
  · cases h2
  · exact h2
/-- How much there is still to be done. -/
def left (N K : Nat) (order todo : List Nat) : Nat := (N - order.length) * (K + 1) + todo.length
theorem nodup_le {l : List Nat} {N : Nat} (h : l.Nodup) (hl : ∀ x ∈ l, x < N) : l.length ≤ N := by
  have : ∀ (N : Nat) (l : List Nat), l.Nodup → (∀ x ∈ l, x < N) → l.length ≤ N := by
    intro N
    induction N with
    | zero =>
      intro l _ hl
      cases l with
      | nil => simp
      | cons a t => exact absurd (hl a List.mem_cons_self) (Nat.not_lt_zero _)
    | succ N ih =>
      intro l hd hl
      have h1 := ih (l.filter fun x => x ≠ N) (hd.filter _) (fun x hx => by
        have := List.mem_filter.1 hx
        have h2 := hl x this.1
        have h3 : x ≠ N := by simpa using this.2
        omega)
      have h2 : l.length ≤ (l.filter fun x => x ≠ N).length + 1 := by
        clear ih hl h1
        induction l with
        | nil => simp
        | cons a t ih =>
          have hd' := List.nodup_cons.1 hd
          by_cases e : a = N
          · subst e
            have h2 : t.filter (fun x => decide (x ≠ a)) = t := List.filter_eq_self.2 fun x hx => by
              have : x ≠ a := fun h => hd'.1 (h ▸ hx)
              simpa using this
            rw [List.filter_cons, if_neg (by simp), h2]; simp
          · have := ih hd'.2
            rw [List.filter_cons, if_pos (by simpa using e)]
            simp only [List.length_cons]; omega
      omega
  exact this N l h hl
theorem fresh_len (order l : List Nat) : (fresh order l).length ≤ l.length := by
  unfold fresh
  have := List.length_filter_le (fun a => !order.contains a) l.reverse
  simpa using this
theorem left_skip {N K n : Nat} {order todo : List Nat} : left N K order todo < left N K order (todo ++ [n]) := by unfold left; simp
theorem left_step {args : Nat → List Nat} {N r n K : Nat} {order todo : List Nat} (h : Way args N r order (todo ++ [n])) (hn : n ∉ order) (hK : (args n).length ≤ K) : left N K (order ++ [n]) (todo ++ fresh (order ++ [n]) (args n)) < left N K order (todo ++ [n]) := by
  have h1 : (order ++ [n]).length ≤ N := nodup_le (by
    rw [List.nodup_append]
    refine ⟨h.nd, by simp, fun a ha b hb => ?_⟩
    rw [List.mem_singleton.1 hb]
    intro e; rw [e] at ha; exact hn ha) (fun x hx => by
      rcases List.mem_append.1 hx with hx | hx
      · exact h.lt x (.inl hx)
      · exact h.lt x (.inr (List.mem_append.2 (.inr hx))))
  have h2 := fresh_len (order ++ [n]) (args n)
  unfold left
  simp only [List.length_append, List.length_singleton] at h1 ⊢
  obtain ⟨d, hd⟩ : ∃ d, N = order.length + 1 + d := ⟨N - (order.length + 1), by omega⟩
  rw [hd, show order.length + 1 + d - (order.length + 1) = d by omega, show order.length + 1 + d - order.length = d + 1 by omega, Nat.add_mul]
  omega
end Gu
