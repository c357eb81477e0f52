/- A walk that calls itself reaches what the walk over a list reaches. -/
import Derived.Test.YtelmigkbofnicaaDoorRd
namespace Gu

/-- A walk over a list of what is still to be looked at, the last one first. -/
inductive Walk (args : Nat → List Nat) : List Nat → List Nat → List Nat → Prop
  | done {order : List Nat} : Walk args order [] order
  | skip {order todo res : List Nat} {n : Nat} (h : n ∈ order) (g : Walk args order todo res) : Walk args order (todo ++ [n]) res
  | step {order todo res : List Nat} {n : Nat} (h : n ∉ order) (g : Walk args (order ++ [n]) (todo ++ (args n).reverse) res) : Walk args order (todo ++ [n]) res
theorem Walk.det {args : Nat → List Nat} {order todo r1 : List Nat} (h : Walk args order todo r1) : ∀ {r2}, Walk args order todo r2 → r1 = r2 := by
  induction h with
  | done =>
    intro r2 h2
    generalize ht : ([] : List Nat) = t at h2
    cases h2 with
    | done => rfl
    | skip _ _ => simp at ht
    | step _ _ => simp at ht
  | @skip order todo res n h g ih =>
    intro r2 h2
    generalize ht : todo ++ [n] = t at h2
    cases h2 with
    | done => simp at ht
    | skip h' g' =>
      obtain ⟨rfl, e⟩ := List.append_inj' ht rfl
      exact ih g'
    | step h' g' =>
      obtain ⟨rfl, e⟩ := List.append_inj' ht rfl
      cases e
      exact absurd h h'
  | @step order todo res n h g ih =>
    intro r2 h2
    generalize ht : todo ++ [n] = t at h2
    cases h2 with
    | done => simp at ht
    | skip h' g' =>
      obtain ⟨rfl, e⟩ := List.append_inj' ht rfl
      cases e
      exact absurd h' h
    | step h' g' =>
      obtain ⟨rfl, e⟩ := List.append_inj' ht rfl
      cases e
      exact ih g'
/-- A list with some that were met among it. -/
inductive Among (order : List Nat) : List Nat → List Nat → Prop
  | nil : Among order [] []
  | keep {l m : List Nat} (n : Nat) (h : Among order l m) : Among order (l ++ [n]) (m ++ [n])
  | more {l m : List Nat} {n : Nat} (hn : n ∈ order) (h : Among order l m) : Among order l (m ++ [n])
theorem Among.refl (order : List Nat) : ∀ k (l : List Nat), l.length = k → Among order l l
  | 0, l, h => by rw [List.eq_nil_of_length_eq_zero h]; exact .nil
  | k + 1, l, h => by
    rcases List.eq_nil_or_concat l with rfl | ⟨t, n, rfl⟩
    · exact .nil
    · rw [List.concat_eq_append] at h ⊢
      exact .keep n (Among.refl order k t (by simpa using h))
theorem Among.grow {order o2 l m : List Nat} (h : Among order l m) (ho : ∀ x ∈ order, x ∈ o2) : Among o2 l m := by
  induction h with
  | nil => exact .nil
  | keep n _ ih => exact .keep n ih
  | more hn _ ih => exact .more (ho _ hn) ih
theorem Among.append {order l m p q : List Nat} (h : Among order l m) (g : Among order p q) : Among order (l ++ p) (m ++ q) := by
  induction g with
  | nil => simpa using h
  | keep n _ ih => rw [← List.append_assoc, ← List.append_assoc]; exact .keep n ih
  | more hn _ ih => rw [← List.append_assoc]; exact .more hn ih
theorem Among.fresh (order : List Nat) : ∀ l : List Nat, Among order (fresh order l) l.reverse
  | [] => .nil
  | a :: l => by
    have ih := Among.fresh order l
    unfold Gu.fresh at ih ⊢
    rw [List.reverse_cons, List.filter_append]
    by_cases h : a ∈ order
    · rw [show List.filter (fun a => !order.contains a) [a] = [] by simp [h], List.append_nil]
      exact .more h ih
    · rw [show List.filter (fun a => !order.contains a) [a] = [a] by simp [h]]
      exact .keep a ih
theorem Among.walk {args : Nat → List Nat} {order l res : List Nat} (h : Walk args order l res) : ∀ {m}, Among order l m → Walk args order m res := by
  induction h with
  | @done order =>
    intro m hm
    generalize hl : ([] : List Nat) = l at hm
    induction hm with
    | nil => exact .done
    | keep n _ _ => simp at hl
    | more hn _ ih => exact .skip hn (ih hl)
  | @skip order todo res n h g ih =>
    intro m hm
    generalize hl : todo ++ [n] = l at hm
    induction hm with
    | nil => simp at hl
    | keep n' hm' _ =>
      obtain ⟨rfl, e⟩ := List.append_inj' hl rfl
      cases e
      exact .skip h (ih hm')
    | more hn _ ih2 => exact .skip hn (ih2 hl)
  | @step order todo res n h g ih =>
    intro m hm
    generalize hl : todo ++ [n] = l at hm
    induction hm with
    | nil => simp at hl
    | keep n' hm' _ =>
      obtain ⟨rfl, e⟩ := List.append_inj' hl rfl
      cases e
      exact .step h (ih ((hm'.grow fun x hx => List.mem_append.2 (.inl hx)).append (Among.refl _ _ _ rfl)))
    | more hn _ ih2 => exact .skip hn (ih2 hl)
theorem run_walk {args : Nat → List Nat} {N r K : Nat} (hK : ∀ n, n < N → (args n).length ≤ K) (hlt : ∀ n, n < N → ∀ c ∈ args n, c < N) : ∀ (k : Nat) (order todo : List Nat), Way args N r order todo → left N K order todo ≤ k → Walk args order todo (runR args k order todo)
  | 0, order, todo, h, hk => by
    have : todo = [] := List.eq_nil_of_length_eq_zero (by unfold left at hk; omega)
    subst this
    exact .done
  | k + 1, order, todo, h, hk => by
    rcases List.eq_nil_or_concat todo with rfl | ⟨t, n, rfl⟩
    · exact .done
    · rw [List.concat_eq_append] at h hk ⊢
      have hn : n < N := h.lt n (.inr (by simp))
      unfold runR
      rw [List.getLast?_concat, List.dropLast_concat]
      simp only
      by_cases hc : n ∈ order
      · rw [if_pos (by simpa using hc)]
        have := left_skip (N := N) (K := K) (n := n) (order := order) (todo := t)
        exact .skip hc (run_walk hK hlt k order t (h.skip hc) (by omega))
      · rw [if_neg (by simpa using hc)]
        have := left_step h hc (hK n hn)
        have hw := run_walk hK hlt k _ _ (h.step hc (hlt n hn)) (by omega)
        exact .step hc (Among.walk hw ((Among.refl _ _ t rfl).append (Among.fresh _ _)))
/-- The walk that calls itself. -/
def visitL (args : Nat → List Nat) : Nat → Nat → List Nat → List Nat
  | 0, _, order => order
  | k + 1, a, order => if order.contains a then order else (args a).foldl (fun o c => visitL args k c o) (order ++ [a])
/-- What an order has. -/
structure Some (N : Nat) (order : List Nat) : Prop where
  nd : order.Nodup
  lt : ∀ x ∈ order, x < N
theorem Some.add {N a : Nat} {order : List Nat} (h : Some N order) (ha : a < N) (hn : a ∉ order) : Some N (order ++ [a]) := by
  refine ⟨?_, fun x hx => ?_⟩
  · rw [List.nodup_append]
    refine ⟨h.nd, by simp, fun x hx y hy => ?_⟩
    rw [List.mem_singleton.1 hy]
    intro e; rw [e] at hx; exact hn hx
  · rcases List.mem_append.1 hx with hx | hx
    · exact h.lt x hx
    · rw [List.mem_singleton.1 hx]; exact ha
theorem Some.len {N : Nat} {order : List Nat} (h : Some N order) : order.length ≤ N := nodup_le h.nd h.lt
theorem visit_keeps {args : Nat → List Nat} {N : Nat} (hlt : ∀ n, n < N → ∀ c ∈ args n, c < N) : ∀ (k a : Nat) (order : List Nat), Some N order → a < N → Some N (visitL args k a order) ∧ order.length ≤ (visitL args k a order).length
  | 0, a, order, h, _ => ⟨h, Nat.le_refl _⟩
  | k + 1, a, order, h, ha => by
    unfold visitL
    by_cases hc : a ∈ order
    · rw [if_pos (by simpa using hc)]; exact ⟨h, Nat.le_refl _⟩
    · rw [if_neg (by simpa using hc)]
      have key : ∀ (l : List Nat) (o : List Nat), (∀ c ∈ l, c < N) → Some N o → Some N (l.foldl (fun o c => visitL args k c o) o) ∧ o.length ≤ (l.foldl (fun o c => visitL args k c o) o).length := by
        intro l
        induction l with
        | nil => exact fun o _ ho => ⟨ho, Nat.le_refl _⟩
        | cons c l ih =>
          intro o hl ho
          have h1 := visit_keeps hlt k c o ho (hl c List.mem_cons_self)
          have h2 := ih _ (fun c hc => hl c (List.mem_cons_of_mem _ hc)) h1.1
          exact ⟨h2.1, Nat.le_trans h1.2 h2.2⟩
      have := key (args a) _ (hlt a ha) (h.add ha hc)
      exact ⟨this.1, Nat.le_trans (by simp) this.2⟩
theorem visit_walk {args : Nat → List Nat} {N : Nat} (hlt : ∀ n, n < N → ∀ c ∈ args n, c < N) : ∀ (k a : Nat) (order todo res : List Nat), Some N order → a < N → N - order.length ≤ k → Walk args (visitL args k a order) todo res → Walk args order (todo ++ [a]) res
  | 0, a, order, todo, res, h, ha, hk, hw => by
    by_cases hc : a ∈ order
    · exact .skip hc hw
    · have := (h.add ha hc).len
      simp at this
      omega
  | k + 1, a, order, todo, res, h, ha, hk, hw => by
    unfold visitL at hw
    by_cases hc : a ∈ order
    · rw [if_pos (by simpa using hc)] at hw
      exact .skip hc hw
    · rw [if_neg (by simpa using hc)] at hw
      have key : ∀ (l : List Nat) (o : List Nat), (∀ c ∈ l, c < N) → Some N o → N - o.length ≤ k → Walk args (l.foldl (fun o c => visitL args k c o) o) todo res → Walk args o (todo ++ l.reverse) res := by
        intro l
        induction l with
        | nil => intro o _ _ _ hw; simpa using hw
        | cons c l ih =>
          intro o hl ho hko hw
          have hcN := hl c List.mem_cons_self
          have h1 := visit_keeps hlt k c o ho hcN
          have h2 := ih _ (fun c hc => hl c (List.mem_cons_of_mem _ hc)) h1.1 (by omega) hw
          rw [List.reverse_cons, ← List.append_assoc]
          exact visit_walk hlt k c o _ res ho hcN hko h2
      exact .step hc (key (args a) _ (hlt a ha) (h.add ha hc) (by simp; omega) hw)
end Gu
namespace Go.Proofs.YtelmigkbofnicaaDoor
open Go.ChangeShapes Go.WideShapes Go.ChangeAt Go.RowKit
/-- Both walks reach the same. -/
theorem visit_reach {G : List GN} {r : Nat} (hok : checkG G (r : Int) = 0) (aG : ∀ x ∈ G, x.args.length ≤ 2000) {k : Nat} (hk : G.length ≤ k) : Gu.visitL (argsOf G) k r [] = reachL G r := by
  have hin := inside_iff.1 (checkG_ok.1 hok).2.1
  have h1 : Gu.Walk (argsOf G) [] [r] (reachL G r) := Gu.run_walk (K := 2000) (fun n hn => by
    rw [argsOf_eq hn, List.length_map]
    exact aG _ (List.getElem_mem hn)) (fun n hn => args_lt hok hn) _ _ _ (Gu.way_start (by omega)) (Nat.le_refl _)
  have h2 : Gu.Walk (argsOf G) [] ([] ++ [r]) (Gu.visitL (argsOf G) k r []) := Gu.visit_walk (N := G.length) (fun n hn => args_lt hok hn) k r [] [] _ ⟨List.nodup_nil, fun x hx => by cases hx⟩ (by omega) (by simpa using hk) .done
  exact h2.det h1
end Go.Proofs.YtelmigkbofnicaaDoor
