/- tree.Check and tree.Deep at an expression as a value; what is said of a tree's children. -/
import Derived.Test.YtoopndgdaiblpaaDoorCk
import Derived.Test.YtoopndgdaiblpaaDoorDeep
import Derived.Test.YtoopndgdaiblpaaDoorEqM
namespace Go.Proofs.YtoopndgdaiblpaaDoor
open Go.ChangeShapes Go.WideShapes Go.ChangeAt Go.RowKit

theorem check_v (S : Nat → Prop) (k : Int) (s : ByteArray) (n : Int) (va vn vt vm : Value) (w : World) (t : Nd) (T : TypeId) (v : Value) (hg : w.cell? ⟨0, 0, none⟩ = some (.iface T v)) (hgl : 0 < w.heap.size) (hsz : ndSize t ≤ 900000) (hok : Fair t) (hS : ∀ b, S b → b < w.heap.size) (ht : ExV w S [.int .i64 k, .string s, .int .i64 n, va, vn, vt, vm] t) :
    Calls Tryd.prog 18 #[.agg #[.int .i64 k, .string s, .int .i64 n, va, vn, vt, vm]] w fun e w' => e = .returned (.int .i64 (errE t)) ∧ Below w.heap.size w w' := by
  have xt : isEx t = true := by obtain ⟨_, _, _, _, _, _, _, _, _, _, _, _, _, _, _, _, _, _, _, _, rfl, _⟩ := ht; rfl
  refine check_any k s n va vn vt vm w t T v hg hgl hsz ((ht.carry (fun b hb => heap_old (hS b hb)) fun b hb => ?_).at_ ?_ fun j x hj => ?_) xt hok
  · have := hS b hb; omega
  · omega
  · rw [Nat.zero_add]
    refine cell_block (cs := #[.int .i64 k, .string s, .int .i64 n, va, vn, vt, vm]) (T := 33) (heap_last rfl) ?_
    simpa using hj

/-- Parts stand deeper just by where the tree's head stands. -/
theorem trav_up {t : Nd} (h : Fair t) : ∀ (c d : Nat), ∀ x ∈ trav d t, (x.1, x.2 + c) ∈ trav (d + c) t := by
  induction h with
  | ex hk hs hn ht hl ha hm iha ihm =>
    intro c d x hx
    rw [trav] at hx ⊢
    rcases List.mem_cons.1 hx with rfl | hx
    · exact List.mem_cons_self
    · refine List.mem_cons_of_mem _ (List.mem_append.2 ?_)
      rcases List.mem_append.1 hx with hx | hx
      · obtain ⟨t, ht', hx⟩ := flat_mem hx
        refine .inl (List.mem_flatten.2 ⟨_, List.mem_reverse.2 (List.mem_map.2 ⟨t, ht', rfl⟩), ?_⟩)
        have := iha t ht' c _ x hx
        rwa [Nat.add_right_comm] at this
      · obtain ⟨t, ht', hx⟩ := flat_mem hx
        refine .inr (List.mem_flatten.2 ⟨_, List.mem_reverse.2 (List.mem_map.2 ⟨t, ht', rfl⟩), ?_⟩)
        have := ihm t ht' c _ x hx
        rwa [Nat.add_right_comm] at this
  | me hk hs hn ht hl ha iha =>
    intro c d x hx
    rw [trav] at hx ⊢
    rcases List.mem_cons.1 hx with rfl | hx
    · exact List.mem_cons_self
    · refine List.mem_cons_of_mem _ ?_
      obtain ⟨t, ht', hx⟩ := flat_mem hx
      refine List.mem_flatten.2 ⟨_, List.mem_reverse.2 (List.mem_map.2 ⟨t, ht', rfl⟩), ?_⟩
      have := iha t ht' c _ x hx
      rwa [Nat.add_right_comm] at this

theorem errE_zero {t : Nd} : errE t = 0 ↔ ∀ p ∈ trav 1 t, ¬ partBad p.1 ∧ ¬ partLate p := by
  unfold errE
  constructor
  · intro h p hp
    split at h
    · exact absurd h (by decide)
    · rename_i h1
      split at h
      · exact absurd h (by decide)
      · rename_i h2
        exact ⟨fun a => h1 ⟨p, hp, a⟩, fun a => h2 ⟨p, hp, a⟩⟩
  · intro h
    rw [if_neg (fun ⟨p, hp, a⟩ => (h p hp).1 a), if_neg (fun ⟨p, hp, a⟩ => (h p hp).2 a)]
theorem late_less {p : Nd × Nat} (c : Nat) (h : partLate p) : partLate (p.1, p.2 + c) := by
  rcases h with h | h
  · exact .inl (show 200 < p.2 + c by omega)
  · exact .inr h
/-- What stands below a tree without fault is without fault. -/
theorem errE_kid {t x : Nd} (c : Nat) (hx : Fair x) (h : errE t = 0) (hsub : ∀ p ∈ trav (1 + c) x, p ∈ trav 1 t) : errE x = 0 := by
  rw [errE_zero] at h ⊢
  intro p hp
  have hq := h _ (hsub _ (trav_up hx c 1 p hp))
  exact ⟨hq.1, fun a => hq.2 (late_less c a)⟩
theorem errE_arg {k : Int} {s : ByteArray} {n : Int} {names : List ByteArray} {types : List Ty} {args mems : List Nd} {x : Nd} (hx : Fair x) (h : errE (.ex k s n names types args mems) = 0) (hm : x ∈ args) : errE x = 0 := by
  refine errE_kid 1 hx h fun p hp => ?_
  rw [trav]
  exact List.mem_cons_of_mem _ (List.mem_append.2 (.inl (List.mem_flatten.2 ⟨_, List.mem_reverse.2 (List.mem_map.2 ⟨x, hm, rfl⟩), hp⟩)))
theorem errE_mem {k : Int} {s : ByteArray} {n : Int} {names : List ByteArray} {types : List Ty} {args mems : List Nd} {m x : Nd} (hx : Fair x) (h : errE (.ex k s n names types args mems) = 0) (hm : m ∈ mems) (ha : x ∈ meArgs m) (hme : isEx m = false) : errE x = 0 := by
  refine errE_kid 2 hx h fun p hp => ?_
  rw [trav]
  refine List.mem_cons_of_mem _ (List.mem_append.2 (.inr (List.mem_flatten.2 ⟨_, List.mem_reverse.2 (List.mem_map.2 ⟨m, hm, rfl⟩), ?_⟩)))
  cases m with
  | ex => cases hme
  | me k2 nm a ts ags =>
    rw [trav]
    exact List.mem_cons_of_mem _ (List.mem_flatten.2 ⟨_, List.mem_reverse.2 (List.mem_map.2 ⟨x, ha, rfl⟩), hp⟩)
theorem trav_dn {t : Nd} (h : Fair t) : ∀ (c d : Nat), ∀ x ∈ trav (d + c) t, ∃ y ∈ trav d t, x = (y.1, y.2 + c) := by
  induction h with
  | ex hk hs hn ht hl ha hm iha ihm =>
    intro c d x hx
    rw [trav] at hx
    rw [trav]
    rcases List.mem_cons.1 hx with rfl | hx
    · exact ⟨_, List.mem_cons_self, rfl⟩
    · rcases List.mem_append.1 hx with hx | hx
      · obtain ⟨t, ht', hx⟩ := flat_mem hx
        rw [Nat.add_right_comm] at hx
        obtain ⟨y, hy, e⟩ := iha t ht' c _ x hx
        exact ⟨y, List.mem_cons_of_mem _ (List.mem_append.2 (.inl (List.mem_flatten.2 ⟨_, List.mem_reverse.2 (List.mem_map.2 ⟨t, ht', rfl⟩), hy⟩))), e⟩
      · obtain ⟨t, ht', hx⟩ := flat_mem hx
        rw [Nat.add_right_comm] at hx
        obtain ⟨y, hy, e⟩ := ihm t ht' c _ x hx
        exact ⟨y, List.mem_cons_of_mem _ (List.mem_append.2 (.inr (List.mem_flatten.2 ⟨_, List.mem_reverse.2 (List.mem_map.2 ⟨t, ht', rfl⟩), hy⟩))), e⟩
  | me hk hs hn ht hl ha iha =>
    intro c d x hx
    rw [trav] at hx
    rw [trav]
    rcases List.mem_cons.1 hx with rfl | hx
    · exact ⟨_, List.mem_cons_self, rfl⟩
    · obtain ⟨t, ht', hx⟩ := flat_mem hx
      rw [Nat.add_right_comm] at hx
      obtain ⟨y, hy, e⟩ := iha t ht' c _ x hx
      exact ⟨y, List.mem_cons_of_mem _ (List.mem_flatten.2 ⟨_, List.mem_reverse.2 (List.mem_map.2 ⟨t, ht', rfl⟩), hy⟩), e⟩
theorem ndDeep_le (t : Nd) (n : Nat) : ndDeep t ≤ n ↔ ∀ p ∈ trav 1 t, p.2 ≤ n := by
  have h : ∀ (l : List Nat) (a : Nat), l.foldl max a ≤ n ↔ a ≤ n ∧ ∀ x ∈ l, x ≤ n := by
    intro l
    induction l with
    | nil => intro a; simp
    | cons b r ih => intro a; rw [List.foldl_cons, ih]; simp only [List.mem_cons, forall_eq_or_imp, Nat.max_le, and_assoc]
  unfold ndDeep
  rw [h]
  exact ⟨fun a p hp => a.2 _ (List.mem_map.2 ⟨p, hp, rfl⟩), fun a => ⟨Nat.zero_le _, fun x hx => by obtain ⟨p, hp, rfl⟩ := List.mem_map.1 hx; exact a p hp⟩⟩
def pairN (e : Nd) : Nd := .ex 10 ⟨#[]⟩ 0 [] [] [e, e] []
theorem pair_part (e : Nd) : ¬ partBad (pairN e) := by
  rintro (h | ⟨y, h, _⟩)
  · revert h
    simp [pairN, partB, fitB, plainB, fitP, textB]
    first | rfl | decide | simp [emptyB]
  · cases h
theorem pair_trav (e : Nd) (d : Nat) (p : Nd × Nat) : p ∈ trav d (pairN e) ↔ p = (pairN e, d) ∨ p ∈ trav (d + 1) e := by
  unfold pairN
  rw [trav]
  simp
theorem pair_deep {e : Nd} (hf : Fair e) : ndDeep (pairN e) = ndDeep e + 1 := by
  have h1 : ndDeep (pairN e) ≤ ndDeep e + 1 := by
    rw [ndDeep_le]
    intro p hp
    rcases (pair_trav e 1 p).1 hp with rfl | hp
    · exact Nat.le_add_left _ _
    · obtain ⟨y, hy, rfl⟩ := trav_dn hf 1 1 p hp
      exact Nat.succ_le_succ ((ndDeep_le e _).1 (Nat.le_refl _) y hy)
  have h2 : 1 ≤ ndDeep (pairN e) := (ndDeep_le _ _).1 (Nat.le_refl _) (pairN e, 1) ((pair_trav e 1 _).2 (.inl rfl))
  have h3 : ndDeep e ≤ ndDeep (pairN e) - 1 := by
    rw [ndDeep_le]
    intro p hp
    have := (ndDeep_le (pairN e) _).1 (Nat.le_refl _) _ ((pair_trav e 1 _).2 (.inr (trav_up hf 1 1 p hp)))
    simp only at this
    omega
  omega
theorem pair_err {e : Nd} (hf : Fair e) (h : errE e = 0) : errE (pairN e) = 0 ∨ errE (pairN e) = 4 ∧ 200 < ndDeep (pairN e) := by
  by_cases hd : 200 < ndDeep (pairN e)
  · refine (show errE (pairN e) = 0 ∨ errE (pairN e) = 4 from ?_).imp id fun a => ⟨a, hd⟩
    unfold errE
    rw [if_neg]
    · split
      · exact .inr rfl
      · exact .inl rfl
    · rintro ⟨p, hp, hb⟩
      rcases (pair_trav e 1 p).1 hp with rfl | hp
      · exact pair_part e hb
      · obtain ⟨y, hy, rfl⟩ := trav_dn hf 1 1 p hp
        exact (errE_zero.1 h y hy).1 hb
  · refine .inl (errE_zero.2 fun p hp => ?_)
    have hle := (ndDeep_le (pairN e) 200).1 (by omega) p hp
    rcases (pair_trav e 1 p).1 hp with rfl | hp
    · refine ⟨pair_part e, ?_⟩
      rintro (a | ⟨y, a, _⟩)
      · exact absurd (show 200 < 1 from a) (by decide)
      · cases a
    · obtain ⟨y, hy, rfl⟩ := trav_dn hf 1 1 p hp
      refine ⟨(errE_zero.1 h y hy).1, ?_⟩
      rintro (a | a)
      · simp only at a hle; omega
      · exact (errE_zero.1 h y hy).2 (.inr a)
theorem deep_v (S : Nat → Prop) (k : Int) (s : ByteArray) (n : Int) (va vn vt vm : Value) (w : World) (t : Nd) (hsz : ndSize t ≤ 900000) (hS : ∀ b, S b → b < w.heap.size) (ht : ExV w S [.int .i64 k, .string s, .int .i64 n, va, vn, vt, vm] t) :
    Calls Tryd.prog 19 #[.agg #[.int .i64 k, .string s, .int .i64 n, va, vn, vt, vm]] w fun e w' => e = .returned (.int .i64 (ndDeep t)) ∧ Below w.heap.size w w' := by
  have xt : isEx t = true := by obtain ⟨_, _, _, _, _, _, _, _, _, _, _, _, _, _, _, _, _, _, _, _, rfl, _⟩ := ht; rfl
  refine deep_any k s n va vn vt vm w t hsz ((ht.carry (fun b hb => heap_old (hS b hb)) fun b hb => ?_).at_ ?_ fun j x hj => ?_) xt
  · have := hS b hb; omega
  · omega
  · rw [Nat.zero_add]
    refine cell_block (cs := #[.int .i64 k, .string s, .int .i64 n, va, vn, vt, vm]) (T := 33) (heap_last rfl) ?_
    simpa using hj
theorem deep_arg {k : Int} {s : ByteArray} {n : Int} {names : List ByteArray} {types : List Ty} {args mems : List Nd} {x : Nd} (hx : Fair x) (hm : x ∈ args) : ndDeep x < ndDeep (.ex k s n names types args mems) := by
  obtain ⟨t, ht⟩ : ∃ t, Nd.ex k s n names types args mems = t := ⟨_, rfl⟩
  have h1 : 1 ≤ ndDeep t := (ndDeep_le _ _).1 (Nat.le_refl _) (t, 1) (by rw [← ht, trav]; exact List.mem_cons_self)
  have h2 : ndDeep x ≤ ndDeep t - 1 := by
    rw [ndDeep_le]
    intro p hp
    have h3 : (p.1, p.2 + 1) ∈ trav 1 t := by
      rw [← ht, trav]
      exact List.mem_cons_of_mem _ (List.mem_append.2 (.inl (List.mem_flatten.2 ⟨_, List.mem_reverse.2 (List.mem_map.2 ⟨x, hm, rfl⟩), trav_up hx 1 1 p hp⟩)))
    have := (ndDeep_le t _).1 (Nat.le_refl _) _ h3
    simp only at this
    omega
  rw [ht]
  omega
end Go.Proofs.YtoopndgdaiblpaaDoor
