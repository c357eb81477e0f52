/-! union-find as a plain structure -/
namespace Gu

/-- The parents `up` of N elements, the least step to their roots `rt`, and a height `d` that falls along them. -/
structure Uf (N : Nat) (up rt d : Nat → Nat) : Prop where
  lt : ∀ z, z < N → up z < N
  same : ∀ z, z < N → rt (up z) = rt z
  stop : ∀ z, z < N → up z = z → rt z = z
  less : ∀ z, z < N → up z ≠ z → d (up z) < d z

theorem Uf.rt_lt {N : Nat} {up rt d : Nat → Nat} (h : Uf N up rt d) : ∀ (k z : Nat), d z ≤ k → z < N → rt z < N ∧ up (rt z) = rt z ∧ rt (rt z) = rt z
  | k, z, hk, hz => by
    by_cases hu : up z = z
    · rw [h.stop z hz hu]; exact ⟨hz, hu, h.stop z hz hu⟩
    · have hl := h.less z hz hu
      cases k with
      | zero => omega
      | succ k =>
        have := h.rt_lt k (up z) (by omega) (h.lt z hz)
        rwa [h.same z hz] at this
theorem Uf.root {N : Nat} {up rt d : Nat → Nat} (h : Uf N up rt d) {z : Nat} (hz : z < N) : rt z < N ∧ up (rt z) = rt z ∧ rt (rt z) = rt z := h.rt_lt _ z (Nat.le_refl _) hz
theorem Uf.root_iff {N : Nat} {up rt d : Nat → Nat} (h : Uf N up rt d) {z : Nat} (hz : z < N) : up z = z ↔ rt z = z :=
  ⟨h.stop z hz, fun e => by have := (h.root hz).2.1; rwa [e] at this⟩

def put (f : Nat → Nat) (i v : Nat) : Nat → Nat := fun z => if z = i then v else f z

/-- Halving a path keeps the roots. -/
theorem Uf.halve {N : Nat} {up rt d : Nat → Nat} (h : Uf N up rt d) {n : Nat} (hn : n < N) : Uf N (put up n (up (up n))) rt d := by
  have h1 := h.lt n hn
  have h2 := h.lt _ h1
  refine ⟨fun z hz => ?_, fun z hz => ?_, fun z hz he => ?_, fun z hz he => ?_⟩
  · unfold put; split
    · exact h2
    · exact h.lt z hz
  · unfold put; split
    · rename_i e; subst e; rw [h.same _ h1, h.same _ hz]
    · exact h.same z hz
  · unfold put at he; split at he
    · rename_i e; subst e
      by_cases hu : up z = z
      · exact h.stop z hz hu
      · exfalso
        have a := h.less z hz hu
        by_cases hv : up (up z) = up z
        · rw [hv] at he; exact hu he
        · have b := h.less _ h1 hv
          rw [he] at b; omega
    · exact h.stop z hz he
  · unfold put at he ⊢; split
    · rename_i e; subst e
      rw [if_pos rfl] at he
      have hu : up z ≠ z := fun e => he (by rw [e, e])
      have a := h.less z hz hu
      by_cases hv : up (up z) = up z
      · rw [hv]; exact a
      · have b := h.less _ h1 hv; omega
    · rename_i e; rw [if_neg e] at he; exact h.less z hz he

/-- Whose root is now a, if it was b. -/
def join (rt : Nat → Nat) (a b : Nat) : Nat → Nat := fun z => if rt z = b then a else rt z
/-- A root put below another one. -/
theorem Uf.link {N : Nat} {up rt d : Nat → Nat} (h : Uf N up rt d) {a b : Nat} (ha : a < N) (ra : rt a = a) (rb : rt b = b) (hab : a ≠ b) : ∃ d', Uf N (put up b a) (join rt a b) d' := by
  refine ⟨fun z => if rt z = b then d z + d a + 1 else d z, fun z hz => ?_, fun z hz => ?_, fun z hz he => ?_, fun z hz he => ?_⟩
  · unfold put; split
    · exact ha
    · exact h.lt z hz
  · unfold join
    by_cases e : z = b
    · have : put up b a z = a := by unfold put; rw [if_pos e]
      rw [this, ra, if_neg hab, e, rb, if_pos rfl]
    · have : put up b a z = up z := by unfold put; rw [if_neg e]
      rw [this, h.same z hz]
  · unfold put at he; split at he
    · rename_i e; exact absurd he (fun e' => hab (by omega))
    · rename_i e
      have := h.stop z hz he
      unfold join; rw [this, if_neg e]
  · by_cases e : z = b
    · have hp : put up b a z = a := by unfold put; rw [if_pos e]
      rw [hp]
      show (if rt a = b then _ else _) < if rt z = b then _ else _
      rw [ra, if_neg hab, e, rb, if_pos rfl]; omega
    · have hp : put up b a z = up z := by unfold put; rw [if_neg e]
      rw [hp] at he ⊢
      show (if rt (up z) = b then _ else _) < if rt z = b then _ else _
      rw [h.same z hz]
      have := h.less z hz he
      split <;> omega

/-- How many have this root. -/
def cnt (N : Nat) (rt : Nat → Nat) (r : Nat) : Nat := (List.range N).countP fun z => rt z == r
theorem countP_two : ∀ (l : List Nat) (p : Nat → Bool), l.Nodup → ∀ x y, x ∈ l → y ∈ l → x ≠ y → p x = true → p y = true → 2 ≤ l.countP p
  | [], _, _, _, _, h, _, _, _, _ => by cases h
  | a :: r, p, hd, x, y, hx, hy, hxy, px, py => by
    have hd' := List.nodup_cons.1 hd
    have one : ∀ z, z ∈ r → p z = true → 1 ≤ r.countP p := fun z hz pz => List.countP_pos_iff.2 ⟨z, hz, pz⟩
    rcases List.mem_cons.1 hx with h1 | h1
    · rcases List.mem_cons.1 hy with h2 | h2
      · exact absurd (h1.trans h2.symm) hxy
      · have := one y h2 py
        rw [List.countP_cons_of_pos (by rw [← h1]; exact px)]; omega
    · rcases List.mem_cons.1 hy with h2 | h2
      · have := one x h1 px
        rw [List.countP_cons_of_pos (by rw [← h2]; exact py)]; omega
      · have := countP_two r p hd'.2 x y h1 h2 hxy px py
        rw [List.countP_cons]; omega
theorem cnt_le (N : Nat) (rt : Nat → Nat) (r : Nat) : cnt N rt r ≤ N := by
  have := List.countP_le_length (p := fun z => rt z == r) (l := List.range N)
  simpa [cnt] using this
theorem cnt_pos {N : Nat} {rt : Nat → Nat} {r : Nat} (hr : r < N) (h : rt r = r) : 1 ≤ cnt N rt r :=
  List.countP_pos_iff.2 ⟨r, List.mem_range.2 hr, by simp [h]⟩
theorem cnt_one {N : Nat} {rt : Nat → Nat} {r : Nat} (h1 : cnt N rt r = 1) {x y : Nat} (hx : x < N) (hy : y < N) (ex : rt x = r) (ey : rt y = r) : x = y := by
  rcases Nat.decEq x y with h | h
  · have := countP_two (List.range N) (fun z => rt z == r) List.nodup_range x y (List.mem_range.2 hx) (List.mem_range.2 hy) h (by simp [ex]) (by simp [ey])
    unfold cnt at h1; omega
  · exact h
theorem countP_le_one : ∀ (l : List Nat) (p : Nat → Bool) (x : Nat), l.Nodup → (∀ z ∈ l, p z = true → z = x) → l.countP p ≤ 1
  | [], _, _, _, _ => by simp
  | a :: r, p, x, hd, h => by
    have hd' := List.nodup_cons.1 hd
    rw [List.countP_cons]
    split
    · rename_i pa
      have ea := h a List.mem_cons_self pa
      have : r.countP p = 0 := List.countP_eq_zero.2 fun z hz pz => hd'.1 (by
        have := h z (List.mem_cons_of_mem _ hz) pz
        rw [ea, ← this]; exact hz)
      omega
    · have := countP_le_one r p x hd'.2 (fun z hz => h z (List.mem_cons_of_mem _ hz)); omega
theorem cnt_is_one {N : Nat} {rt : Nat → Nat} {r x : Nat} (hx : x < N) (ex : rt x = r) (h : ∀ z, z < N → rt z = r → z = x) : cnt N rt r = 1 := by
  have h1 : 1 ≤ cnt N rt r := List.countP_pos_iff.2 ⟨x, List.mem_range.2 hx, by simp [ex]⟩
  have h2 := countP_le_one (List.range N) (fun z => rt z == r) x List.nodup_range (fun z hz pz => h z (List.mem_range.1 hz) (by simpa using pz))
  unfold cnt at h1 ⊢; omega
theorem countP_or : ∀ (l : List Nat) (p q s : Nat → Bool), (∀ z, s z = (p z || q z)) → (∀ z, ¬ (p z = true ∧ q z = true)) → l.countP s = l.countP p + l.countP q
  | [], _, _, _, _, _ => by simp
  | a :: r, p, q, s, hs, hn => by
    rw [List.countP_cons, List.countP_cons, List.countP_cons, countP_or r p q s hs hn, hs a]
    have := hn a
    cases hp : p a <;> cases hq : q a <;> simp_all <;> omega
theorem cnt_join {N : Nat} {rt : Nat → Nat} {a b : Nat} (hab : a ≠ b) : cnt N (join rt a b) a = cnt N rt a + cnt N rt b := by
  refine countP_or _ _ _ _ (fun z => ?_) (fun z h => ?_)
  · unfold join
    by_cases h : rt z = b
    · simp [h]
    · simp [h]
  · simp at h; omega
theorem cnt_other {N : Nat} {rt : Nat → Nat} {a b c : Nat} (hca : c ≠ a) (hcb : c ≠ b) : cnt N (join rt a b) c = cnt N rt c := by
  unfold cnt
  congr 1
  funext z
  unfold join
  split
  · rename_i h
    rw [h]
    have h1 : (a == c) = false := by simpa using fun e => hca e.symm
    have h2 : (b == c) = false := by simpa using fun e => hcb e.symm
    rw [h1, h2]
  · rfl
/-- How many roots there are. -/
def roots (N : Nat) (rt : Nat → Nat) : Nat := (List.range N).countP fun z => rt z == z
theorem countP_lt : ∀ (l : List Nat) (p q : Nat → Bool), (∀ z, q z = true → p z = true) → ∀ x ∈ l, p x = true → q x = false → l.countP q < l.countP p
  | a :: r, p, q, hpq, x, hx, px, qx => by
    have hle : r.countP q ≤ r.countP p := List.countP_mono_left fun z _ => hpq z
    rw [List.countP_cons, List.countP_cons]
    rcases List.mem_cons.1 hx with rfl | hx
    · rw [px, qx]; simp; omega
    · have := countP_lt r p q hpq x hx px qx
      have := hpq a
      cases hq : q a
      · simp; omega
      · rw [this hq]; omega
theorem roots_join {N : Nat} {rt : Nat → Nat} {a b : Nat} (hb : b < N) (ra : rt a = a) (rb : rt b = b) (hab : a ≠ b) : roots N (join rt a b) < roots N rt := by
  refine countP_lt _ _ _ (fun z h => ?_) b (List.mem_range.2 hb) (by simp [rb]) ?_
  · unfold join at h
    simp only [beq_iff_eq] at h ⊢
    split at h
    · subst h; exact ra
    · exact h
  · unfold join
    simp [rb, hab]
theorem roots_le (N : Nat) (rt : Nat → Nat) : roots N rt ≤ N := by
  have := List.countP_le_length (p := fun z => rt z == z) (l := List.range N)
  simpa [roots] using this
theorem uf_start (N : Nat) : Uf N (fun z => z) (fun z => z) (fun _ => 0) := ⟨fun _ h => h, fun _ _ => rfl, fun _ _ h => h, fun _ _ h => absurd rfl h⟩
theorem cnt_start {N r : Nat} (h : r < N) : cnt N (fun z => z) r = 1 := cnt_is_one h rfl (fun _ _ h => h)
theorem sizes_join {N : Nat} {rt sz : Nat → Nat} {a b : Nat} (hs : ∀ r, r < N → rt r = r → sz r = cnt N rt r) (ha : a < N) (hb : b < N) (ra : rt a = a) (rb : rt b = b) (hab : a ≠ b) : ∀ r, r < N → join rt a b r = r → put sz a (sz a + sz b) r = cnt N (join rt a b) r := by
  intro r hr hj
  unfold put
  by_cases e : r = a
  · rw [if_pos e, e, cnt_join hab, hs a ha ra, hs b hb rb]
  · rw [if_neg e]
    have hb' : r ≠ b := fun h => by
      rw [h] at hj
      unfold join at hj
      rw [if_pos rb] at hj
      exact hab hj
    have hrr : rt r = r := by
      unfold join at hj
      split at hj
      · exact absurd hj.symm e
      · exact hj
    rw [cnt_other e hb', hs r hr hrr]
end Gu
