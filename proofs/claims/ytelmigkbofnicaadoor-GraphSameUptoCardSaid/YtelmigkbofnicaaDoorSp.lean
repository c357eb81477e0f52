/- Pairs of nodes that must be matched: what the document's way of telling whether two graphs are the same type keeps. -/
import Derived.Test.YtelmigkbofnicaaDoorGp
import Derived.Test.YtelmigkbofnicaaDoorRp
namespace Go.Proofs.YtelmigkbofnicaaDoor
open Go.ChangeShapes Go.WideShapes Go.ChangeAt Go.RowKit

noncomputable def alikeB (x y : GN) : Bool := (x.k == y.k) && (same x.nm y.nm && ((x.op == y.op) && ((x.args.length == y.args.length) && same x.labels y.labels)))
theorem alikeB_iff {x y : GN} : alikeB x y = true ↔ x.k = y.k ∧ x.nm = y.nm ∧ x.op = y.op ∧ x.args.length = y.args.length ∧ x.labels = y.labels := by
  unfold alikeB
  simp only [Bool.and_eq_true, beq_iff_eq, same_iff]
theorem toG_at' {G : List GN} {i : Nat} {x : GN} (h : G[i]? = some x) : (toG G)[i]? = some (toN x) := by
  unfold toG; rw [List.getElem?_map, h]; rfl
/-- The pairs that are kept, of which so many were looked at. -/
structure Pairs (G H : List GN) (r s : Nat) (L : List (Nat × Nat)) (k : Nat) : Prop where
  nd : L.Nodup
  lt : ∀ p ∈ L, p.1 < G.length ∧ p.2 < H.length
  hd : (r, s) ∈ L
  sub : ∀ R : Nat → Nat → Prop, R r s → Gu.Match (toG G) (toG H) R → ∀ p ∈ L, R p.1 p.2
  done : ∀ j p, j < k → L[j]? = some p → ∃ x y, G[p.1]? = some x ∧ H[p.2]? = some y ∧ alikeB x y = true ∧ ∀ (i : Nat) (c d : Int), x.args[i]? = some c → y.args[i]? = some d → (c.toNat, d.toNat) ∈ L
theorem pairs_start {G H : List GN} {r s : Nat} (hr : r < G.length) (hs : s < H.length) : Pairs G H r s [(r, s)] 0 :=
  ⟨by simp, fun p hp => by rw [List.mem_singleton.1 hp]; exact ⟨hr, hs⟩, by simp, fun R hR _ p hp => by rw [List.mem_singleton.1 hp]; exact hR, fun _ _ h => absurd h (Nat.not_lt_zero _)⟩
variable {G H : List GN} {r s k : Nat} {L : List (Nat × Nat)}
theorem Pairs.len (h : Pairs G H r s L k) : L.length ≤ G.length * H.length := by
  have h1 : (L.map fun p => p.1 * H.length + p.2).Nodup := by
    rw [List.nodup_iff_pairwise_ne, List.pairwise_map]
    refine List.Pairwise.imp_of_mem (fun {p q} hp hq hne he => hne ?_) (List.nodup_iff_pairwise_ne.1 h.nd)
    have a := h.lt p hp
    have b := h.lt q hq
    have e1 : p.2 = q.2 := by
      have := congrArg (· % H.length) he
      simp only [Nat.mul_add_mod_self_right, Nat.mod_eq_of_lt a.2, Nat.mod_eq_of_lt b.2] at this
      exact this
    have e2 : p.1 = q.1 := by
      rw [e1] at he
      have : p.1 * H.length = q.1 * H.length := by omega
      exact Nat.eq_of_mul_eq_mul_right (by omega) this
    exact Prod.ext e2 e1
  have h2 : ∀ x ∈ L.map (fun p => p.1 * H.length + p.2), x < G.length * H.length := fun x hx => by
    obtain ⟨p, hp, rfl⟩ := List.mem_map.1 hx
    have a := h.lt p hp
    have : (p.1 + 1) * H.length ≤ G.length * H.length := Nat.mul_le_mul_right _ a.1
    rw [Nat.add_mul] at this
    omega
  have := Gu.nodup_le h1 h2
  simpa using this
/-- A pair that must be matched is laid behind. -/
theorem Pairs.add (h : Pairs G H r s L k) {p : Nat × Nat} (hn : p ∉ L) (hp : p.1 < G.length ∧ p.2 < H.length) (hs : ∀ R : Nat → Nat → Prop, R r s → Gu.Match (toG G) (toG H) R → R p.1 p.2) (hk : k ≤ L.length) : Pairs G H r s (L ++ [p]) k := by
  refine ⟨?_, fun q hq => ?_, List.mem_append.2 (.inl h.hd), fun R hR hM q hq => ?_, fun j q hj hq => ?_⟩
  · rw [List.nodup_append]
    refine ⟨h.nd, by simp, fun a ha b hb => ?_⟩
    rw [List.mem_singleton.1 hb]
    intro e; rw [e] at ha; exact hn ha
  · rcases List.mem_append.1 hq with hq | hq
    · exact h.lt q hq
    · rw [List.mem_singleton.1 hq]; exact hp
  · rcases List.mem_append.1 hq with hq | hq
    · exact h.sub R hR hM q hq
    · rw [List.mem_singleton.1 hq]; exact hs R hR hM
  · rw [List.getElem?_append_left (by omega)] at hq
    obtain ⟨x, y, h1, h2, h3, h4⟩ := h.done j q hj hq
    exact ⟨x, y, h1, h2, h3, fun i c d hc hd => List.mem_append.2 (.inl (h4 i c d hc hd))⟩
/-- What a pair's nodes lead to must be matched. -/
theorem Pairs.kid (h : Pairs G H r s L k) {p : Nat × Nat} (hp : p ∈ L) {x y : GN} (hx : G[p.1]? = some x) (hy : H[p.2]? = some y) {i : Nat} {c d : Int} (hc : x.args[i]? = some c) (hd : y.args[i]? = some d) (R : Nat → Nat → Prop) (hR : R r s) (hM : Gu.Match (toG G) (toG H) R) : R c.toNat d.toNat := by
  refine hM.kids p.1 p.2 _ _ (h.sub R hR hM p hp) (toG_at' hx) (toG_at' hy) i _ _ ?_ ?_
  · show (x.args.map Int.toNat)[i]? = _
    rw [List.getElem?_map, hc]; rfl
  · show (y.args.map Int.toNat)[i]? = _
    rw [List.getElem?_map, hd]; rfl
/-- The next pair was looked at. -/
theorem Pairs.next (h : Pairs G H r s L k) {p : Nat × Nat} (hp : L[k]? = some p) {x y : GN} (hx : G[p.1]? = some x) (hy : H[p.2]? = some y) (ha : alikeB x y = true) (hk : ∀ (i : Nat) (c d : Int), x.args[i]? = some c → y.args[i]? = some d → (c.toNat, d.toNat) ∈ L) : Pairs G H r s L (k + 1) :=
  ⟨h.nd, h.lt, h.hd, h.sub, fun j q hj hq => by
    by_cases e : j = k
    · subst e
      rw [hp] at hq
      cases hq
      exact ⟨x, y, hx, hy, ha, hk⟩
    · exact h.done j q (by omega) hq⟩
theorem Pairs.no1 (h : Pairs G H r s L k) {p : Nat × Nat} (hp : p ∈ L) {x y : GN} (hx : G[p.1]? = some x) (hy : H[p.2]? = some y) (ha : alikeB x y = false) : sameGr G (r : Int) H (s : Int) = false := by
  cases hz : sameGr G (r : Int) H (s : Int) with
  | false => rfl
  | true =>
    obtain ⟨_, _, R, hR, hM⟩ := sameGr_iff.1 hz
    obtain ⟨x', y', h1, h2, h3, h4⟩ := hM.like _ _ (h.sub R hR hM p hp)
    rw [toG_at' hx] at h1
    rw [toG_at' hy] at h2
    cases h1; cases h2
    have : alikeB x y = true := alikeB_iff.2 ⟨h3.1, h3.2.1, h3.2.2.1, by simpa [toN] using h4, h3.2.2.2⟩
    rw [ha] at this; cases this
theorem freeB_free {x : GN} : (toN x).free ↔ x.freeB = true := by
  unfold Gu.Gn.free GN.freeB toN
  simp
theorem Pairs.no2 (h : Pairs G H r s L k) {p q : Nat × Nat} (hp : p ∈ L) (hq : q ∈ L) {x : GN} (hx : G[p.1]? = some x) (hf : x.freeB = true) (hne : ¬ (p.1 = q.1 ↔ p.2 = q.2)) : sameGr G (r : Int) H (s : Int) = false := by
  cases hz : sameGr G (r : Int) H (s : Int) with
  | false => rfl
  | true =>
    obtain ⟨_, _, R, hR, hM⟩ := sameGr_iff.1 hz
    refine absurd ⟨fun e => ?_, fun e => ?_⟩ hne
    · have h1 := h.sub R hR hM p hp
      have h2 := h.sub R hR hM q hq
      rw [← e] at h2
      exact (hM.fst _ _ _ _ h1 h2 (toG_at' hx) (freeB_free.2 hf)).symm
    · have h1 := h.sub R hR hM p hp
      have h2 := h.sub R hR hM q hq
      rw [← e] at h2
      exact (hM.snd _ _ _ _ h1 h2 (toG_at' hx) (freeB_free.2 hf)).symm
theorem Pairs.yes (h : Pairs G H r s L L.length) (hG : checkG G (r : Int) = 0) (hH : checkG H (s : Int) = 0) (hf : ∀ p ∈ L, ∀ q ∈ L, ∀ x, G[p.1]? = some x → x.freeB = true → (p.1 = q.1 ↔ p.2 = q.2)) : sameGr G (r : Int) H (s : Int) = true := by
  have look : ∀ p ∈ L, ∃ x y, G[p.1]? = some x ∧ H[p.2]? = some y ∧ alikeB x y = true ∧ ∀ (i : Nat) (c d : Int), x.args[i]? = some c → y.args[i]? = some d → (c.toNat, d.toNat) ∈ L := fun p hp => by
    obtain ⟨j, hj, e⟩ := List.mem_iff_getElem.1 hp
    exact h.done j p hj (by rw [List.getElem?_eq_getElem hj, e])
  refine sameGr_iff.2 ⟨hG, hH, fun a b => (a, b) ∈ L, by simpa using h.hd, ⟨fun a b hab => ?_, fun a b x' y' hab hx hy i c d hc hd => ?_, fun a b b' x' h1 h2 hx hfr => ?_, fun a a' b x' h1 h2 hx hfr => ?_⟩⟩
  · obtain ⟨x, y, h1, h2, h3, _⟩ := look _ hab
    have h5 := alikeB_iff.1 h3
    exact ⟨toN x, toN y, toG_at' h1, toG_at' h2, ⟨h5.1, h5.2.1, h5.2.2.1, h5.2.2.2.2⟩, by simpa [toN] using h5.2.2.2.1⟩
  · obtain ⟨x, y, h1, h2, _, h4⟩ := look _ hab
    rw [toG_at' h1] at hx
    rw [toG_at' h2] at hy
    cases hx; cases hy
    have hc' : (x.args.map Int.toNat)[i]? = some c := hc
    have hd' : (y.args.map Int.toNat)[i]? = some d := hd
    rw [List.getElem?_map, Option.map_eq_some_iff] at hc' hd'
    obtain ⟨c', e1, rfl⟩ := hc'
    obtain ⟨d', e2, rfl⟩ := hd'
    exact h4 i c' d' e1 e2
  · obtain ⟨x, hx2, rfl⟩ := toG_get hx
    exact ((hf _ h1 _ h2 x hx2 (freeB_free.1 hfr)).1 rfl).symm
  · obtain ⟨x, hx2, rfl⟩ := toG_get hx
    exact ((hf _ h1 _ h2 x hx2 (freeB_free.1 hfr)).2 rfl).symm
end Go.Proofs.YtelmigkbofnicaaDoor
