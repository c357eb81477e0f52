/- What TreeTypes asks of trees: an annotation around a tree; types wrapped in 'as'. -/
import Derived.Test.YtoopndgdaiblpaaDoorTpP
namespace Go.Proofs.YtoopndgdaiblpaaDoor
open Go.ChangeShapes Go.WideShapes Go.ChangeAt Go.RowKit

def wrapS (x : Ty) : Ty := .mk 4 ⟨#[97]⟩ [x] [] false
theorem kt_wrapS {x : Ty} (h : KT x) : KT (wrapS x) := kt_one true (by simp [shapes]) h
theorem size_wrapS (x : Ty) : tySize (wrapS x) = tySize x + 1 := by
  unfold wrapS
  rw [tySize]
  simp
  omega
theorem may_arg {k : Int} {s : ByteArray} {args : List Ty} {labels : List ByteArray} {op : Bool} {x : Ty} (h : TyMay (.mk k s args labels op)) (hx : x ∈ args) : TyMay x := by
  cases h with
  | mk _ ha => exact ha x hx
theorem errT_arg {k : Int} {s : ByteArray} {args : List Ty} {labels : List ByteArray} {op : Bool} {x : Ty} (h : errT (.mk k s args labels op) = 0) (hx : x ∈ args) : errT x = 0 := by
  unfold errT at h
  split at h
  · rename_i hm
    split at h
    · exact absurd h (by decide)
    · rename_i hd
      have := tyDeep_arg (k := k) (s := s) (labels := labels) (op := op) hx
      exact errT_ok (may_arg hm hx) (by omega)
  · exact absurd h (by decide)

def annotN (e : Nd) (t : Ty) : Nd := .ex 19 ⟨#[]⟩ 0 [] [t] [e] []
theorem annot_fits (e : Nd) (t : Ty) : partB (annotN e t) = true := by
  simp [annotN, partB, fitB, plainB, fitP, textB]
  first | rfl | decide | simp [emptyB]
theorem annot_trav (e : Nd) (t : Ty) (d : Nat) (p : Nd × Nat) : p ∈ trav d (annotN e t) ↔ p = (annotN e t, d) ∨ p ∈ trav (d + 1) e := by
  unfold annotN
  rw [trav]
  simp
theorem annot_bad (e : Nd) (t : Ty) : partBad (annotN e t) ↔ errT t = 2 := by
  unfold partBad
  rw [annot_fits]
  simp [annotN, ndTypes]
theorem annot_late (e : Nd) (t : Ty) (d : Nat) : partLate (annotN e t, d) ↔ 200 < d ∨ errT t = 4 := by
  unfold partLate
  simp [annotN, ndTypes]
theorem annot_two {e : Nd} {t : Ty} (hf : Fair e) : errE (annotN e t) = 2 ↔ errE e = 2 ∨ errT t = 2 := by
  have key : ∀ u : Nd, errE u = 2 ↔ ∃ p ∈ trav 1 u, partBad p.1 := by
    intro u
    unfold errE
    constructor
    · intro h
      split at h
      · assumption
      · split at h <;> exact absurd h (by decide)
    · intro h; rw [if_pos h]
  rw [key, key]
  constructor
  · rintro ⟨p, hp, hb⟩
    rcases (annot_trav e t 1 p).1 hp with rfl | hp
    · exact .inr ((annot_bad e t).1 hb)
    · obtain ⟨y, hy, rfl⟩ := trav_dn hf 1 1 p hp
      exact .inl ⟨y, hy, hb⟩
  · rintro (⟨p, hp, hb⟩ | h)
    · exact ⟨(p.1, p.2 + 1), (annot_trav e t 1 _).2 (.inr (trav_up hf 1 1 p hp)), hb⟩
    · exact ⟨(annotN e t, 1), (annot_trav e t 1 _).2 (.inl rfl), (annot_bad e t).2 h⟩
theorem annot_zero {e : Nd} {t : Ty} (hf : Fair e) (h : errE (annotN e t) = 0) : errE e = 0 ∧ errT t = 0 := by
  have h1 := errE_zero.1 h
  constructor
  · refine errE_kid (c := 1) (t := annotN e t) hf h fun p hp => (annot_trav e t 1 p).2 (.inr hp)
  · have h2 := h1 _ ((annot_trav e t 1 _).2 (.inl rfl))
    rcases errT_ways t with h3 | h3 | h3
    · exact h3
    · exact absurd ((annot_bad e t).2 h3) h2.1
    · exact absurd ((annot_late e t 1).2 (.inr h3)) h2.2
theorem annot_four {e : Nd} {t : Ty} (hf : Fair e) (h : errE (annotN e t) = 4) (hx : errE e = 0) (hy : errT t = 0) : 200 ≤ ndDeep e := by
  rcases Nat.lt_or_ge (ndDeep e) 200 with hd | hd
  · exfalso
    have : errE (annotN e t) = 0 := by
      rw [errE_zero]
      intro p hp
      rcases (annot_trav e t 1 p).1 hp with rfl | hp
      · refine ⟨fun a => ?_, fun a => ?_⟩
        · rw [annot_bad, hy] at a; exact absurd a (by decide)
        · rw [annot_late, hy] at a
          rcases a with a | a
          · exact absurd a (by decide)
          · exact absurd a (by decide)
      · obtain ⟨y, hy', rfl⟩ := trav_dn hf 1 1 p hp
        have h0 := errE_zero.1 hx y hy'
        refine ⟨h0.1, ?_⟩
        have hle := (ndDeep_le e _).1 (Nat.le_refl _) y hy'
        rintro (a | a)
        · simp only at a; omega
        · exact h0.2 (.inr a)
    rw [h] at this
    exact absurd this (by decide)
  · exact hd
theorem fair_annot {e : Nd} {t : Ty} (h : Fair e) (hk : KT t) (hz : tySize t ≤ 900000) : Fair (annotN e t) :=
  .ex (by decide) (Nat.zero_le _) (fun _ h => by cases h) (fun x hx => by rw [List.mem_singleton.1 hx]; exact ⟨hk, hz⟩) (by simp) (fun x hx => by
    rw [List.mem_singleton.1 hx]; exact h) (fun _ h => by cases h)
theorem annot_size (e : Nd) (t : Ty) : ndSize (annotN e t) = ndSize e + 1 := by
  unfold annotN
  rw [ndSize_ex]
  simp [ndSum]
  omega
/-- A type's parts. -/
def tyArgs : Ty → List Ty
  | .mk _ _ args _ _ => args
theorem errT_kid {t x : Ty} (h : errT t = 0) (hx : x ∈ tyArgs t) : errT x = 0 := by
  cases t with
  | mk k s args labels op => exact errT_arg h hx
theorem kt_kid {t x : Ty} (h : KT t) (hx : x ∈ tyArgs t) : KT x := by
  cases h with
  | mk _ _ ha => exact ha x hx
theorem size_kid {t x : Ty} (hx : x ∈ tyArgs t) : tySize x ≤ tySize t := by
  cases t with
  | mk k s args labels op =>
    rw [tySize]
    have h : ∀ l : List Ty, x ∈ l → tySize x ≤ (l.map tySize).sum := by
      intro l
      induction l with
      | nil => intro h; cases h
      | cons a r ih =>
        intro h
        rw [List.map_cons, List.sum_cons]
        rcases List.mem_cons.1 h with rfl | h
        · omega
        · have := ih h; omega
    have := h args hx
    omega
theorem TyV.kids {W : World} {S : Nat → Prop} {v0 v1 v3 v4 : Value} {az : Option Addr} {nz cz : Nat} {t : Ty} (h : TyV W S [v0, v1, .slice az nz cz, v3, v4] t) :
    ∃ ga oa, (tyArgs t).length = nz ∧ (0 < nz → az = some ⟨ga, oa, none⟩ ∧ nz ≤ cz ∧ cz ≤ maxLen ∧ S ga) ∧ ∀ i (h : i < (tyArgs t).length), TyAt W S ga (oa + i * 5) (tyArgs t)[i] := by
  obtain ⟨k, s, va, vl, op, args, labels, ga, oa, gl, ol, hv, rfl, ha, hl, hs, hls⟩ := h
  simp only [List.cons.injEq, and_true] at hv
  obtain ⟨-, -, hv, -, -⟩ := hv
  obtain ⟨xa, ca, rfl, hxa⟩ := ha.shape
  injection hv with h1 h2 h3
  subst h1 h2 h3
  exact ⟨ga, oa, rfl, hxa, hs⟩
/-- What the three checks may tell, together. -/
def Ways3 (a x y : Int) (d : Nat) : Prop := (a = 0 ∧ x = 0 ∧ y = 0) ∨ (a = 2 ∧ x = 2 ∧ y = 0) ∨ (a = 2 ∧ x = 2 ∧ y = 2) ∨ (a = 2 ∧ x = 2 ∧ y = 4) ∨ (a = 2 ∧ x = 0 ∧ y = 2) ∨ (a = 2 ∧ x = 4 ∧ y = 2) ∨ (a = 4 ∧ x = 0 ∧ y = 0 ∧ 200 ≤ d) ∨ (a = 4 ∧ x = 0 ∧ y = 4) ∨ (a = 4 ∧ x = 4 ∧ y = 0) ∨ (a = 4 ∧ x = 4 ∧ y = 4)
theorem annot_ways {e : Nd} (hf : Fair e) (t : Ty) : Ways3 (errE (annotN e t)) (errE e) (errT t) (ndDeep e) := by
  have h2 := annot_two (t := t) hf
  have h0 := annot_zero (t := t) hf
  have h4 := annot_four (t := t) hf
  unfold Ways3
  rcases errE_ways (annotN e t) with ha | ha | ha <;> rcases errE_ways e with hx | hx | hx <;> rcases errT_ways t with hy | hy | hy <;> rw [ha, hx, hy] at h2 h0 h4 <;> rw [ha, hx, hy] <;> simp at h2 h0 h4 ⊢
  exact h4
/-- An annotation, as a value. -/
theorem annot_ExV {W : World} {S : Nat → Prop} {c d : List Value} {e : Nd} {t : Ty} {g q : Nat} (h : ExV W S c e) (ht : TyV W S d t) (hg : S g) (hq : S q) (hx : isEx e = true) (hb : ∀ j u, c[j]? = some u → W.cell? ⟨g, j, none⟩ = some u) (hd : ∀ j u, d[j]? = some u → W.cell? ⟨q, j, none⟩ = some u) :
    ExV W S [.int .i64 19, .string ⟨#[]⟩, .int .i64 0, .slice (some ⟨g, 0, none⟩) 1 1, .slice none 0 0, .slice (some ⟨q, 0, none⟩) 1 1, .slice none 0 0] (annotN e t) := by
  refine ⟨19, ⟨#[]⟩, 0, _, _, _, _, [], [t], [e], [], g, 0, 0, 0, q, 0, 0, 0, rfl, rfl, .inr ⟨1, rfl, by simp, by decide, hg⟩, .inl ⟨rfl, rfl⟩, .inr ⟨1, rfl, by simp, by decide, hq⟩, .inl ⟨rfl, rfl⟩, fun i hi => ?_, fun i hi => absurd hi (Nat.not_lt_zero _), fun i hi => ?_, fun i hi => absurd hi (Nat.not_lt_zero _), ?_, fun x hx => by cases hx⟩
  · match i, hi with
    | 0, _ => exact h.at_ hg fun j u hj => by simpa using hb j u hj
  · match i, hi with
    | 0, _ => exact ht.at_ hq fun j u hj => by simpa using hd j u hj
  · intro x hx'
    rw [List.mem_singleton.1 hx']; exact hx
end Go.Proofs.YtoopndgdaiblpaaDoor
