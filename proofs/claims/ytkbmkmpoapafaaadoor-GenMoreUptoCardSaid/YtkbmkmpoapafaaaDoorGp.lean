/- Graphs that may be, as plain ones; whether two are the same type. -/
import Derived.Test.YtkbmkmpoapafaaaDoorGk
import Derived.Test.YtkbmkmpoapafaaaDoorSm
namespace Go.Proofs.YtkbmkmpoapafaaaDoor
open Go.ChangeShapes Go.WideShapes Go.ChangeAt Go.RowKit

def toN (x : GN) : Gu.Gn := ⟨x.k, x.nm, x.args.map Int.toNat, x.labels, x.op⟩
def toG (l : List GN) : List Gu.Gn := l.map toN
theorem toG_get {l : List GN} {i : Nat} {y : Gu.Gn} (h : (toG l)[i]? = some y) : ∃ x, l[i]? = some x ∧ y = toN x := by
  unfold toG at h
  rw [List.getElem?_map] at h
  cases hx : l[i]? with
  | none => rw [hx] at h; cases h
  | some x => rw [hx] at h; cases h; exact ⟨x, rfl, rfl⟩
theorem toG_len (l : List GN) : (toG l).length = l.length := by simp [toG]
theorem inside_iff {a n : Int} : insideB a n = true ↔ 0 ≤ a ∧ a < n := by unfold insideB; simp
theorem fit_args {x : GN} {n : Int} (h : fitG x n = true) : ∀ a ∈ x.args, 0 ≤ a ∧ a < n := by
  unfold fitG at h
  have h1 := (Bool.and_eq_true _ _ ▸ h).1
  unfold argsIn at h1
  intro a ha
  exact inside_iff.1 (List.all_eq_true.1 h1 a ha)
theorem fit_head {x : GN} {n : Int} (h : fitG x n = true) : headB x = true := by
  unfold fitG at h
  exact (Bool.and_eq_true _ _ ▸ h).2
/-- How many Args a node has hangs on how it looks. -/
theorem head_len {x y : GN} (hx : headB x = true) (hy : headB y = true) (hk : x.k = y.k) (hn : x.nm = y.nm) (hl : x.labels = y.labels) : x.args.length = y.args.length := by
  unfold headB at hx hy
  by_cases h3 : x.k = 3
  · rw [if_pos h3] at hx
    rw [if_pos (by rw [← hk]; exact h3)] at hy
    simp only [Bool.and_eq_true, beq_iff_eq] at hx hy
    rw [← hx.2.1, ← hy.2.1, hl]
  · rw [if_neg h3] at hx
    rw [if_neg (by rw [← hk]; exact h3)] at hy
    split at hx
    · cases hx
    · split at hy
      · cases hy
      · by_cases h1 : x.k = 1
        · rw [if_pos h1] at hx
          rw [if_pos (by rw [← hk]; exact h1)] at hy
          simp only [Bool.and_eq_true, beq_iff_eq] at hx hy
          rw [hx.2, hy.2]
        · rw [if_neg h1] at hx
          rw [if_neg (by rw [← hk]; exact h1)] at hy
          by_cases h2 : x.k = 2
          · rw [if_pos h2] at hx
            rw [if_pos (by rw [← hk]; exact h2)] at hy
            simp only [beq_iff_eq] at hx hy
            rw [hn] at hx
            omega
          · rw [if_neg h2] at hx; cases hx
theorem fine_of {G H : List GN} {r s : Int} (hG : checkG G r = 0) (hH : checkG H s = 0) : Gu.Fine (toG G) (toG H) := by
  obtain ⟨_, _, fG⟩ := checkG_ok.1 hG
  obtain ⟨_, _, fH⟩ := checkG_ok.1 hH
  have lt : ∀ {L : List GN}, (∀ x ∈ L, fitG x L.length = true) → ∀ (a : Nat) (y : Gu.Gn), (toG L)[a]? = some y → ∀ c ∈ y.args, c < (toG L).length := fun {L} hL a y hy c hc => by
    obtain ⟨x, hx, rfl⟩ := toG_get hy
    obtain ⟨z, hz, rfl⟩ := List.mem_map.1 (show c ∈ x.args.map Int.toNat from hc)
    have := fit_args (hL x (List.mem_of_getElem? hx)) z hz
    rw [toG_len]; omega
  refine ⟨lt fG, lt fH, fun a b x y hx hy hl => ?_⟩
  obtain ⟨x', hx', rfl⟩ := toG_get hx
  obtain ⟨y', hy', rfl⟩ := toG_get hy
  have := head_len (fit_head (fG x' (List.mem_of_getElem? hx'))) (fit_head (fH y' (List.mem_of_getElem? hy'))) hl.1 hl.2.1 hl.2.2.2
  simpa [toN] using this
/-- Two graphs are the same type. -/
def SameGr (G : List GN) (r : Int) (H : List GN) (s : Int) : Prop := checkG G r = 0 ∧ checkG H s = 0 ∧ Gu.SameT (toG G) (toG H) r.toNat s.toNat
noncomputable def sameGr (G : List GN) (r : Int) (H : List GN) (s : Int) : Bool := @decide (SameGr G r H s) (Classical.propDecidable _)
theorem sameGr_iff {G : List GN} {r : Int} {H : List GN} {s : Int} : sameGr G r H s = true ↔ SameGr G r H s := by simp [sameGr]
theorem SameGr.symm {G : List GN} {r : Int} {H : List GN} {s : Int} (h : SameGr G r H s) : SameGr H s G r := ⟨h.2.1, h.1, h.2.2.symm⟩
theorem SameGr.trans {G : List GN} {r : Int} {H : List GN} {s : Int} {K : List GN} {t : Int} (h : SameGr G r H s) (g : SameGr H s K t) : SameGr G r K t := ⟨h.1, g.2.1, h.2.2.trans g.2.2⟩
theorem SameGr.refl {G : List GN} {r : Int} (h : checkG G r = 0) : SameGr G r G r := by
  obtain ⟨_, hi, _⟩ := checkG_ok.1 h
  have := inside_iff.1 hi
  exact ⟨h, h, .refl (fine_of h h) (by rw [toG_len]; omega)⟩
end Go.Proofs.YtkbmkmpoapafaaaDoor
