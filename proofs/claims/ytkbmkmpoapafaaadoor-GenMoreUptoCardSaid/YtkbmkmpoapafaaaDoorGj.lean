/- What a graph of few values and letters is like. -/
import Derived.Test.YtkbmkmpoapafaaaDoorGg
import Derived.Test.YtkbmkmpoapafaaaDoorGi
namespace Go.Proofs.YtkbmkmpoapafaaaDoor
open Go.ChangeShapes Go.WideShapes Go.ChangeAt Go.RowKit

theorem longN_le (s : ByteArray) : longN s ≤ 1000 := by unfold longN; split <;> omega
theorem labN_small : ∀ l : List ByteArray, labN l ≤ l.length * 1000
  | [] => by simp [labN]
  | a :: r => by
    have h1 := longN_le a
    have h2 := labN_small r
    have : labN (a :: r) = longN a + labN r := by simp [labN]
    rw [this, List.length_cons]
    omega
theorem ndsN_small {C : Nat} : ∀ l : List GN, (∀ x ∈ l, ndN x ≤ C) → ndsN l ≤ l.length * C
  | [], _ => by simp [ndsN]
  | a :: r, h => by
    have h1 := h a (by simp)
    have h2 := ndsN_small r fun x hx => h x (by simp [hx])
    have : ndsN (a :: r) = ndN a + ndsN r := by simp [ndsN]
    rw [this, List.length_cons, Nat.succ_mul]
    omega
theorem mild_small {l : List GN} {B : Nat} (hB : B ≤ 1048576) (hl : l.length ≤ B) (hm : ∀ p ∈ l, p.mild B) : Sized l ∧ greatN l ≤ 4611686018427387904 := by
  refine ⟨fun x hx s hs => ?_, ?_⟩
  · have := (hm x hx).2.2 s hs
    unfold maxLen; omega
  · have h1 := ndsN_small (C := 1100000000) l fun x hx => by
      obtain ⟨h1, h2, _⟩ := hm x hx
      have h3 := longN_le x.nm
      have h4 := labN_small x.labels
      unfold ndN
      omega
    have h2 : l.length * 1100000000 ≤ 1048576 * 1100000000 := Nat.mul_le_mul_right _ (by omega)
    unfold greatN
    omega
theorem great_len {l : List GN} {k : Nat} (h : greatN l ≤ k) : l.length ≤ k ∧ (∀ x ∈ l, x.args.length ≤ k) ∧ ∀ x ∈ l, x.labels.length ≤ k := by
  unfold greatN at h
  refine ⟨by omega, fun x hx => ?_, fun x hx => ?_⟩
  · have := ndN_le hx
    unfold ndN at this
    omega
  · have := ndN_le hx
    unfold ndN at this
    omega
end Go.Proofs.YtkbmkmpoapafaaaDoor
