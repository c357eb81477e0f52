/- trefoillaw02.great. -/
import Derived.Test.YtoopndgdaiblpaaDoorOfA
namespace Go.Proofs.YtoopndgdaiblpaaDoor
open Go.ChangeShapes Go.WideShapes Go.ChangeAt Go.RowKit

def greatGives (n : Nat) (w : World) (e : Ending) (w' : World) : Prop := ∃ b, e = .returned (.bool b) ∧ (b = false → n ≤ 150) ∧ Below w.heap.size w w'

set_option maxRecDepth 100000 in
/-- Whether parts are more than are looked at: no more than so many, if not. -/
theorem great_any (B : Nat) (l : List Pt) (v : Value) (w : World) (hB : B ≤ w.heap.size) (hl : (l.length : Int) ≤ 9223372036854775807) (hv : PV w B v l) :
    Calls Tryd.prog 9 #[v] w (greatGives l.length w) := by
  obtain ⟨n, hn⟩ : ∃ n, l.length = n := ⟨_, rfl⟩
  obtain ⟨x, c, rfl⟩ : ∃ x c, v = .slice x n c := by
    rcases hv with ⟨rfl, x, c, h⟩ | ⟨g, o, c, h, _⟩
    · exact ⟨x, c, by rw [h, ← hn]; rfl⟩
    · exact ⟨_, _, by rw [h, hn]⟩
  have HV := Lib.hid (And.intro hn hv)
  rw [hn] at hl ⊢
  clear hv hn
  go_enter Tryd.func9, Tryd.ntmps9
  go_wp2_with fail
  go_loopg [3, 8] n (fun gk s i wr => ∃ (j : Nat) (y : Int), gk = n - j ∧ j ≤ n ∧ i = .int .i64 j ∧ s = .int .i64 y ∧ Below w.heap.size w wr)
  case atStart => exact ⟨0, 0, rfl, Nat.zero_le _, rfl, rfl, Below.refl _ _⟩
  case round =>
    obtain ⟨j, y, rfl, hj, rfl, rfl, hBr⟩ := hrel
    have hbr := hBr.size
    by_cases hlt : j < n
    · have hi' : (j : Int) < (n : Int) := by omega
      rcases HV.out.2 with ⟨h, _⟩ | ⟨g, o, cap, h, hc1, hc2, hg, hpa⟩
      · exact absurd HV.out.1 (by rw [h]; simp; omega)
      · have hjl : j < l.length := by rw [HV.out.1]; exact hlt
        rw [HV.out.1] at h
        simp only [Value.slice.injEq] at h
        obtain ⟨rfl, -, rfl⟩ := h
        obtain ⟨d0, d1, d2, d3, d4, _⟩ := (hpa.carry hBr (show g < w.heap.size by omega)) j hjl
        have hgr : g < wr.heap.size := by omega
        clear hpa
        go_wp2_with fail
        all_goals
          go_roundg (n - (j + 1))
          case measure => omega
          case rel => exact ⟨j + 1, _, rfl, hlt, by first | rfl | simp, rfl, hBr.alloc hbr _⟩
    · have hi' : ¬ (j : Int) < (n : Int) := by omega
      by_cases hbig : (150 : Int) < (n : Int)
      · have z : decide ((150 : Int) < (n : Int)) = true := decide_eq_true hbig
        go_wp2_with fail
        go_ret
        exact ⟨true, rfl, fun h => (by cases h), hBr⟩
      · have z : decide ((150 : Int) < (n : Int)) = false := decide_eq_false hbig
        go_wp2_with fail
        all_goals
          go_ret
          exact ⟨_, rfl, fun _ => by omega, hBr⟩
end Go.Proofs.YtoopndgdaiblpaaDoor
