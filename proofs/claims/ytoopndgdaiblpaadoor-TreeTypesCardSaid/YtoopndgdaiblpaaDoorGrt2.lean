/- trefoillaw02.great, and how long the parts' texts are. -/
import Derived.Test.YtoopndgdaiblpaaDoorGrt
namespace Go.Proofs.YtoopndgdaiblpaaDoor
open Go.ChangeShapes Go.WideShapes Go.ChangeAt Go.RowKit

def lenSum (l : List Pt) : Nat := (l.map fun p => min p.s.size 10000).sum
theorem lenSum_take {l : List Pt} {j : Nat} (h : j < l.length) : lenSum (l.take (j + 1)) = lenSum (l.take j) + min l[j].s.size 10000 := by
  unfold lenSum; rw [List.take_succ_eq_append_getElem h, List.map_append, List.sum_append]; simp
theorem lenSum_mem : ∀ {l : List Pt} {p : Pt}, p ∈ l → min p.s.size 10000 ≤ lenSum l
  | a :: r, p, h => by
    simp only [lenSum, List.map_cons, List.sum_cons]
    rcases List.mem_cons.1 h with rfl | h
    · omega
    · have := lenSum_mem h
      simp only [lenSum] at this
      omega
def great2Gives (l : List Pt) (w : World) (e : Ending) (w' : World) : Prop := ∃ b, e = .returned (.bool b) ∧ (b = false → l.length ≤ 150 ∧ ∀ p ∈ l, p.s.size ≤ 5000) ∧ Below w.heap.size w w'

set_option maxRecDepth 100000 in
/-- Whether parts are more than are looked at: no more than so many, if not, and no text longer than so. -/
theorem great2_any (B : Nat) (l : List Pt) (v : Value) (w : World) (hB : B ≤ w.heap.size) (hl : (l.length : Int) ≤ 140737488355328) (hv : PV w B v l) :
    Calls Tryd.prog 9 #[v] w (great2Gives l w) := by
  obtain ⟨n, hn⟩ : ∃ n, l.length = n := ⟨_, rfl⟩
  obtain ⟨x, c, rfl⟩ : ∃ x c, v = .slice x n c := by
    rcases hv with ⟨rfl, x, c, h⟩ | ⟨g, o, c, h, _⟩
    · exact ⟨x, c, by rw [h, ← hn]; rfl⟩
    · exact ⟨_, _, by rw [h, hn]⟩
  have HV := Lib.hid (And.intro hn hv)
  rw [hn] at hl
  clear hv hn
  go_enter Tryd.func9, Tryd.ntmps9
  go_wp2_with fail
  go_loopg [3, 8] n (fun gk s i wr => ∃ (j : Nat) (y : Int), gk = n - j ∧ j ≤ n ∧ i = .int .i64 j ∧ s = .int .i64 y ∧ y = lenSum (l.take j) ∧ 0 ≤ y ∧ y ≤ 10000 * (j : Int) ∧ Below w.heap.size w wr)
  case atStart => exact ⟨0, 0, rfl, Nat.zero_le _, rfl, rfl, rfl, by omega, by omega, Below.refl _ _⟩
  case round =>
    obtain ⟨j, y, rfl, hj, rfl, rfl, hy, hy0, hy1, hBr⟩ := hrel
    have hbr := hBr.size
    have HY := Lib.hid hy
    clear hy
    by_cases hlt : j < n
    · have hi' : (j : Int) < (n : Int) := by omega
      rcases HV.out.2 with ⟨h, _⟩ | ⟨g, o, cap, h, hc1, hc2, hg, hpa⟩
      · exact absurd HV.out.1 (by rw [h]; simp; omega)
      · have hjl : j < l.length := by rw [HV.out.1]; exact hlt
        rw [HV.out.1] at h
        simp only [Value.slice.injEq] at h
        obtain ⟨rfl, -, rfl⟩ := h
        obtain ⟨d0, d1, d2, d3, d4, _⟩ := (hpa.carry hBr (show g < w.heap.size by omega)) j hjl
        have hgr : g < wr.heap.size := by omega
        have HS := Lib.hid (lenSum_take hjl)
        obtain ⟨sj, hsj⟩ : ∃ sj, l[j].s = sj := ⟨_, rfl⟩
        rw [hsj] at d1 HS
        clear hpa hsj
        by_cases hss : (sj.size : Int) ≤ 10000
        all_goals
          go_wp2_with fail
          all_goals
            go_roundg (n - (j + 1))
            case measure => omega
            case rel => exact ⟨j + 1, _, rfl, hlt, by first | rfl | simp, rfl, by have h1 := HS.out; have h2 := HY.out; omega, by omega, by omega, hBr.alloc hbr _⟩
    · have hi' : ¬ (j : Int) < (n : Int) := by omega
      have hjn : l.take j = l := by rw [show j = l.length by have := HV.out.1; omega, List.take_length]
      have HY2 := Lib.hid (HY.out.trans (by rw [hjn]))
      clear hjn
      by_cases hbig : (150 : Int) < (n : Int)
      · have z : decide ((150 : Int) < (n : Int)) = true := decide_eq_true hbig
        go_wp2_with fail
        go_ret
        exact ⟨true, rfl, fun h => (by cases h), hBr⟩
      · have z : decide ((150 : Int) < (n : Int)) = false := decide_eq_false hbig
        by_cases h5 : (5000 : Int) < y
        · have z5 : decide ((5000 : Int) < y) = true := decide_eq_true h5
          go_wp2_with fail
          go_ret
          exact ⟨true, rfl, fun h => (by cases h), hBr⟩
        · have z5 : decide ((5000 : Int) < y) = false := decide_eq_false h5
          go_wp2_with fail
          go_ret
          exact ⟨false, rfl, fun _ => ⟨by have := HV.out.1; omega, fun p hp => by have h1 := lenSum_mem hp; have h2 := HY2.out; omega⟩, hBr⟩
end Go.Proofs.YtoopndgdaiblpaaDoor
