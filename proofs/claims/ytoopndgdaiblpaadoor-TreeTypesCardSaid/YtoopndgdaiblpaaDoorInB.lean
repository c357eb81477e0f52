/- How long a list of parts that came in may be. -/
import Derived.Test.YtoopndgdaiblpaaDoorIn
import Derived.SizedLaws
namespace Go.Proofs.YtoopndgdaiblpaaDoor
open Go.ChangeShapes Go.WideShapes Go.ChangeAt Go.RowKit
open Go.Deep Go.Joins

theorem partBytes : 1 ≤ Tryd.prog.bytesOf 54 := of_decide_eq_true (by kernel_rfl)
theorem parts_reach {H : Type} {enc : TypeId × Value → H} {W : World} {base : Nat} {spare : Nat → Bool} {held : Bool} {fuel : Nat} {cs : List Value} {x : DataW H × List MemPlace} (h : DataW.trod enc Tryd.prog W base spare held fuel 22 cs = some x)
    {v : Value} {l : List Pt} (hc : cs = [v]) (hp : PV W W.heap.size v l) (hw : ∀ n ∈ x.1.weights Tryd.prog 22, n ≤ reachBytes) : (l.length : Int) ≤ 140737488355328 := by
  have hr : reachBytes ≤ 140737488355328 := by decide
  have hb := partBytes
  rcases open_slice Tryd.underlying22 h with ⟨rfl, rfl⟩ | ⟨a, len, cap, m, n, D, Pl, rfl, _, hlc, hmx, hm, rfl, hel⟩
  · rcases hp with ⟨rfl, _⟩ | ⟨g, o, c, hv, _⟩
    · simp
    · rw [hv] at hc; simp at hc
  · have hl : l.length = len := by
      rcases hp with ⟨rfl, x, c, hv⟩ | ⟨g, o, c, hv, _⟩
      · rw [hv] at hc; simp at hc; exact hc.2.1.symm
      · rw [hv] at hc; simp at hc; exact hc.2.1.symm
    have := hw _ (by simp only [DataW.weights, Tryd.underlying22]; exact List.mem_cons_self ..)
    simp only [List.length_map, List.length_range] at this
    have h2 : (len + (m - len)) * 1 ≤ (len + (m - len)) * Tryd.prog.bytesOf 54 := Nat.mul_le_mul_left _ hb
    omega
end Go.Proofs.YtoopndgdaiblpaaDoor
