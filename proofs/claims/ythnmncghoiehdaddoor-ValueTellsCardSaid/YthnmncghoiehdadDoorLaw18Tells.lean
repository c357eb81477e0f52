/- The law ValueTells, walked: it answers true; what lay in memory stays. -/
import Derived.Test.YthnmncghoiehdadDoorTells
import Derived.Lib.AppendIntMem
import Derived.Deep.QuietTactic
import Derived.BigQuiet
import Derived.Handy
namespace Go.Proofs.YthnmncghoiehdadDoor
open Go.ChangeShapes Go.WideShapes Go.ChangeAt Go.RowKit

theorem below_nums {B : Nat} {a w : World} (h : Below B a w) (hB : B ≤ w.heap.size) : Below B a (numsIn w) := h.alloc hB _
theorem below_tests {B : Nat} {a w : World} (h : Below B a w) (hB : B ≤ w.heap.size) : Below B a (testsIn w) := h.alloc hB _

/-- The world in which the law's argument lies in a block of its own, behind alive. -/
def boxed (op s : ByteArray) (a b : Int) (w : World) : World := w.alloc (.cells #[.string op, .int .i64 a, .int .i64 b, .string s] 23)
theorem boxed_cell (op s : ByteArray) (a b : Int) (w : World) (j : Nat) : (numsIn (boxed op s a b w)).cell? ⟨w.heap.size, j, none⟩ = (#[.string op, .int .i64 a, .int .i64 b, .string s] : Array Value)[j]? := by
  have h := bcell (below_nums (Below.refl (boxed op s a b w).heap.size (boxed op s a b w)) (Nat.le_refl _)) w.heap.size j (by simp [boxed])
  rw [h]
  exact Lib.cell_of_heap (heap_alloc_new w _) j
theorem below_boxed (op s : ByteArray) (a b : Int) (w : World) : Below w.heap.size w (numsIn (boxed op s a b w)) := below_nums ((Below.refl _ _).alloc (Nat.le_refl _) _) (by simp [boxed])

theorem drewN_below {B : Nat} {a w : World} (h : Below B a w) (n : Nat) : Below B a (w.drewN n) := ⟨h.os, h.tape, h.output, h.size, h.block⟩

theorem ret_tt {x : Bool} (h : x = true) : Ending.returned (.bool x) = .returned (.bool true) := by rw [h]

theorem tells_long (op s : ByteArray) (a b : Int) (w : World) (hs : 3000 < (s.size : Int)) :
    Calls Tryd.prog 3 #[.agg #[.string op, .int .i64 a, .int .i64 b, .string s]] w fun e w' => e = .returned (.bool true) ∧ Below w.heap.size w w' := by
  have c0 := boxed_cell op s a b w 0
  have c1 := boxed_cell op s a b w 1
  have c2 := boxed_cell op s a b w 2
  have c3 := boxed_cell op s a b w 3
  unfold boxed at c0 c1 c2 c3
  simp only [List.getElem?_toArray, List.getElem?_cons_zero, List.getElem?_cons_succ] at c0 c1 c2 c3
  go_enter Tryd.func3, Tryd.ntmps3
  go_wp2_with (go_at_call 4; refine (alive_is _).mono ?_; rintro e w' ⟨rfl, rfl⟩)
  go_quiet (fail)
  go_wp2
  go_ret
  exact ⟨rfl, drewN_below (below_boxed op s a b w) _⟩

set_option maxHeartbeats 1000000 in
theorem tells_short (op s : ByteArray) (a b : Int) (w : World) (h0 : -9223372036854775808 ≤ a) (h1 : a ≤ 9223372036854775807) (hop : op.size ≤ 140737488355328) (hs : s.size ≤ 3000)
    (htab : Lib.TabIs Tryd.prog w "internal/strconv.uint64pow10" .u64 Lib.pow10Tab) :
    Calls Tryd.prog 3 #[.agg #[.string op, .int .i64 a, .int .i64 b, .string s]] w fun e w' => e = .returned (.bool true) ∧ Below w.heap.size w w' := by
  have T := Lib.hid (Lib.tabBelow_of_tabIs htab)
  clear htab
  have hs1 : (s.size : Int) ≤ 3000 := by omega
  have c0 := boxed_cell op s a b w 0
  have c1 := boxed_cell op s a b w 1
  have c2 := boxed_cell op s a b w 2
  have c3 := boxed_cell op s a b w 3
  unfold boxed at c0 c1 c2 c3
  simp only [List.getElem?_toArray, List.getElem?_cons_zero, List.getElem?_cons_succ] at c0 c1 c2 c3
  go_enter Tryd.func3, Tryd.ntmps3
  go_wp2_with (go_at_call 4; refine (alive_is _).mono ?_; rintro e w' ⟨rfl, rfl⟩)
  go_quiet (fail)
  have hB0 : Below w.heap.size w (numsIn (w.alloc (.cells #[.string op, .int .i64 a, .int .i64 b, .string s] 23))) := below_boxed op s a b w
  clear c0 c1 c2 c3
  generalize numsIn (w.alloc (.cells #[.string op, .int .i64 a, .int .i64 b, .string s] 23)) = w1 at *
  go_wp2_with (first
    | (go_at_call 5; refine (num_all _ _ _ _).mono ?_; rintro e w' ⟨rfl, rfl⟩)
    | (go_at_call 6; refine (refNum_all _ _ _ _).mono ?_; rintro e w' ⟨rfl, rfl⟩)
    | (go_at_call 7; refine (test_all _ _ _ _).mono ?_; rintro e w' ⟨rfl, rfl⟩)
    | (go_at_call 8; refine (refTest_all _ _ _ _).mono ?_; rintro e w' ⟨rfl, rfl⟩))
  have hB1 : Below w.heap.size w (testsIn (numsIn (w1.drewN nq))) := below_tests (below_nums (drewN_below hB0 nq) hB0.size) (below_nums (drewN_below hB0 nq) hB0.size).size
  clear hB0
  generalize testsIn (numsIn (w1.drewN nq)) = w2 at *
  refine (int_any a w2 h0 h1 (T.out _ hB1)).mono ?_
  rintro e w3 ⟨rfl, hB3⟩
  have hB4 := hB1.trans (hB3.mono hB1.size)
  clear hB1 hB3
  go_wp2_with fail
  refine (refInt_any (a.natAbs + 1) a _ h0 h1 (by omega)).mono ?_
  rintro e w5 ⟨rfl, hB5⟩
  have hB6 := hB4.trans (hB5.mono hB4.size)
  clear hB4 hB5
  go_wp2_with (first
    | (go_at_call 11; refine (bool_any _ _).mono ?_; rintro e w' ⟨rfl, rfl⟩)
    | (go_at_call 12; refine (refBool_any _ _).mono ?_; rintro e w' ⟨rfl, rfl⟩))
  refine (text_any s _ (by omega)).mono ?_
  rintro e w7 ⟨rfl, hB7⟩
  have hB8 := hB6.trans (hB7.mono hB6.size)
  clear hB6 hB7
  go_wp2_with fail
  refine (refQuote_any s _ (by omega)).mono ?_
  rintro e w' ⟨rfl, rfl⟩
  go_wp2_with fail
  refine (pair_any op s _ hop (by omega)).mono ?_
  rintro e w' ⟨rfl, rfl⟩
  go_wp2_with fail
  go_ret
  exact ⟨ret_tt (by unfold pairT; exact beq_self_eq_true _), hB8⟩
end Go.Proofs.YthnmncghoiehdadDoor
