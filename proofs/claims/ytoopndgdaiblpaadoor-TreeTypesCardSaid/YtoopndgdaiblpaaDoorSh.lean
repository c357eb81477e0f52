/- tree.shapeOf at every kind. -/
import Derived.Test.YtoopndgdaiblpaaDoorFit
namespace Go.Proofs.YtoopndgdaiblpaaDoor
open Go.ChangeShapes Go.WideShapes Go.ChangeAt Go.RowKit

set_option maxRecDepth 100000 in
set_option maxHeartbeats 1000000 in
theorem shapeK_0 (w : World) : Calls Tryd.prog 43 #[.int .i64 0] w fun e w' => e = .returned (.tuple #[.agg #[.int .i64 0, .int .i64 0, .int .i64 0, .int .i64 0, .bool false, .bool false, .bool false], .bool false]) ∧ Below w.heap.size w w' := by
  go_enter Tryd.func43, Tryd.ntmps43
  go_upto_if 40 with fail
  refine wp_cond_split rfl (fun h => (by cases h)) (fun h => ?_)
  clear h
  apply wp_skip
  go_step
  go_step
  apply wp_exit
  repeat (first | (with_reducible refine then_exit ?_) | (with_reducible refine in_ne (by decide) ?_))
  with_reducible refine in_eq ?_
  go_step
  go_step
  go_wp2_with fail
  refine bodyPost_ret (v := .tuple #[.agg #[.int .i64 0, .int .i64 0, .int .i64 0, .int .i64 0, .bool false, .bool false, .bool false], .bool false]) (by simp [results, Tryd.results43, go_sem]) rfl ?_
  exact ⟨rfl, by go_grown⟩
set_option maxRecDepth 100000 in
set_option maxHeartbeats 1000000 in
theorem shapeK_1 (w : World) : Calls Tryd.prog 43 #[.int .i64 1] w fun e w' => e = .returned (.tuple #[.agg #[.int .i64 1, .int .i64 0, .int .i64 0, .int .i64 0, .bool false, .bool false, .bool false], .bool true]) ∧ Below w.heap.size w w' := by
  go_enter Tryd.func43, Tryd.ntmps43
  go_upto_if 18 with fail
  refine wp_cond_split rfl (fun h => ?_) (fun h => (by cases h))
  clear h
  apply wp_exit
  repeat (first | (with_reducible refine then_exit ?_) | (with_reducible refine in_ne (by decide) ?_))
  with_reducible refine in_eq ?_
  go_upto_region 27 with fail
  go_cut [] from 6 (fun wx => wx = (w.alloc (.cells #[.int .i64 0, .int .i64 0, .int .i64 0, .int .i64 0, .bool false, .bool false, .bool false] 90)).alloc (.cells #[.int .i64 1, .int .i64 0, .int .i64 0, .int .i64 0, .bool false, .bool false, .bool false] 90))
  case first =>
    go_wp2_with fail
    go_meet
    case rel => rfl
  case rest =>
    subst hcut
    go_step
    apply wp_exit
    repeat (first | (with_reducible refine then_exit ?_) | (with_reducible refine in_ne (by decide) ?_))
    with_reducible refine in_eq ?_
    go_wp2_with fail
    refine bodyPost_ret (v := .tuple #[.agg #[.int .i64 1, .int .i64 0, .int .i64 0, .int .i64 0, .bool false, .bool false, .bool false], .bool true]) (by simp [results, Tryd.results43, go_sem]) rfl ?_
    exact ⟨rfl, by go_grown⟩

set_option maxRecDepth 100000 in
set_option maxHeartbeats 1000000 in
theorem shapeK_2 (w : World) : Calls Tryd.prog 43 #[.int .i64 2] w fun e w' => e = .returned (.tuple #[.agg #[.int .i64 0, .int .i64 9223372036854775807, .int .i64 0, .int .i64 0, .bool false, .bool false, .bool false], .bool true]) ∧ Below w.heap.size w w' := by
  go_enter Tryd.func43, Tryd.ntmps43
  go_upto_if 6 with fail
  refine wp_cond_split rfl (fun h => ?_) (fun h => (by cases h))
  clear h
  apply wp_exit
  repeat (first | (with_reducible refine then_exit ?_) | (with_reducible refine in_ne (by decide) ?_))
  with_reducible refine in_eq ?_
  go_upto_region 23 with fail
  go_cut [] from 6 (fun wx => wx = (w.alloc (.cells #[.int .i64 0, .int .i64 0, .int .i64 0, .int .i64 0, .bool false, .bool false, .bool false] 90)).alloc (.cells #[.int .i64 0, .int .i64 9223372036854775807, .int .i64 0, .int .i64 0, .bool false, .bool false, .bool false] 90))
  case first =>
    go_wp2_with fail
    go_meet
    case rel => rfl
  case rest =>
    subst hcut
    go_step
    apply wp_exit
    repeat (first | (with_reducible refine then_exit ?_) | (with_reducible refine in_ne (by decide) ?_))
    with_reducible refine in_eq ?_
    go_wp2_with fail
    refine bodyPost_ret (v := .tuple #[.agg #[.int .i64 0, .int .i64 9223372036854775807, .int .i64 0, .int .i64 0, .bool false, .bool false, .bool false], .bool true]) (by simp [results, Tryd.results43, go_sem]) rfl ?_
    exact ⟨rfl, by go_grown⟩

set_option maxRecDepth 100000 in
set_option maxHeartbeats 1000000 in
theorem shapeK_3 (w : World) : Calls Tryd.prog 43 #[.int .i64 3] w fun e w' => e = .returned (.tuple #[.agg #[.int .i64 0, .int .i64 1, .int .i64 0, .int .i64 0, .bool false, .bool false, .bool false], .bool true]) ∧ Below w.heap.size w w' := by
  go_enter Tryd.func43, Tryd.ntmps43
  go_upto_if 8 with fail
  refine wp_cond_split rfl (fun h => ?_) (fun h => (by cases h))
  clear h
  apply wp_exit
  repeat (first | (with_reducible refine then_exit ?_) | (with_reducible refine in_ne (by decide) ?_))
  with_reducible refine in_eq ?_
  go_upto_region 24 with fail
  go_cut [] from 6 (fun wx => wx = (w.alloc (.cells #[.int .i64 0, .int .i64 0, .int .i64 0, .int .i64 0, .bool false, .bool false, .bool false] 90)).alloc (.cells #[.int .i64 0, .int .i64 1, .int .i64 0, .int .i64 0, .bool false, .bool false, .bool false] 90))
  case first =>
    go_wp2_with fail
    go_meet
    case rel => rfl
  case rest =>
    subst hcut
    go_step
    apply wp_exit
    repeat (first | (with_reducible refine then_exit ?_) | (with_reducible refine in_ne (by decide) ?_))
    with_reducible refine in_eq ?_
    go_wp2_with fail
    refine bodyPost_ret (v := .tuple #[.agg #[.int .i64 0, .int .i64 1, .int .i64 0, .int .i64 0, .bool false, .bool false, .bool false], .bool true]) (by simp [results, Tryd.results43, go_sem]) rfl ?_
    exact ⟨rfl, by go_grown⟩

set_option maxRecDepth 100000 in
set_option maxHeartbeats 1000000 in
theorem shapeK_4 (w : World) : Calls Tryd.prog 43 #[.int .i64 4] w fun e w' => e = .returned (.tuple #[.agg #[.int .i64 4, .int .i64 0, .int .i64 0, .int .i64 0, .bool false, .bool false, .bool false], .bool true]) ∧ Below w.heap.size w w' := by
  go_enter Tryd.func43, Tryd.ntmps43
  go_upto_if 10 with fail
  refine wp_cond_split rfl (fun h => ?_) (fun h => (by cases h))
  clear h
  apply wp_exit
  repeat (first | (with_reducible refine then_exit ?_) | (with_reducible refine in_ne (by decide) ?_))
  with_reducible refine in_eq ?_
  go_upto_region 25 with fail
  go_cut [] from 6 (fun wx => wx = (w.alloc (.cells #[.int .i64 0, .int .i64 0, .int .i64 0, .int .i64 0, .bool false, .bool false, .bool false] 90)).alloc (.cells #[.int .i64 4, .int .i64 0, .int .i64 0, .int .i64 0, .bool false, .bool false, .bool false] 90))
  case first =>
    go_wp2_with fail
    go_meet
    case rel => rfl
  case rest =>
    subst hcut
    go_step
    apply wp_exit
    repeat (first | (with_reducible refine then_exit ?_) | (with_reducible refine in_ne (by decide) ?_))
    with_reducible refine in_eq ?_
    go_wp2_with fail
    refine bodyPost_ret (v := .tuple #[.agg #[.int .i64 4, .int .i64 0, .int .i64 0, .int .i64 0, .bool false, .bool false, .bool false], .bool true]) (by simp [results, Tryd.results43, go_sem]) rfl ?_
    exact ⟨rfl, by go_grown⟩

set_option maxRecDepth 100000 in
set_option maxHeartbeats 1000000 in
theorem shapeK_5 (w : World) : Calls Tryd.prog 43 #[.int .i64 5] w fun e w' => e = .returned (.tuple #[.agg #[.int .i64 0, .int .i64 0, .int .i64 0, .int .i64 0, .bool false, .bool false, .bool false], .bool true]) ∧ Below w.heap.size w w' := by
  go_enter Tryd.func43, Tryd.ntmps43
  go_upto_if 12 with fail
  refine wp_cond_split rfl (fun h => ?_) (fun h => (by cases h))
  clear h
  apply wp_exit
  repeat (first | (with_reducible refine then_exit ?_) | (with_reducible refine in_ne (by decide) ?_))
  with_reducible refine in_eq ?_
  go_step
  go_step
  apply wp_exit
  repeat (first | (with_reducible refine then_exit ?_) | (with_reducible refine in_ne (by decide) ?_))
  with_reducible refine in_eq ?_
  go_wp2_with fail
  refine bodyPost_ret (v := .tuple #[.agg #[.int .i64 0, .int .i64 0, .int .i64 0, .int .i64 0, .bool false, .bool false, .bool false], .bool true]) (by simp [results, Tryd.results43, go_sem]) rfl ?_
  exact ⟨rfl, by go_grown⟩

set_option maxRecDepth 100000 in
set_option maxHeartbeats 1000000 in
theorem shapeK_6 (w : World) : Calls Tryd.prog 43 #[.int .i64 6] w fun e w' => e = .returned (.tuple #[.agg #[.int .i64 1, .int .i64 0, .int .i64 1, .int .i64 0, .bool false, .bool false, .bool false], .bool true]) ∧ Below w.heap.size w w' := by
  go_enter Tryd.func43, Tryd.ntmps43
  go_upto_if 14 with fail
  refine wp_cond_split rfl (fun h => ?_) (fun h => (by cases h))
  clear h
  apply wp_skip
  go_upto_if 14 with fail
  refine wp_cond_split rfl (fun h => ?_) (fun h => (by cases h))
  clear h
  apply wp_exit
  repeat (first | (with_reducible refine then_exit ?_) | (with_reducible refine in_ne (by decide) ?_))
  with_reducible refine in_eq ?_
  go_upto_region 27 with fail
  go_cut [] from 6 (fun wx => wx = (w.alloc (.cells #[.int .i64 0, .int .i64 0, .int .i64 0, .int .i64 0, .bool false, .bool false, .bool false] 90)).alloc (.cells #[.int .i64 1, .int .i64 0, .int .i64 1, .int .i64 0, .bool false, .bool false, .bool false] 90))
  case first =>
    go_wp2_with fail
    go_meet
    case rel => rfl
  case rest =>
    subst hcut
    go_step
    apply wp_exit
    repeat (first | (with_reducible refine then_exit ?_) | (with_reducible refine in_ne (by decide) ?_))
    with_reducible refine in_eq ?_
    go_wp2_with fail
    refine bodyPost_ret (v := .tuple #[.agg #[.int .i64 1, .int .i64 0, .int .i64 1, .int .i64 0, .bool false, .bool false, .bool false], .bool true]) (by simp [results, Tryd.results43, go_sem]) rfl ?_
    exact ⟨rfl, by go_grown⟩

set_option maxRecDepth 100000 in
set_option maxHeartbeats 1000000 in
theorem shapeK_7 (w : World) : Calls Tryd.prog 43 #[.int .i64 7] w fun e w' => e = .returned (.tuple #[.agg #[.int .i64 0, .int .i64 0, .int .i64 2, .int .i64 0, .bool false, .bool false, .bool false], .bool true]) ∧ Below w.heap.size w w' := by
  go_enter Tryd.func43, Tryd.ntmps43
  go_upto_if 24 with fail
  refine wp_cond_split rfl (fun h => ?_) (fun h => (by cases h))
  clear h
  apply wp_skip
  go_upto_if 24 with fail
  refine wp_cond_split rfl (fun h => ?_) (fun h => (by cases h))
  clear h
  apply wp_exit
  repeat (first | (with_reducible refine then_exit ?_) | (with_reducible refine in_ne (by decide) ?_))
  with_reducible refine in_eq ?_
  go_upto_region 30 with fail
  go_cut [] from 6 (fun wx => wx = (w.alloc (.cells #[.int .i64 0, .int .i64 0, .int .i64 0, .int .i64 0, .bool false, .bool false, .bool false] 90)).alloc (.cells #[.int .i64 0, .int .i64 0, .int .i64 2, .int .i64 0, .bool false, .bool false, .bool false] 90))
  case first =>
    go_wp2_with fail
    go_meet
    case rel => rfl
  case rest =>
    subst hcut
    go_step
    apply wp_exit
    repeat (first | (with_reducible refine then_exit ?_) | (with_reducible refine in_ne (by decide) ?_))
    with_reducible refine in_eq ?_
    go_wp2_with fail
    refine bodyPost_ret (v := .tuple #[.agg #[.int .i64 0, .int .i64 0, .int .i64 2, .int .i64 0, .bool false, .bool false, .bool false], .bool true]) (by simp [results, Tryd.results43, go_sem]) rfl ?_
    exact ⟨rfl, by go_grown⟩

set_option maxRecDepth 100000 in
set_option maxHeartbeats 1000000 in
theorem shapeK_8 (w : World) : Calls Tryd.prog 43 #[.int .i64 8] w fun e w' => e = .returned (.tuple #[.agg #[.int .i64 1, .int .i64 0, .int .i64 2, .int .i64 0, .bool false, .bool false, .bool false], .bool true]) ∧ Below w.heap.size w w' := by
  go_enter Tryd.func43, Tryd.ntmps43
  go_upto_if 22 with fail
  refine wp_cond_split rfl (fun h => ?_) (fun h => (by cases h))
  clear h
  apply wp_exit
  repeat (first | (with_reducible refine then_exit ?_) | (with_reducible refine in_ne (by decide) ?_))
  with_reducible refine in_eq ?_
  go_upto_region 30 with fail
  go_cut [] from 6 (fun wx => wx = (w.alloc (.cells #[.int .i64 0, .int .i64 0, .int .i64 0, .int .i64 0, .bool false, .bool false, .bool false] 90)).alloc (.cells #[.int .i64 1, .int .i64 0, .int .i64 2, .int .i64 0, .bool false, .bool false, .bool false] 90))
  case first =>
    go_wp2_with fail
    go_meet
    case rel => rfl
  case rest =>
    subst hcut
    go_step
    apply wp_exit
    repeat (first | (with_reducible refine then_exit ?_) | (with_reducible refine in_ne (by decide) ?_))
    with_reducible refine in_eq ?_
    go_wp2_with fail
    refine bodyPost_ret (v := .tuple #[.agg #[.int .i64 1, .int .i64 0, .int .i64 2, .int .i64 0, .bool false, .bool false, .bool false], .bool true]) (by simp [results, Tryd.results43, go_sem]) rfl ?_
    exact ⟨rfl, by go_grown⟩

set_option maxRecDepth 100000 in
set_option maxHeartbeats 1000000 in
theorem shapeK_9 (w : World) : Calls Tryd.prog 43 #[.int .i64 9] w fun e w' => e = .returned (.tuple #[.agg #[.int .i64 1, .int .i64 0, .int .i64 2, .int .i64 0, .bool true, .bool false, .bool false], .bool true]) ∧ Below w.heap.size w w' := by
  go_enter Tryd.func43, Tryd.ntmps43
  go_upto_if 20 with fail
  refine wp_cond_split rfl (fun h => ?_) (fun h => (by cases h))
  clear h
  apply wp_exit
  repeat (first | (with_reducible refine then_exit ?_) | (with_reducible refine in_ne (by decide) ?_))
  with_reducible refine in_eq ?_
  go_upto_region 30 with fail
  go_cut [] from 6 (fun wx => wx = (w.alloc (.cells #[.int .i64 0, .int .i64 0, .int .i64 0, .int .i64 0, .bool false, .bool false, .bool false] 90)).alloc (.cells #[.int .i64 1, .int .i64 0, .int .i64 2, .int .i64 0, .bool true, .bool false, .bool false] 90))
  case first =>
    go_wp2_with fail
    go_meet
    case rel => rfl
  case rest =>
    subst hcut
    go_step
    apply wp_exit
    repeat (first | (with_reducible refine then_exit ?_) | (with_reducible refine in_ne (by decide) ?_))
    with_reducible refine in_eq ?_
    go_wp2_with fail
    refine bodyPost_ret (v := .tuple #[.agg #[.int .i64 1, .int .i64 0, .int .i64 2, .int .i64 0, .bool true, .bool false, .bool false], .bool true]) (by simp [results, Tryd.results43, go_sem]) rfl ?_
    exact ⟨rfl, by go_grown⟩

set_option maxRecDepth 100000 in
set_option maxHeartbeats 1000000 in
theorem shapeK_10 (w : World) : Calls Tryd.prog 43 #[.int .i64 10] w fun e w' => e = .returned (.tuple #[.agg #[.int .i64 0, .int .i64 0, .int .i64 2, .int .i64 0, .bool false, .bool false, .bool false], .bool true]) ∧ Below w.heap.size w w' := by
  go_enter Tryd.func43, Tryd.ntmps43
  go_upto_if 24 with fail
  refine wp_cond_split rfl (fun h => (by cases h)) (fun h => ?_)
  clear h
  go_upto_if 24 with fail
  refine wp_cond_split rfl (fun h => ?_) (fun h => (by cases h))
  clear h
  apply wp_skip
  go_upto_if 24 with fail
  refine wp_cond_split rfl (fun h => ?_) (fun h => (by cases h))
  clear h
  apply wp_exit
  repeat (first | (with_reducible refine then_exit ?_) | (with_reducible refine in_ne (by decide) ?_))
  with_reducible refine in_eq ?_
  go_upto_region 30 with fail
  go_cut [] from 6 (fun wx => wx = (w.alloc (.cells #[.int .i64 0, .int .i64 0, .int .i64 0, .int .i64 0, .bool false, .bool false, .bool false] 90)).alloc (.cells #[.int .i64 0, .int .i64 0, .int .i64 2, .int .i64 0, .bool false, .bool false, .bool false] 90))
  case first =>
    go_wp2_with fail
    go_meet
    case rel => rfl
  case rest =>
    subst hcut
    go_step
    apply wp_exit
    repeat (first | (with_reducible refine then_exit ?_) | (with_reducible refine in_ne (by decide) ?_))
    with_reducible refine in_eq ?_
    go_wp2_with fail
    refine bodyPost_ret (v := .tuple #[.agg #[.int .i64 0, .int .i64 0, .int .i64 2, .int .i64 0, .bool false, .bool false, .bool false], .bool true]) (by simp [results, Tryd.results43, go_sem]) rfl ?_
    exact ⟨rfl, by go_grown⟩

set_option maxRecDepth 100000 in
set_option maxHeartbeats 1000000 in
theorem shapeK_11 (w : World) : Calls Tryd.prog 43 #[.int .i64 11] w fun e w' => e = .returned (.tuple #[.agg #[.int .i64 0, .int .i64 0, .int .i64 3, .int .i64 0, .bool false, .bool false, .bool false], .bool true]) ∧ Below w.heap.size w w' := by
  go_enter Tryd.func43, Tryd.ntmps43
  go_upto_if 28 with fail
  refine wp_cond_split rfl (fun h => ?_) (fun h => (by cases h))
  clear h
  apply wp_exit
  repeat (first | (with_reducible refine then_exit ?_) | (with_reducible refine in_ne (by decide) ?_))
  with_reducible refine in_eq ?_
  go_upto_region 31 with fail
  go_cut [] from 6 (fun wx => wx = (w.alloc (.cells #[.int .i64 0, .int .i64 0, .int .i64 0, .int .i64 0, .bool false, .bool false, .bool false] 90)).alloc (.cells #[.int .i64 0, .int .i64 0, .int .i64 3, .int .i64 0, .bool false, .bool false, .bool false] 90))
  case first =>
    go_wp2_with fail
    go_meet
    case rel => rfl
  case rest =>
    subst hcut
    go_step
    apply wp_exit
    repeat (first | (with_reducible refine then_exit ?_) | (with_reducible refine in_ne (by decide) ?_))
    with_reducible refine in_eq ?_
    go_wp2_with fail
    refine bodyPost_ret (v := .tuple #[.agg #[.int .i64 0, .int .i64 0, .int .i64 3, .int .i64 0, .bool false, .bool false, .bool false], .bool true]) (by simp [results, Tryd.results43, go_sem]) rfl ?_
    exact ⟨rfl, by go_grown⟩

set_option maxRecDepth 100000 in
set_option maxHeartbeats 1000000 in
theorem shapeK_12 (w : World) : Calls Tryd.prog 43 #[.int .i64 12] w fun e w' => e = .returned (.tuple #[.agg #[.int .i64 3, .int .i64 0, .int .i64 2, .int .i64 0, .bool false, .bool false, .bool false], .bool true]) ∧ Below w.heap.size w w' := by
  go_enter Tryd.func43, Tryd.ntmps43
  go_upto_if 30 with fail
  refine wp_cond_split rfl (fun h => ?_) (fun h => (by cases h))
  clear h
  apply wp_exit
  repeat (first | (with_reducible refine then_exit ?_) | (with_reducible refine in_ne (by decide) ?_))
  with_reducible refine in_eq ?_
  go_upto_region 32 with fail
  go_cut [] from 6 (fun wx => wx = (w.alloc (.cells #[.int .i64 0, .int .i64 0, .int .i64 0, .int .i64 0, .bool false, .bool false, .bool false] 90)).alloc (.cells #[.int .i64 3, .int .i64 0, .int .i64 2, .int .i64 0, .bool false, .bool false, .bool false] 90))
  case first =>
    go_wp2_with fail
    go_meet
    case rel => rfl
  case rest =>
    subst hcut
    go_step
    apply wp_exit
    repeat (first | (with_reducible refine then_exit ?_) | (with_reducible refine in_ne (by decide) ?_))
    with_reducible refine in_eq ?_
    go_wp2_with fail
    refine bodyPost_ret (v := .tuple #[.agg #[.int .i64 3, .int .i64 0, .int .i64 2, .int .i64 0, .bool false, .bool false, .bool false], .bool true]) (by simp [results, Tryd.results43, go_sem]) rfl ?_
    exact ⟨rfl, by go_grown⟩

set_option maxRecDepth 100000 in
set_option maxHeartbeats 1000000 in
theorem shapeK_13 (w : World) : Calls Tryd.prog 43 #[.int .i64 13] w fun e w' => e = .returned (.tuple #[.agg #[.int .i64 0, .int .i64 0, .int .i64 2, .int .i64 0, .bool false, .bool false, .bool false], .bool true]) ∧ Below w.heap.size w w' := by
  go_enter Tryd.func43, Tryd.ntmps43
  go_upto_if 24 with fail
  refine wp_cond_split rfl (fun h => (by cases h)) (fun h => ?_)
  clear h
  go_upto_if 24 with fail
  refine wp_cond_split rfl (fun h => (by cases h)) (fun h => ?_)
  clear h
  go_upto_if 24 with fail
  refine wp_cond_split rfl (fun h => ?_) (fun h => (by cases h))
  clear h
  apply wp_exit
  repeat (first | (with_reducible refine then_exit ?_) | (with_reducible refine in_ne (by decide) ?_))
  with_reducible refine in_eq ?_
  go_upto_region 30 with fail
  go_cut [] from 6 (fun wx => wx = (w.alloc (.cells #[.int .i64 0, .int .i64 0, .int .i64 0, .int .i64 0, .bool false, .bool false, .bool false] 90)).alloc (.cells #[.int .i64 0, .int .i64 0, .int .i64 2, .int .i64 0, .bool false, .bool false, .bool false] 90))
  case first =>
    go_wp2_with fail
    go_meet
    case rel => rfl
  case rest =>
    subst hcut
    go_step
    apply wp_exit
    repeat (first | (with_reducible refine then_exit ?_) | (with_reducible refine in_ne (by decide) ?_))
    with_reducible refine in_eq ?_
    go_wp2_with fail
    refine bodyPost_ret (v := .tuple #[.agg #[.int .i64 0, .int .i64 0, .int .i64 2, .int .i64 0, .bool false, .bool false, .bool false], .bool true]) (by simp [results, Tryd.results43, go_sem]) rfl ?_
    exact ⟨rfl, by go_grown⟩

set_option maxRecDepth 100000 in
set_option maxHeartbeats 1000000 in
theorem shapeK_14 (w : World) : Calls Tryd.prog 43 #[.int .i64 14] w fun e w' => e = .returned (.tuple #[.agg #[.int .i64 2, .int .i64 0, .int .i64 0, .int .i64 0, .bool false, .bool false, .bool true], .bool true]) ∧ Below w.heap.size w w' := by
  go_enter Tryd.func43, Tryd.ntmps43
  go_upto_if 32 with fail
  refine wp_cond_split rfl (fun h => ?_) (fun h => (by cases h))
  clear h
  apply wp_exit
  repeat (first | (with_reducible refine then_exit ?_) | (with_reducible refine in_ne (by decide) ?_))
  with_reducible refine in_eq ?_
  go_upto_region 33 with fail
  go_cut [] from 6 (fun wx => wx = (w.alloc (.cells #[.int .i64 0, .int .i64 0, .int .i64 0, .int .i64 0, .bool false, .bool false, .bool false] 90)).alloc (.cells #[.int .i64 2, .int .i64 0, .int .i64 0, .int .i64 0, .bool false, .bool false, .bool true] 90))
  case first =>
    go_wp2_with fail
    go_meet
    case rel => rfl
  case rest =>
    subst hcut
    go_step
    apply wp_exit
    repeat (first | (with_reducible refine then_exit ?_) | (with_reducible refine in_ne (by decide) ?_))
    with_reducible refine in_eq ?_
    go_wp2_with fail
    refine bodyPost_ret (v := .tuple #[.agg #[.int .i64 2, .int .i64 0, .int .i64 0, .int .i64 0, .bool false, .bool false, .bool true], .bool true]) (by simp [results, Tryd.results43, go_sem]) rfl ?_
    exact ⟨rfl, by go_grown⟩

set_option maxRecDepth 100000 in
set_option maxHeartbeats 1000000 in
theorem shapeK_15 (w : World) : Calls Tryd.prog 43 #[.int .i64 15] w fun e w' => e = .returned (.tuple #[.agg #[.int .i64 1, .int .i64 0, .int .i64 1, .int .i64 0, .bool false, .bool false, .bool false], .bool true]) ∧ Below w.heap.size w w' := by
  go_enter Tryd.func43, Tryd.ntmps43
  go_upto_if 14 with fail
  refine wp_cond_split rfl (fun h => (by cases h)) (fun h => ?_)
  clear h
  go_upto_if 14 with fail
  refine wp_cond_split rfl (fun h => ?_) (fun h => (by cases h))
  clear h
  apply wp_skip
  go_upto_if 14 with fail
  refine wp_cond_split rfl (fun h => ?_) (fun h => (by cases h))
  clear h
  apply wp_exit
  repeat (first | (with_reducible refine then_exit ?_) | (with_reducible refine in_ne (by decide) ?_))
  with_reducible refine in_eq ?_
  go_upto_region 27 with fail
  go_cut [] from 6 (fun wx => wx = (w.alloc (.cells #[.int .i64 0, .int .i64 0, .int .i64 0, .int .i64 0, .bool false, .bool false, .bool false] 90)).alloc (.cells #[.int .i64 1, .int .i64 0, .int .i64 1, .int .i64 0, .bool false, .bool false, .bool false] 90))
  case first =>
    go_wp2_with fail
    go_meet
    case rel => rfl
  case rest =>
    subst hcut
    go_step
    apply wp_exit
    repeat (first | (with_reducible refine then_exit ?_) | (with_reducible refine in_ne (by decide) ?_))
    with_reducible refine in_eq ?_
    go_wp2_with fail
    refine bodyPost_ret (v := .tuple #[.agg #[.int .i64 1, .int .i64 0, .int .i64 1, .int .i64 0, .bool false, .bool false, .bool false], .bool true]) (by simp [results, Tryd.results43, go_sem]) rfl ?_
    exact ⟨rfl, by go_grown⟩

set_option maxRecDepth 100000 in
set_option maxHeartbeats 1000000 in
theorem shapeK_16 (w : World) : Calls Tryd.prog 43 #[.int .i64 16] w fun e w' => e = .returned (.tuple #[.agg #[.int .i64 1, .int .i64 0, .int .i64 1, .int .i64 0, .bool false, .bool false, .bool false], .bool true]) ∧ Below w.heap.size w w' := by
  go_enter Tryd.func43, Tryd.ntmps43
  go_upto_if 14 with fail
  refine wp_cond_split rfl (fun h => (by cases h)) (fun h => ?_)
  clear h
  go_upto_if 14 with fail
  refine wp_cond_split rfl (fun h => (by cases h)) (fun h => ?_)
  clear h
  go_upto_if 14 with fail
  refine wp_cond_split rfl (fun h => ?_) (fun h => (by cases h))
  clear h
  apply wp_exit
  repeat (first | (with_reducible refine then_exit ?_) | (with_reducible refine in_ne (by decide) ?_))
  with_reducible refine in_eq ?_
  go_upto_region 27 with fail
  go_cut [] from 6 (fun wx => wx = (w.alloc (.cells #[.int .i64 0, .int .i64 0, .int .i64 0, .int .i64 0, .bool false, .bool false, .bool false] 90)).alloc (.cells #[.int .i64 1, .int .i64 0, .int .i64 1, .int .i64 0, .bool false, .bool false, .bool false] 90))
  case first =>
    go_wp2_with fail
    go_meet
    case rel => rfl
  case rest =>
    subst hcut
    go_step
    apply wp_exit
    repeat (first | (with_reducible refine then_exit ?_) | (with_reducible refine in_ne (by decide) ?_))
    with_reducible refine in_eq ?_
    go_wp2_with fail
    refine bodyPost_ret (v := .tuple #[.agg #[.int .i64 1, .int .i64 0, .int .i64 1, .int .i64 0, .bool false, .bool false, .bool false], .bool true]) (by simp [results, Tryd.results43, go_sem]) rfl ?_
    exact ⟨rfl, by go_grown⟩

set_option maxRecDepth 100000 in
set_option maxHeartbeats 1000000 in
theorem shapeK_17 (w : World) : Calls Tryd.prog 43 #[.int .i64 17] w fun e w' => e = .returned (.tuple #[.agg #[.int .i64 1, .int .i64 0, .int .i64 (-1), .int .i64 0, .bool false, .bool false, .bool false], .bool true]) ∧ Below w.heap.size w w' := by
  go_enter Tryd.func43, Tryd.ntmps43
  go_upto_if 34 with fail
  refine wp_cond_split rfl (fun h => ?_) (fun h => (by cases h))
  clear h
  apply wp_exit
  repeat (first | (with_reducible refine then_exit ?_) | (with_reducible refine in_ne (by decide) ?_))
  with_reducible refine in_eq ?_
  go_upto_region 34 with fail
  go_cut [] from 6 (fun wx => wx = (w.alloc (.cells #[.int .i64 0, .int .i64 0, .int .i64 0, .int .i64 0, .bool false, .bool false, .bool false] 90)).alloc (.cells #[.int .i64 1, .int .i64 0, .int .i64 (-1), .int .i64 0, .bool false, .bool false, .bool false] 90))
  case first =>
    go_wp2_with fail
    go_meet
    case rel => rfl
  case rest =>
    subst hcut
    go_step
    apply wp_exit
    repeat (first | (with_reducible refine then_exit ?_) | (with_reducible refine in_ne (by decide) ?_))
    with_reducible refine in_eq ?_
    go_wp2_with fail
    refine bodyPost_ret (v := .tuple #[.agg #[.int .i64 1, .int .i64 0, .int .i64 (-1), .int .i64 0, .bool false, .bool false, .bool false], .bool true]) (by simp [results, Tryd.results43, go_sem]) rfl ?_
    exact ⟨rfl, by go_grown⟩

set_option maxRecDepth 100000 in
set_option maxHeartbeats 1000000 in
theorem shapeK_18 (w : World) : Calls Tryd.prog 43 #[.int .i64 18] w fun e w' => e = .returned (.tuple #[.agg #[.int .i64 0, .int .i64 0, .int .i64 (-1), .int .i64 0, .bool false, .bool true, .bool false], .bool true]) ∧ Below w.heap.size w w' := by
  go_enter Tryd.func43, Tryd.ntmps43
  go_upto_if 36 with fail
  refine wp_cond_split rfl (fun h => ?_) (fun h => (by cases h))
  clear h
  apply wp_exit
  repeat (first | (with_reducible refine then_exit ?_) | (with_reducible refine in_ne (by decide) ?_))
  with_reducible refine in_eq ?_
  go_upto_region 35 with fail
  go_cut [] from 6 (fun wx => wx = (w.alloc (.cells #[.int .i64 0, .int .i64 0, .int .i64 0, .int .i64 0, .bool false, .bool false, .bool false] 90)).alloc (.cells #[.int .i64 0, .int .i64 0, .int .i64 (-1), .int .i64 0, .bool false, .bool true, .bool false] 90))
  case first =>
    go_wp2_with fail
    go_meet
    case rel => rfl
  case rest =>
    subst hcut
    go_step
    apply wp_exit
    repeat (first | (with_reducible refine then_exit ?_) | (with_reducible refine in_ne (by decide) ?_))
    with_reducible refine in_eq ?_
    go_wp2_with fail
    refine bodyPost_ret (v := .tuple #[.agg #[.int .i64 0, .int .i64 0, .int .i64 (-1), .int .i64 0, .bool false, .bool true, .bool false], .bool true]) (by simp [results, Tryd.results43, go_sem]) rfl ?_
    exact ⟨rfl, by go_grown⟩

set_option maxRecDepth 100000 in
set_option maxHeartbeats 1000000 in
theorem shapeK_19 (w : World) : Calls Tryd.prog 43 #[.int .i64 19] w fun e w' => e = .returned (.tuple #[.agg #[.int .i64 0, .int .i64 0, .int .i64 1, .int .i64 1, .bool false, .bool false, .bool false], .bool true]) ∧ Below w.heap.size w w' := by
  go_enter Tryd.func43, Tryd.ntmps43
  go_upto_if 40 with fail
  refine wp_cond_split rfl (fun h => ?_) (fun h => (by cases h))
  clear h
  apply wp_exit
  repeat (first | (with_reducible refine then_exit ?_) | (with_reducible refine in_ne (by decide) ?_))
  with_reducible refine in_eq ?_
  go_upto_region 37 with fail
  go_cut [] from 6 (fun wx => wx = (w.alloc (.cells #[.int .i64 0, .int .i64 0, .int .i64 0, .int .i64 0, .bool false, .bool false, .bool false] 90)).alloc (.cells #[.int .i64 0, .int .i64 0, .int .i64 0, .int .i64 1, .bool false, .bool false, .bool false] 90))
  case first =>
    go_wp2_with fail
    go_meet
    case rel => rfl
  case rest =>
    subst hcut
    go_upto_region 38 with fail
    go_cut [] from 6 (fun wx => wx = (w.alloc (.cells #[.int .i64 0, .int .i64 0, .int .i64 0, .int .i64 0, .bool false, .bool false, .bool false] 90)).alloc (.cells #[.int .i64 0, .int .i64 0, .int .i64 1, .int .i64 1, .bool false, .bool false, .bool false] 90))
    case first =>
      go_wp2_with fail
      go_meet
      case rel => rfl
    case rest =>
      subst hcut
      go_step
      apply wp_exit
      repeat (first | (with_reducible refine then_exit ?_) | (with_reducible refine in_ne (by decide) ?_))
      with_reducible refine in_eq ?_
      go_wp2_with fail
      refine bodyPost_ret (v := .tuple #[.agg #[.int .i64 0, .int .i64 0, .int .i64 1, .int .i64 1, .bool false, .bool false, .bool false], .bool true]) (by simp [results, Tryd.results43, go_sem]) rfl ?_
      exact ⟨rfl, by go_grown⟩

set_option maxRecDepth 100000 in
set_option maxHeartbeats 1000000 in
theorem shapeK_20 (w : World) : Calls Tryd.prog 43 #[.int .i64 20] w fun e w' => e = .returned (.tuple #[.agg #[.int .i64 0, .int .i64 0, .int .i64 1, .int .i64 2, .bool false, .bool false, .bool false], .bool true]) ∧ Below w.heap.size w w' := by
  go_enter Tryd.func43, Tryd.ntmps43
  go_upto_if 38 with fail
  refine wp_cond_split rfl (fun h => ?_) (fun h => (by cases h))
  clear h
  apply wp_exit
  repeat (first | (with_reducible refine then_exit ?_) | (with_reducible refine in_ne (by decide) ?_))
  with_reducible refine in_eq ?_
  go_upto_region 38 with fail
  go_cut [] from 6 (fun wx => wx = (w.alloc (.cells #[.int .i64 0, .int .i64 0, .int .i64 0, .int .i64 0, .bool false, .bool false, .bool false] 90)).alloc (.cells #[.int .i64 0, .int .i64 0, .int .i64 1, .int .i64 2, .bool false, .bool false, .bool false] 90))
  case first =>
    go_wp2_with fail
    go_meet
    case rel => rfl
  case rest =>
    subst hcut
    go_step
    apply wp_exit
    repeat (first | (with_reducible refine then_exit ?_) | (with_reducible refine in_ne (by decide) ?_))
    with_reducible refine in_eq ?_
    go_wp2_with fail
    refine bodyPost_ret (v := .tuple #[.agg #[.int .i64 0, .int .i64 0, .int .i64 1, .int .i64 2, .bool false, .bool false, .bool false], .bool true]) (by simp [results, Tryd.results43, go_sem]) rfl ?_
    exact ⟨rfl, by go_grown⟩
end Go.Proofs.YtoopndgdaiblpaaDoor
