/- tree.fits at a variable and at an application. -/
import Derived.Test.YtoopndgdaiblpaaDoorOfs
import Derived.Deep.QuietTactic
import Derived.Deep.Cut
import Derived.BigQuiet
namespace Go.Proofs.YtoopndgdaiblpaaDoor
open Go.ChangeShapes Go.WideShapes Go.ChangeAt Go.RowKit

theorem dN_below {B : Nat} {a w : World} (h : Below B a w) (n : Nat) : Below B a (w.drewN n) := ⟨h.os, h.tape, h.output, h.size, h.block⟩
theorem cell_old {w : World} {o : Obj} {a : Addr} {v : Value} (h : w.cell? a = some v) : (w.alloc o).cell? a = some v := by
  have hl : a.block < w.heap.size := by
    rcases Nat.lt_or_ge a.block w.heap.size with h' | h'
    · exact h'
    · unfold World.cell? at h
      rw [Array.getElem?_eq_none h'] at h; cases h
  rw [World.cell?_of_block (heap_old hl)]; exact h

def shapeV (s a : Int) : Value := .agg #[.int .i64 s, .int .i64 0, .int .i64 a, .int .i64 0, .bool false, .bool false, .bool false]

theorem then_exit {K : Act → World → Prop} {Q : Exit → Act → World → Prop} {id : Nat} {a : Act} {w : World} (h : Q (.exit id) a w) : Exit.then K Q (.exit id) a w := h
theorem in_ne {Q : Exit → Act → World → Prop} {id id' : Nat} {a : Act} {w : World} (hne : id' ≠ id) (h : Q (.exit id') a w) : Exit.inBlock id Q (.exit id') a w := by
  show if id' = id then Q .normal a w else Q (.exit id') a w
  rw [if_neg hne]; exact h
theorem in_eq {Q : Exit → Act → World → Prop} {id : Nat} {a : Act} {w : World} (h : Q .normal a w) : Exit.inBlock id Q (.exit id) a w := by
  show if id = id then Q .normal a w else Q (.exit id) a w
  rw [if_pos rfl]; exact h

set_option maxRecDepth 100000 in
theorem shape_1 (w : World) : Calls Tryd.prog 43 #[.int .i64 1] w fun e w' => e = .returned (.tuple #[shapeV 1 0, .bool true]) ∧ Below w.heap.size w w' := by
  go_enter Tryd.func43, Tryd.ntmps43
  go_upto_if 18 with fail
  refine wp_cond_split rfl (fun h => ?_) (fun h => (by cases h))
  clear h
  apply wp_exit
  repeat (first | (with_reducible refine then_exit ?_) | (with_reducible refine in_ne (by decide) ?_))
  with_reducible refine in_eq ?_
  go_upto_region 27 with fail
  go_cut [] from 6 (fun wx => wx = (w.alloc (.cells #[.int .i64 0, .int .i64 0, .int .i64 0, .int .i64 0, .bool false, .bool false, .bool false] 90)).alloc (.cells #[.int .i64 1, .int .i64 0, .int .i64 0, .int .i64 0, .bool false, .bool false, .bool false] 90))
  case first =>
    go_wp2_with fail
    go_meet
    case rel => rfl
  case rest =>
    subst hcut
    go_step
    apply wp_exit
    repeat (first | (with_reducible refine then_exit ?_) | (with_reducible refine in_ne (by decide) ?_))
    with_reducible refine in_eq ?_
    go_wp2_with fail
    refine bodyPost_ret (v := .tuple #[shapeV 1 0, .bool true]) (by simp [results, Tryd.results43, go_sem, shapeV]) rfl ?_
    exact ⟨rfl, by go_grown⟩
set_option maxRecDepth 100000 in
theorem shape_7 (w : World) : Calls Tryd.prog 43 #[.int .i64 7] w fun e w' => e = .returned (.tuple #[shapeV 0 2, .bool true]) ∧ Below w.heap.size w w' := by
  go_enter Tryd.func43, Tryd.ntmps43
  go_upto_if 24 with fail
  refine wp_cond_split rfl (fun h => ?_) (fun h => (by cases h))
  clear h
  apply wp_skip
  go_upto_if 24 with fail
  refine wp_cond_split rfl (fun h => ?_) (fun h => (by cases h))
  clear h
  apply wp_exit
  repeat (first | (with_reducible refine then_exit ?_) | (with_reducible refine in_ne (by decide) ?_))
  with_reducible refine in_eq ?_
  go_upto_region 30 with fail
  go_cut [] from 6 (fun wx => wx = (w.alloc (.cells #[.int .i64 0, .int .i64 0, .int .i64 0, .int .i64 0, .bool false, .bool false, .bool false] 90)).alloc (.cells #[.int .i64 0, .int .i64 0, .int .i64 2, .int .i64 0, .bool false, .bool false, .bool false] 90))
  case first =>
    go_wp2_with fail
    go_meet
    case rel => rfl
  case rest =>
    subst hcut
    go_step
    apply wp_exit
    repeat (first | (with_reducible refine then_exit ?_) | (with_reducible refine in_ne (by decide) ?_))
    with_reducible refine in_eq ?_
    go_wp2_with fail
    refine bodyPost_ret (v := .tuple #[shapeV 0 2, .bool true]) (by simp [results, Tryd.results43, go_sem, shapeV]) rfl ?_
    exact ⟨rfl, by go_grown⟩

theorem text_1 (s : ByteArray) (T : TypeId) (v : Value) (w : World) (hg : w.cell? ⟨0, 0, none⟩ = some (.iface T v)) (hs : s.size ≤ maxLen) :
    Calls Tryd.prog 44 #[.int .i64 1, .string s] w fun e w' => e = .returned (.bool (nameB s)) ∧ Drawn w w' := by
  go_enter Tryd.func44, Tryd.ntmps44
  go_wp2_with (go_at_call 46; refine (isName_any s T v _ hg hs).mono ?_; rintro e w' ⟨rfl, n, rfl⟩)
  go_ret
  exact ⟨rfl, n, rfl⟩
theorem text_0 (w : World) : Calls Tryd.prog 44 #[.int .i64 0, .string ⟨#[]⟩] w fun e w' => e = .returned (.bool true) ∧ Drawn w w' := by
  go_enter Tryd.func44, Tryd.ntmps44
  go_wp2_with fail
  go_ret
  exact ⟨rfl, 0, rfl⟩

set_option maxRecDepth 100000 in
/-- A variable fits. -/
theorem fits_var (b o : Nat) (d : Int) (s : ByteArray) (T : TypeId) (v : Value) (x3 x4 x5 x6 : Option Addr) (e3 e4 e5 e6 : Nat) (w : World) (hg : w.cell? ⟨0, 0, none⟩ = some (.iface T v)) (hs : s.size ≤ maxLen) (hn : nameB s = true) (hb : b < w.heap.size)
    (h0 : w.cell? ⟨b, o, none⟩ = some (.int .i64 1)) (h1 : w.cell? ⟨b, o + 1, none⟩ = some (.string s)) (h2 : w.cell? ⟨b, o + 2, none⟩ = some (.int .i64 0)) (h3 : w.cell? ⟨b, o + 3, none⟩ = some (.slice x3 0 e3)) (h4 : w.cell? ⟨b, o + 4, none⟩ = some (.slice x4 0 e4)) (h5 : w.cell? ⟨b, o + 5, none⟩ = some (.slice x5 0 e5)) (h6 : w.cell? ⟨b, o + 6, none⟩ = some (.slice x6 0 e6)) :
    Calls Tryd.prog 32 #[.agg #[.pointer (some ⟨b, o, none⟩), .pointer none, .int .i64 d]] w fun e w' => e = .returned (.tuple #[.slice x5 0 e5, .bool true]) ∧ Below w.heap.size w w' := by
  go_enter Tryd.func32, Tryd.ntmps32
  go_wp2_with (go_at_call 43; refine (shape_1 _).mono ?_; rintro e w2 ⟨rfl, hB2⟩; unfold shapeV)
  have hs2 := hB2.size
  simp only [World.size_alloc] at hs2
  have k0 := (hB2.cell (p := ⟨b, o, none⟩) (by simp; omega)).trans ((cell_old h0))
  have k1 := (hB2.cell (p := ⟨b, o + 1, none⟩) (by simp; omega)).trans ((cell_old h1))
  have k2 := (hB2.cell (p := ⟨b, o + 2, none⟩) (by simp; omega)).trans ((cell_old h2))
  have k3 := (hB2.cell (p := ⟨b, o + 3, none⟩) (by simp; omega)).trans ((cell_old h3))
  have k4 := (hB2.cell (p := ⟨b, o + 4, none⟩) (by simp; omega)).trans ((cell_old h4))
  have k5 := (hB2.cell (p := ⟨b, o + 5, none⟩) (by simp; omega)).trans ((cell_old h5))
  have k6 := (hB2.cell (p := ⟨b, o + 6, none⟩) (by simp; omega)).trans ((cell_old h6))
  have kg := (hB2.cell (p := ⟨0, 0, none⟩) (by simp <;> omega)).trans ((cell_old hg))
  have hbw2 : b < w2.heap.size := by omega
  have CT : Hid (∀ n, Calls Tryd.prog 44 #[.int .i64 1, .string s] ((w2.alloc (.cells #[.int .i64 1, .int .i64 0, .int .i64 0, .int .i64 0, .bool false, .bool false, .bool false] 90)).drewN n) fun e w' => e = .returned (.bool true) ∧ ∃ m, w' = ((w2.alloc (.cells #[.int .i64 1, .int .i64 0, .int .i64 0, .int .i64 0, .bool false, .bool false, .bool false] 90)).drewN n).drewN m) := Lib.hid fun n => by
    have h := text_1 s T v ((w2.alloc (.cells #[.int .i64 1, .int .i64 0, .int .i64 0, .int .i64 0, .bool false, .bool false, .bool false] 90)).drewN n) (by simpa using cell_old kg) hs
    rw [hn] at h
    exact h
  clear h0 h1 h2 h3 h4 h5 h6 hg hn
  go_wp2_with fail
  go_quiet (first | (go_at_call 44; refine Calls.quiet_of (CT.out _)))
  go_wp2_with fail
  go_quiet (fail)
  go_wp2_with fail
  go_quiet (fail)
  go_wp2_with fail
  refine bodyPost_ret (v := .tuple #[.slice x5 0 e5, .bool true]) (by simp [results, Tryd.results32, go_sem]) rfl ?_
  exact ⟨rfl, dN_below (dN_below ((((Below.refl w.heap.size w).alloc (Nat.le_refl _) _).trans (hB2.mono (by simp))).alloc (by omega) _) _) _⟩
set_option maxRecDepth 100000 in
/-- An application fits. -/
theorem fits_app (b o : Nat) (d : Int) (x3 x4 x5 x6 : Option Addr) (e3 e4 e5 e6 : Nat) (w : World) (hb : b < w.heap.size)
    (h0 : w.cell? ⟨b, o, none⟩ = some (.int .i64 7)) (h1 : w.cell? ⟨b, o + 1, none⟩ = some (.string ⟨#[]⟩)) (h2 : w.cell? ⟨b, o + 2, none⟩ = some (.int .i64 0)) (h3 : w.cell? ⟨b, o + 3, none⟩ = some (.slice x3 2 e3)) (h4 : w.cell? ⟨b, o + 4, none⟩ = some (.slice x4 0 e4)) (h5 : w.cell? ⟨b, o + 5, none⟩ = some (.slice x5 0 e5)) (h6 : w.cell? ⟨b, o + 6, none⟩ = some (.slice x6 0 e6)) :
    Calls Tryd.prog 32 #[.agg #[.pointer (some ⟨b, o, none⟩), .pointer none, .int .i64 d]] w fun e w' => e = .returned (.tuple #[.slice x5 0 e5, .bool true]) ∧ Below w.heap.size w w' := by
  go_enter Tryd.func32, Tryd.ntmps32
  go_wp2_with (go_at_call 43; refine (shape_7 _).mono ?_; rintro e w2 ⟨rfl, hB2⟩; unfold shapeV)
  have hs2 := hB2.size
  simp only [World.size_alloc] at hs2
  have k0 := (hB2.cell (p := ⟨b, o, none⟩) (by simp; omega)).trans ((cell_old h0))
  have k1 := (hB2.cell (p := ⟨b, o + 1, none⟩) (by simp; omega)).trans ((cell_old h1))
  have k2 := (hB2.cell (p := ⟨b, o + 2, none⟩) (by simp; omega)).trans ((cell_old h2))
  have k3 := (hB2.cell (p := ⟨b, o + 3, none⟩) (by simp; omega)).trans ((cell_old h3))
  have k4 := (hB2.cell (p := ⟨b, o + 4, none⟩) (by simp; omega)).trans ((cell_old h4))
  have k5 := (hB2.cell (p := ⟨b, o + 5, none⟩) (by simp; omega)).trans ((cell_old h5))
  have k6 := (hB2.cell (p := ⟨b, o + 6, none⟩) (by simp; omega)).trans ((cell_old h6))
  have hbw2 : b < w2.heap.size := by omega
  have CT : Hid (∀ n, Calls Tryd.prog 44 #[.int .i64 0, .string ⟨#[]⟩] ((w2.alloc (.cells #[.int .i64 0, .int .i64 0, .int .i64 2, .int .i64 0, .bool false, .bool false, .bool false] 90)).drewN n) fun e w' => e = .returned (.bool true) ∧ ∃ m, w' = ((w2.alloc (.cells #[.int .i64 0, .int .i64 0, .int .i64 2, .int .i64 0, .bool false, .bool false, .bool false] 90)).drewN n).drewN m) := Lib.hid fun n => by
    exact text_0 _
  clear h0 h1 h2 h3 h4 h5 h6
  go_wp2_with fail
  go_quiet (first | (go_at_call 44; refine Calls.quiet_of (CT.out _)))
  go_wp2_with fail
  go_quiet (fail)
  go_wp2_with fail
  go_quiet (fail)
  go_wp2_with fail
  refine bodyPost_ret (v := .tuple #[.slice x5 0 e5, .bool true]) (by simp [results, Tryd.results32, go_sem]) rfl ?_
  exact ⟨rfl, dN_below (dN_below ((((Below.refl w.heap.size w).alloc (Nat.le_refl _) _).trans (hB2.mono (by simp))).alloc (by omega) _) _) _⟩
end Go.Proofs.YtoopndgdaiblpaaDoor
