/- tree.fits at an expression, by the profile of its shape. -/
import Derived.Test.YtoopndgdaiblpaaDoorFxA
import Derived.Test.YtoopndgdaiblpaaDoorFxB
import Derived.Test.YtoopndgdaiblpaaDoorFxC
import Derived.Test.YtoopndgdaiblpaaDoorFxD
namespace Go.Proofs.YtoopndgdaiblpaaDoor
open Go.ChangeShapes Go.WideShapes Go.ChangeAt Go.RowKit

def fitGives (r : Bool) (ty : Value) (w : World) (e : Ending) (w' : World) : Prop := ∃ v, e = .returned (.tuple #[v, .bool r]) ∧ (r = true → v = ty) ∧ Below w.heap.size w w'
def fitP (tb : Bool) (n mo tt : Int) (nt : Nat) : Bool := tb && !decide (n < 0) && !decide (mo < n) && decide ((nt : Int) = tt)

theorem fp_plain (b o : Nat) (d k n ss mo aa tt : Int) (s : ByteArray) (x3 x4 x5 x6 : Option Addr) (na nn nt nm e3 e4 e5 e6 : Nat) (w : World) (hb : b < w.heap.size) (h0 : w.cell? ⟨b, o, none⟩ = some (.int .i64 k)) (h1 : w.cell? ⟨b, o + 1, none⟩ = some (.string s)) (h2 : w.cell? ⟨b, o + 2, none⟩ = some (.int .i64 n)) (h3 : w.cell? ⟨b, o + 3, none⟩ = some (.slice x3 na e3)) (h4 : w.cell? ⟨b, o + 4, none⟩ = some (.slice x4 nn e4)) (h5 : w.cell? ⟨b, o + 5, none⟩ = some (.slice x5 nt e5)) (h6 : w.cell? ⟨b, o + 6, none⟩ = some (.slice x6 nm e6)) (haa : aa ≠ -1)
    (CSh : Hid (∀ V, Below w.heap.size w V → Calls Tryd.prog 43 #[.int .i64 k] V fun e w' => e = .returned (.tuple #[.agg #[.int .i64 ss, .int .i64 mo, .int .i64 aa, .int .i64 tt, .bool false, .bool false, .bool false], .bool true]) ∧ Below V.heap.size V w')) (tb : Bool)
    (CTx : Hid (∀ V, Below w.heap.size w V → Calls Tryd.prog 44 #[.int .i64 ss, .string s] V fun e w' => e = .returned (.bool tb) ∧ ∃ q, w' = V.drewN q)) :
    Calls Tryd.prog 32 #[.agg #[.pointer (some ⟨b, o, none⟩), .pointer none, .int .i64 d]] w (fitGives (fitP tb n mo tt nt && decide (nm = 0) && decide ((na : Int) = aa) && decide (nn = 0)) (.slice x5 nt e5) w) := by
  cases tb with
  | false =>
    rw [show (fitP false n mo tt nt && decide (nm = 0) && decide ((na : Int) = aa) && decide (nn = 0)) = false from by simp [fitP]]
    exact (fx_1 b o d k n ss mo aa tt false false false s x3 x4 x5 x6 na nn nt nm e3 e4 e5 e6 w hb h0 h1 h2 h3 h4 h5 h6  CSh CTx).mono fun _ _ h => ⟨_, h.1, (fun h => by cases h), h.2⟩
  | true =>
    by_cases c2 : n < 0
    · rw [show (fitP true n mo tt nt && decide (nm = 0) && decide ((na : Int) = aa) && decide (nn = 0)) = false from by simp [fitP, c2]]
      exact (fx_2 b o d k n ss mo aa tt false false false s x3 x4 x5 x6 na nn nt nm e3 e4 e5 e6 w hb h0 h1 h2 h3 h4 h5 h6 (decide_eq_true c2) CSh CTx).mono fun _ _ h => ⟨_, h.1, (fun h => by cases h), h.2⟩
    by_cases c3 : mo < n
    · rw [show (fitP true n mo tt nt && decide (nm = 0) && decide ((na : Int) = aa) && decide (nn = 0)) = false from by simp [fitP, c3]]
      exact (fx_3 b o d k n ss mo aa tt false false false s x3 x4 x5 x6 na nn nt nm e3 e4 e5 e6 w hb h0 h1 h2 h3 h4 h5 h6 (decide_eq_false c2) (decide_eq_true c3) CSh CTx).mono fun _ _ h => ⟨_, h.1, (fun h => by cases h), h.2⟩
    by_cases c4 : nm = 0
    rotate_left
    · rw [show (fitP true n mo tt nt && decide (nm = 0) && decide ((na : Int) = aa) && decide (nn = 0)) = false from by simp [c4]]
      exact (fx_4 b o d k n ss mo aa tt false false s x3 x4 x5 x6 na nn nt nm e3 e4 e5 e6 w hb h0 h1 h2 h3 h4 h5 h6 (decide_eq_false c2) (decide_eq_false c3) (by omega) CSh CTx).mono fun _ _ h => ⟨_, h.1, (fun h => by cases h), h.2⟩
    subst c4
    by_cases c5 : (na : Int) = aa
    rotate_left
    · rw [show (fitP true n mo tt nt && decide (0 = 0) && decide ((na : Int) = aa) && decide (nn = 0)) = false from by simp [c5]]
      exact (fx_5 b o d k n ss mo aa tt false false s x3 x4 x5 x6 na nn nt e3 e4 e5 e6 w hb h0 h1 h2 h3 h4 h5 h6 (decide_eq_false c2) (decide_eq_false c3) (by simpa using haa) (by simpa using c5) CSh CTx).mono fun _ _ h => ⟨_, h.1, (fun h => by cases h), h.2⟩
    by_cases c6 : (nt : Int) = tt
    rotate_left
    · rw [show (fitP true n mo tt nt && decide (0 = 0) && decide ((na : Int) = aa) && decide (nn = 0)) = false from by simp [fitP, c6]]
      exact (fx_6 b o d k n ss mo aa tt false false s x3 x4 x5 x6 na nn nt e3 e4 e5 e6 w hb h0 h1 h2 h3 h4 h5 h6 (decide_eq_false c2) (decide_eq_false c3) (by simpa using haa) (by simpa using c5) (by simpa using c6) CSh CTx).mono fun _ _ h => ⟨_, h.1, (fun h => by cases h), h.2⟩
    rw [show (fitP true n mo tt nt && decide (0 = 0) && decide ((na : Int) = aa) && decide (nn = 0)) = ((nn : Int) == 0) from by simp only [fitP, c2, c3, c6, c5]; by_cases c9 : nn = 0 <;> simp [c9]]
    exact (fx_11 b o d k n ss mo aa tt  s x3 x4 x5 x6 na nn nt e3 e4 e5 e6 w hb h0 h1 h2 h3 h4 h5 h6 (decide_eq_false c2) (decide_eq_false c3) (by simpa using haa) (by simpa using c5) (by simpa using c6) _ rfl CSh CTx).mono fun _ _ h => ⟨_, h.1, (fun _ => rfl), h.2⟩

theorem fp_rec (b o : Nat) (ga oa : Nat) (d k n ss mo aa tt : Int) (s : ByteArray) (x4 x5 x6 : Option Addr) (na nn nt nm e3 e4 e5 e6 : Nat) (w : World) (hb : b < w.heap.size) (h0 : w.cell? ⟨b, o, none⟩ = some (.int .i64 k)) (h1 : w.cell? ⟨b, o + 1, none⟩ = some (.string s)) (h2 : w.cell? ⟨b, o + 2, none⟩ = some (.int .i64 n)) (h3 : w.cell? ⟨b, o + 3, none⟩ = some (.slice (some ⟨ga, oa, none⟩) na e3)) (h4 : w.cell? ⟨b, o + 4, none⟩ = some (.slice x4 nn e4)) (h5 : w.cell? ⟨b, o + 5, none⟩ = some (.slice x5 nt e5)) (h6 : w.cell? ⟨b, o + 6, none⟩ = some (.slice x6 nm e6)) (k0 : Int) (hna : (na : Int) = aa → 0 < na) (hga : ga < w.heap.size) (hk0 : w.cell? ⟨ga, oa, none⟩ = some (.int .i64 k0)) (haa : aa ≠ -1)
    (CSh : Hid (∀ V, Below w.heap.size w V → Calls Tryd.prog 43 #[.int .i64 k] V fun e w' => e = .returned (.tuple #[.agg #[.int .i64 ss, .int .i64 mo, .int .i64 aa, .int .i64 tt, .bool true, .bool false, .bool false], .bool true]) ∧ Below V.heap.size V w')) (tb : Bool)
    (CTx : Hid (∀ V, Below w.heap.size w V → Calls Tryd.prog 44 #[.int .i64 ss, .string s] V fun e w' => e = .returned (.bool tb) ∧ ∃ q, w' = V.drewN q)) :
    Calls Tryd.prog 32 #[.agg #[.pointer (some ⟨b, o, none⟩), .pointer none, .int .i64 d]] w (fitGives (fitP tb n mo tt nt && decide (nm = 0) && decide ((na : Int) = aa) && decide (k0 = 6) && decide (nn = 0)) (.slice x5 nt e5) w) := by
  cases tb with
  | false =>
    rw [show (fitP false n mo tt nt && decide (nm = 0) && decide ((na : Int) = aa) && decide (k0 = 6) && decide (nn = 0)) = false from by simp [fitP]]
    exact (fx_1 b o d k n ss mo aa tt true false false s (some ⟨ga, oa, none⟩) x4 x5 x6 na nn nt nm e3 e4 e5 e6 w hb h0 h1 h2 h3 h4 h5 h6  CSh CTx).mono fun _ _ h => ⟨_, h.1, (fun h => by cases h), h.2⟩
  | true =>
    by_cases c2 : n < 0
    · rw [show (fitP true n mo tt nt && decide (nm = 0) && decide ((na : Int) = aa) && decide (k0 = 6) && decide (nn = 0)) = false from by simp [fitP, c2]]
      exact (fx_2 b o d k n ss mo aa tt true false false s (some ⟨ga, oa, none⟩) x4 x5 x6 na nn nt nm e3 e4 e5 e6 w hb h0 h1 h2 h3 h4 h5 h6 (decide_eq_true c2) CSh CTx).mono fun _ _ h => ⟨_, h.1, (fun h => by cases h), h.2⟩
    by_cases c3 : mo < n
    · rw [show (fitP true n mo tt nt && decide (nm = 0) && decide ((na : Int) = aa) && decide (k0 = 6) && decide (nn = 0)) = false from by simp [fitP, c3]]
      exact (fx_3 b o d k n ss mo aa tt true false false s (some ⟨ga, oa, none⟩) x4 x5 x6 na nn nt nm e3 e4 e5 e6 w hb h0 h1 h2 h3 h4 h5 h6 (decide_eq_false c2) (decide_eq_true c3) CSh CTx).mono fun _ _ h => ⟨_, h.1, (fun h => by cases h), h.2⟩
    by_cases c4 : nm = 0
    rotate_left
    · rw [show (fitP true n mo tt nt && decide (nm = 0) && decide ((na : Int) = aa) && decide (k0 = 6) && decide (nn = 0)) = false from by simp [c4]]
      exact (fx_4 b o d k n ss mo aa tt true false s (some ⟨ga, oa, none⟩) x4 x5 x6 na nn nt nm e3 e4 e5 e6 w hb h0 h1 h2 h3 h4 h5 h6 (decide_eq_false c2) (decide_eq_false c3) (by omega) CSh CTx).mono fun _ _ h => ⟨_, h.1, (fun h => by cases h), h.2⟩
    subst c4
    by_cases c5 : (na : Int) = aa
    rotate_left
    · rw [show (fitP true n mo tt nt && decide (0 = 0) && decide ((na : Int) = aa) && decide (k0 = 6) && decide (nn = 0)) = false from by simp [c5]]
      exact (fx_5 b o d k n ss mo aa tt true false s (some ⟨ga, oa, none⟩) x4 x5 x6 na nn nt e3 e4 e5 e6 w hb h0 h1 h2 h3 h4 h5 h6 (decide_eq_false c2) (decide_eq_false c3) (by simpa using haa) (by simpa using c5) CSh CTx).mono fun _ _ h => ⟨_, h.1, (fun h => by cases h), h.2⟩
    by_cases c6 : (nt : Int) = tt
    rotate_left
    · rw [show (fitP true n mo tt nt && decide (0 = 0) && decide ((na : Int) = aa) && decide (k0 = 6) && decide (nn = 0)) = false from by simp [fitP, c6]]
      exact (fx_6 b o d k n ss mo aa tt true false s (some ⟨ga, oa, none⟩) x4 x5 x6 na nn nt e3 e4 e5 e6 w hb h0 h1 h2 h3 h4 h5 h6 (decide_eq_false c2) (decide_eq_false c3) (by simpa using haa) (by simpa using c5) (by simpa using c6) CSh CTx).mono fun _ _ h => ⟨_, h.1, (fun h => by cases h), h.2⟩
    by_cases c8 : k0 = 6
    rotate_left
    · rw [show (fitP true n mo tt nt && decide (0 = 0) && decide ((na : Int) = aa) && decide (k0 = 6) && decide (nn = 0)) = false from by simp [c8]]
      exact (fx_10 b o ga oa d k n ss mo aa tt false s x4 x5 x6 na nn nt e3 e4 e5 e6 w hb h0 h1 h2 h3 h4 h5 h6 k0 (hna ‹_›) hga hk0 (decide_eq_false c2) (decide_eq_false c3) (by simpa using haa) (by simpa using c5) (by simpa using c6) (by simpa using c8) CSh CTx).mono fun _ _ h => ⟨_, h.1, (fun h => by cases h), h.2⟩
    rw [show (fitP true n mo tt nt && decide (0 = 0) && decide ((na : Int) = aa) && decide (k0 = 6) && decide (nn = 0)) = ((nn : Int) == 0) from by simp only [fitP, c2, c3, c6, c5, c8]; by_cases c9 : nn = 0 <;> simp [c9]]
    exact (fx_12 b o ga oa d k n ss mo aa tt  s x4 x5 x6 na nn nt e3 e4 e5 e6 w hb h0 h1 h2 h3 h4 h5 h6 k0 (hna ‹_›) hga hk0 (decide_eq_false c2) (decide_eq_false c3) (by simpa using haa) (by simpa using c5) (by simpa using c6) (by simpa using c8) _ rfl CSh CTx).mono fun _ _ h => ⟨_, h.1, (fun _ => rfl), h.2⟩

theorem fp_mem (b o : Nat) (d k n ss mo aa tt : Int) (s : ByteArray) (x3 x4 x5 x6 : Option Addr) (na nn nt nm e3 e4 e5 e6 : Nat) (w : World) (hb : b < w.heap.size) (h0 : w.cell? ⟨b, o, none⟩ = some (.int .i64 k)) (h1 : w.cell? ⟨b, o + 1, none⟩ = some (.string s)) (h2 : w.cell? ⟨b, o + 2, none⟩ = some (.int .i64 n)) (h3 : w.cell? ⟨b, o + 3, none⟩ = some (.slice x3 na e3)) (h4 : w.cell? ⟨b, o + 4, none⟩ = some (.slice x4 nn e4)) (h5 : w.cell? ⟨b, o + 5, none⟩ = some (.slice x5 nt e5)) (h6 : w.cell? ⟨b, o + 6, none⟩ = some (.slice x6 nm e6)) (haa : aa ≠ -1)
    (CSh : Hid (∀ V, Below w.heap.size w V → Calls Tryd.prog 43 #[.int .i64 k] V fun e w' => e = .returned (.tuple #[.agg #[.int .i64 ss, .int .i64 mo, .int .i64 aa, .int .i64 tt, .bool false, .bool false, .bool true], .bool true]) ∧ Below V.heap.size V w')) (tb : Bool)
    (CTx : Hid (∀ V, Below w.heap.size w V → Calls Tryd.prog 44 #[.int .i64 ss, .string s] V fun e w' => e = .returned (.bool tb) ∧ ∃ q, w' = V.drewN q)) :
    Calls Tryd.prog 32 #[.agg #[.pointer (some ⟨b, o, none⟩), .pointer none, .int .i64 d]] w (fitGives (fitP tb n mo tt nt && decide ((na : Int) = aa) && decide (nn = 0)) (.slice x5 nt e5) w) := by
  cases tb with
  | false =>
    rw [show (fitP false n mo tt nt && decide ((na : Int) = aa) && decide (nn = 0)) = false from by simp [fitP]]
    exact (fx_1 b o d k n ss mo aa tt false false true s x3 x4 x5 x6 na nn nt nm e3 e4 e5 e6 w hb h0 h1 h2 h3 h4 h5 h6  CSh CTx).mono fun _ _ h => ⟨_, h.1, (fun h => by cases h), h.2⟩
  | true =>
    by_cases c2 : n < 0
    · rw [show (fitP true n mo tt nt && decide ((na : Int) = aa) && decide (nn = 0)) = false from by simp [fitP, c2]]
      exact (fx_2 b o d k n ss mo aa tt false false true s x3 x4 x5 x6 na nn nt nm e3 e4 e5 e6 w hb h0 h1 h2 h3 h4 h5 h6 (decide_eq_true c2) CSh CTx).mono fun _ _ h => ⟨_, h.1, (fun h => by cases h), h.2⟩
    by_cases c3 : mo < n
    · rw [show (fitP true n mo tt nt && decide ((na : Int) = aa) && decide (nn = 0)) = false from by simp [fitP, c3]]
      exact (fx_3 b o d k n ss mo aa tt false false true s x3 x4 x5 x6 na nn nt nm e3 e4 e5 e6 w hb h0 h1 h2 h3 h4 h5 h6 (decide_eq_false c2) (decide_eq_true c3) CSh CTx).mono fun _ _ h => ⟨_, h.1, (fun h => by cases h), h.2⟩
    by_cases c5 : (na : Int) = aa
    rotate_left
    · rw [show (fitP true n mo tt nt && decide ((na : Int) = aa) && decide (nn = 0)) = false from by simp [c5]]
      exact (fx_8 b o d k n ss mo aa tt false false s x3 x4 x5 x6 na nn nt nm e3 e4 e5 e6 w hb h0 h1 h2 h3 h4 h5 h6 (decide_eq_false c2) (decide_eq_false c3) (by simpa using haa) (by simpa using c5) CSh CTx).mono fun _ _ h => ⟨_, h.1, (fun h => by cases h), h.2⟩
    by_cases c6 : (nt : Int) = tt
    rotate_left
    · rw [show (fitP true n mo tt nt && decide ((na : Int) = aa) && decide (nn = 0)) = false from by simp [fitP, c6]]
      exact (fx_9 b o d k n ss mo aa tt false false s x3 x4 x5 x6 na nn nt nm e3 e4 e5 e6 w hb h0 h1 h2 h3 h4 h5 h6 (decide_eq_false c2) (decide_eq_false c3) (by simpa using haa) (by simpa using c5) (by simpa using c6) CSh CTx).mono fun _ _ h => ⟨_, h.1, (fun h => by cases h), h.2⟩
    rw [show (fitP true n mo tt nt && decide ((na : Int) = aa) && decide (nn = 0)) = ((nn : Int) == 0) from by simp only [fitP, c2, c3, c6, c5]; by_cases c9 : nn = 0 <;> simp [c9]]
    exact (fx_17 b o d k n ss mo aa tt  s x3 x4 x5 x6 na nn nt nm e3 e4 e5 e6 w hb h0 h1 h2 h3 h4 h5 h6 (decide_eq_false c2) (decide_eq_false c3) (by simpa using haa) (by simpa using c5) (by simpa using c6) _ rfl CSh CTx).mono fun _ _ h => ⟨_, h.1, (fun _ => rfl), h.2⟩

theorem fp_new (b o : Nat) (d k n ss mo tt : Int) (s : ByteArray) (x3 x4 x5 x6 : Option Addr) (na nn nt nm e3 e4 e5 e6 : Nat) (w : World) (hb : b < w.heap.size) (h0 : w.cell? ⟨b, o, none⟩ = some (.int .i64 k)) (h1 : w.cell? ⟨b, o + 1, none⟩ = some (.string s)) (h2 : w.cell? ⟨b, o + 2, none⟩ = some (.int .i64 n)) (h3 : w.cell? ⟨b, o + 3, none⟩ = some (.slice x3 na e3)) (h4 : w.cell? ⟨b, o + 4, none⟩ = some (.slice x4 nn e4)) (h5 : w.cell? ⟨b, o + 5, none⟩ = some (.slice x5 nt e5)) (h6 : w.cell? ⟨b, o + 6, none⟩ = some (.slice x6 nm e6))
    (CSh : Hid (∀ V, Below w.heap.size w V → Calls Tryd.prog 43 #[.int .i64 k] V fun e w' => e = .returned (.tuple #[.agg #[.int .i64 ss, .int .i64 mo, .int .i64 (-1), .int .i64 tt, .bool false, .bool false, .bool false], .bool true]) ∧ Below V.heap.size V w')) (tb : Bool)
    (CTx : Hid (∀ V, Below w.heap.size w V → Calls Tryd.prog 44 #[.int .i64 ss, .string s] V fun e w' => e = .returned (.bool tb) ∧ ∃ q, w' = V.drewN q)) :
    Calls Tryd.prog 32 #[.agg #[.pointer (some ⟨b, o, none⟩), .pointer none, .int .i64 d]] w (fitGives (fitP tb n mo tt nt && decide (nm = 0) && decide (nn = 0)) (.slice x5 nt e5) w) := by
  cases tb with
  | false =>
    rw [show (fitP false n mo tt nt && decide (nm = 0) && decide (nn = 0)) = false from by simp [fitP]]
    exact (fx_1 b o d k n ss mo (-1) tt false false false s x3 x4 x5 x6 na nn nt nm e3 e4 e5 e6 w hb h0 h1 h2 h3 h4 h5 h6  CSh CTx).mono fun _ _ h => ⟨_, h.1, (fun h => by cases h), h.2⟩
  | true =>
    by_cases c2 : n < 0
    · rw [show (fitP true n mo tt nt && decide (nm = 0) && decide (nn = 0)) = false from by simp [fitP, c2]]
      exact (fx_2 b o d k n ss mo (-1) tt false false false s x3 x4 x5 x6 na nn nt nm e3 e4 e5 e6 w hb h0 h1 h2 h3 h4 h5 h6 (decide_eq_true c2) CSh CTx).mono fun _ _ h => ⟨_, h.1, (fun h => by cases h), h.2⟩
    by_cases c3 : mo < n
    · rw [show (fitP true n mo tt nt && decide (nm = 0) && decide (nn = 0)) = false from by simp [fitP, c3]]
      exact (fx_3 b o d k n ss mo (-1) tt false false false s x3 x4 x5 x6 na nn nt nm e3 e4 e5 e6 w hb h0 h1 h2 h3 h4 h5 h6 (decide_eq_false c2) (decide_eq_true c3) CSh CTx).mono fun _ _ h => ⟨_, h.1, (fun h => by cases h), h.2⟩
    by_cases c4 : nm = 0
    rotate_left
    · rw [show (fitP true n mo tt nt && decide (nm = 0) && decide (nn = 0)) = false from by simp [c4]]
      exact (fx_4 b o d k n ss mo (-1) tt false false s x3 x4 x5 x6 na nn nt nm e3 e4 e5 e6 w hb h0 h1 h2 h3 h4 h5 h6 (decide_eq_false c2) (decide_eq_false c3) (by omega) CSh CTx).mono fun _ _ h => ⟨_, h.1, (fun h => by cases h), h.2⟩
    subst c4
    by_cases c6 : (nt : Int) = tt
    rotate_left
    · rw [show (fitP true n mo tt nt && decide (0 = 0) && decide (nn = 0)) = false from by simp [fitP, c6]]
      exact (fx_7 b o d k n ss mo (-1) tt false false s x3 x4 x5 x6 na nn nt e3 e4 e5 e6 w hb h0 h1 h2 h3 h4 h5 h6 (decide_eq_false c2) (decide_eq_false c3) (by rfl) (by simpa using c6) CSh CTx).mono fun _ _ h => ⟨_, h.1, (fun h => by cases h), h.2⟩
    rw [show (fitP true n mo tt nt && decide (0 = 0) && decide (nn = 0)) = ((nn : Int) == 0) from by simp only [fitP, c2, c3, c6]; by_cases c9 : nn = 0 <;> simp [c9]]
    exact (fx_13 b o d k n ss mo (-1) tt  s x3 x4 x5 x6 na nn nt e3 e4 e5 e6 w hb h0 h1 h2 h3 h4 h5 h6 (decide_eq_false c2) (decide_eq_false c3) (by rfl) (by simpa using c6) _ rfl CSh CTx).mono fun _ _ h => ⟨_, h.1, (fun _ => rfl), h.2⟩

theorem fp_clone (b o : Nat) (d k n ss mo tt : Int) (s : ByteArray) (x3 x4 x5 x6 : Option Addr) (na nn nt nm e3 e4 e5 e6 : Nat) (w : World) (hb : b < w.heap.size) (h0 : w.cell? ⟨b, o, none⟩ = some (.int .i64 k)) (h1 : w.cell? ⟨b, o + 1, none⟩ = some (.string s)) (h2 : w.cell? ⟨b, o + 2, none⟩ = some (.int .i64 n)) (h3 : w.cell? ⟨b, o + 3, none⟩ = some (.slice x3 na e3)) (h4 : w.cell? ⟨b, o + 4, none⟩ = some (.slice x4 nn e4)) (h5 : w.cell? ⟨b, o + 5, none⟩ = some (.slice x5 nt e5)) (h6 : w.cell? ⟨b, o + 6, none⟩ = some (.slice x6 nm e6))
    (CSh : Hid (∀ V, Below w.heap.size w V → Calls Tryd.prog 43 #[.int .i64 k] V fun e w' => e = .returned (.tuple #[.agg #[.int .i64 ss, .int .i64 mo, .int .i64 (-1), .int .i64 tt, .bool false, .bool true, .bool false], .bool true]) ∧ Below V.heap.size V w')) (tb : Bool)
    (CTx : Hid (∀ V, Below w.heap.size w V → Calls Tryd.prog 44 #[.int .i64 ss, .string s] V fun e w' => e = .returned (.bool tb) ∧ ∃ q, w' = V.drewN q)) (ab : Bool) (CAn : Hid (∀ V, Below w.heap.size w V → Calls Tryd.prog 45 #[.slice x4 nn e4] V fun e w' => e = .returned (.bool ab) ∧ ∃ q, w' = V.drewN q)) :
    Calls Tryd.prog 32 #[.agg #[.pointer (some ⟨b, o, none⟩), .pointer none, .int .i64 d]] w (fitGives (fitP tb n mo tt nt && decide (nm = 0) && (decide (nn = na) && ab)) (.slice x5 nt e5) w) := by
  cases tb with
  | false =>
    rw [show (fitP false n mo tt nt && decide (nm = 0) && (decide (nn = na) && ab)) = false from by simp [fitP]]
    exact (fx_1 b o d k n ss mo (-1) tt false true false s x3 x4 x5 x6 na nn nt nm e3 e4 e5 e6 w hb h0 h1 h2 h3 h4 h5 h6  CSh CTx).mono fun _ _ h => ⟨_, h.1, (fun h => by cases h), h.2⟩
  | true =>
    by_cases c2 : n < 0
    · rw [show (fitP true n mo tt nt && decide (nm = 0) && (decide (nn = na) && ab)) = false from by simp [fitP, c2]]
      exact (fx_2 b o d k n ss mo (-1) tt false true false s x3 x4 x5 x6 na nn nt nm e3 e4 e5 e6 w hb h0 h1 h2 h3 h4 h5 h6 (decide_eq_true c2) CSh CTx).mono fun _ _ h => ⟨_, h.1, (fun h => by cases h), h.2⟩
    by_cases c3 : mo < n
    · rw [show (fitP true n mo tt nt && decide (nm = 0) && (decide (nn = na) && ab)) = false from by simp [fitP, c3]]
      exact (fx_3 b o d k n ss mo (-1) tt false true false s x3 x4 x5 x6 na nn nt nm e3 e4 e5 e6 w hb h0 h1 h2 h3 h4 h5 h6 (decide_eq_false c2) (decide_eq_true c3) CSh CTx).mono fun _ _ h => ⟨_, h.1, (fun h => by cases h), h.2⟩
    by_cases c4 : nm = 0
    rotate_left
    · rw [show (fitP true n mo tt nt && decide (nm = 0) && (decide (nn = na) && ab)) = false from by simp [c4]]
      exact (fx_4 b o d k n ss mo (-1) tt false true s x3 x4 x5 x6 na nn nt nm e3 e4 e5 e6 w hb h0 h1 h2 h3 h4 h5 h6 (decide_eq_false c2) (decide_eq_false c3) (by omega) CSh CTx).mono fun _ _ h => ⟨_, h.1, (fun h => by cases h), h.2⟩
    subst c4
    by_cases c6 : (nt : Int) = tt
    rotate_left
    · rw [show (fitP true n mo tt nt && decide (0 = 0) && (decide (nn = na) && ab)) = false from by simp [fitP, c6]]
      exact (fx_7 b o d k n ss mo (-1) tt false true s x3 x4 x5 x6 na nn nt e3 e4 e5 e6 w hb h0 h1 h2 h3 h4 h5 h6 (decide_eq_false c2) (decide_eq_false c3) (by rfl) (by simpa using c6) CSh CTx).mono fun _ _ h => ⟨_, h.1, (fun h => by cases h), h.2⟩
    by_cases c9 : nn = na
    rotate_left
    · rw [show (fitP true n mo tt nt && decide (0 = 0) && (decide (nn = na) && ab)) = false from by simp [c9]]
      exact (fx_14 b o d k n ss mo (-1) tt  s x3 x4 x5 x6 na nn nt e3 e4 e5 e6 w hb h0 h1 h2 h3 h4 h5 h6 (decide_eq_false c2) (decide_eq_false c3) (by rfl) (by simpa using c6) (by simp; omega) CSh CTx).mono fun _ _ h => ⟨_, h.1, (fun h => by cases h), h.2⟩
    cases ab with
    | true =>
      rw [show (fitP true n mo tt nt && decide (0 = 0) && (decide (nn = na) && true)) = true from by simp [fitP, c2, c3, c6, c9]]
      exact (fx_15 b o d k n ss mo (-1) tt  s x3 x4 x5 x6 na nn nt e3 e4 e5 e6 w hb h0 h1 h2 h3 h4 h5 h6 (decide_eq_false c2) (decide_eq_false c3) (by rfl) (by simpa using c6) (by simp [c9]) CSh CTx CAn).mono fun _ _ h => ⟨_, h.1, (fun _ => rfl), h.2⟩
    | false =>
      rw [show (fitP true n mo tt nt && decide (0 = 0) && (decide (nn = na) && false)) = false from by simp]
      exact (fx_16 b o d k n ss mo (-1) tt  s x3 x4 x5 x6 na nn nt e3 e4 e5 e6 w hb h0 h1 h2 h3 h4 h5 h6 (decide_eq_false c2) (decide_eq_false c3) (by rfl) (by simpa using c6) (by simp [c9]) CSh CTx CAn).mono fun _ _ h => ⟨_, h.1, (fun h => by cases h), h.2⟩
end Go.Proofs.YtoopndgdaiblpaaDoor
