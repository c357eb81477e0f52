/- What a tree of parts has, plain; and tree.Size at an expression as a value. -/
import Derived.Test.YtoopndgdaiblpaaDoorAp
import Derived.Test.YtoopndgdaiblpaaDoorSize
namespace Go.Proofs.YtoopndgdaiblpaaDoor
open Go.ChangeShapes Go.WideShapes Go.ChangeAt Go.RowKit

theorem typeOf_small (n : Int) : tySize (typeOf n) ≤ 3 := by
  unfold typeOf
  repeat' split
  all_goals simp [tInt, tA, tySize]

/-- What trees of parts are like. -/
def Mild (g : List Pt → Nd × List Pt) : Prop := ∀ l, TyFine (g l).1
theorem argsL_mild {g : List Pt → Nd × List Pt} (hg : Mild g) : ∀ (m : Nat) (l : List Pt), ∀ x ∈ (argsL g m l).1, TyFine x
  | 0, l, x, h => by cases h
  | m + 1, l, x, h => by
    simp only [argsL] at h
    rcases List.mem_cons.1 h with rfl | h
    · exact hg l
    · exact argsL_mild hg m _ x h
theorem memL_mild {g : List Pt → Nd × List Pt} (hg : Mild g) (l : List Pt) : TyFine (memL g l).1 := by
  cases l with
  | nil => exact .me (by simp [tySum]) (fun x hx => by rw [List.mem_singleton.1 hx]; exact hg [])
  | cons q r =>
    by_cases h : q.args % 5 = 4
    · have e : memL g (q :: r) = (.me 4 q.s ⟨#[]⟩ [typeOf q.t] [], r) := by rw [memL, if_pos h]
      rw [e]
      exact .me (by have := typeOf_small q.t; simp [tySum]; omega) (fun x hx => by cases hx)
    · have e : memL g (q :: r) = (.me (q.args % 5) q.s (if q.args % 5 = 1 ∧ 0 < q.n then ⟨#[115, 117, 112, 101, 114]⟩ else ⟨#[]⟩) [] [(g r).1], (g r).2) := by rw [memL, if_neg h]
      rw [e]
      exact .me (by simp [tySum]) (fun x hx => by rw [List.mem_singleton.1 hx]; exact hg r)
theorem memsL_mild {g : List Pt → Nd × List Pt} (hg : Mild g) : ∀ (m : Nat) (l : List Pt), ∀ x ∈ (memsL g m l).1, TyFine x
  | 0, l, x, h => by cases h
  | m + 1, l, x, h => by
    simp only [memsL] at h
    rcases List.mem_cons.1 h with rfl | h
    · exact memL_mild hg l
    · exact memsL_mild hg m _ x h
theorem ofL_mild : ∀ f, Mild (ofL f)
  | 0, l => .ex (by simp [tySum]) (fun _ h => by cases h) (fun _ h => by cases h)
  | f + 1, [] => .ex (by simp [tySum]) (fun _ h => by cases h) (fun _ h => by cases h)
  | f + 1, p :: r => by
    rw [ofL]
    split
    · exact .ex (by simp [tySum]) (fun _ h => by cases h) (memsL_mild (ofL_mild f) _ r)
    · refine .ex ?_ (argsL_mild (ofL_mild f) _ r) (fun _ h => by cases h)
      have h1 := typeOf_small p.t
      have h2 := typeOf_small (p.t / 8)
      split
      · simp [tySum]; omega
      · split
        · simp [tySum]; omega
        · simp [tySum]

/-- The head of such a tree. -/
def headOk : Nd → Prop
  | .ex _ s _ ns ts ags ms => s.size ≤ 5000 ∧ ns.length ≤ 3 ∧ ts.length ≤ 2 ∧ ags.length ≤ 3 ∧ ms.length ≤ 3 ∧ tySum ts ≤ 6
  | .me .. => False
theorem argsL_length (g : List Pt → Nd × List Pt) : ∀ (m : Nat) (l : List Pt), (argsL g m l).1.length = m
  | 0, _ => rfl
  | m + 1, l => by simp only [argsL, List.length_cons, argsL_length g m]
theorem memsL_length (g : List Pt → Nd × List Pt) : ∀ (m : Nat) (l : List Pt), (memsL g m l).1.length = m
  | 0, _ => rfl
  | m + 1, l => by simp only [memsL, List.length_cons, memsL_length g m]
theorem ofL_head : ∀ (f : Nat) (l : List Pt), (∀ p ∈ l, p.s.size ≤ 5000) → headOk (ofL f l).1
  | 0, _, _ => ⟨Nat.zero_le _, Nat.zero_le _, Nat.zero_le _, Nat.zero_le _, Nat.zero_le _, Nat.zero_le _⟩
  | _ + 1, [], _ => ⟨Nat.zero_le _, Nat.zero_le _, Nat.zero_le _, Nat.zero_le _, Nat.zero_le _, Nat.zero_le _⟩
  | f + 1, p :: r, h => by
    have h1 := h p (by simp)
    have h4 : (p.args % 4).toNat ≤ 3 := by omega
    rw [ofL]
    split
    · simp only [headOk, memsL_length, List.length_nil]
      have : tySum [] = 0 := rfl
      omega
    · simp only [headOk, argsL_length, List.length_nil]
      have a1 := typeOf_small p.t
      have a2 := typeOf_small (p.t / 8)
      refine ⟨?_, ?_, ?_, h4, by omega, ?_⟩
      · split
        · exact Nat.zero_le _
        · exact h1
      · split
        · rw [List.length_replicate]; exact h4
        · simp
      · split
        · simp
        · split <;> simp
      · split
        · simp [tySum]; omega
        · split
          · simp [tySum]; omega
          · simp [tySum]

theorem size_v (S : Nat → Prop) (k : Int) (s : ByteArray) (n : Int) (va vn vt vm : Value) (w : World) (t : Nd) (hsz : ndSize t ≤ 900000) (hS : ∀ b, S b → b < w.heap.size) (ht : ExV w S [.int .i64 k, .string s, .int .i64 n, va, vn, vt, vm] t) :
    Calls Tryd.prog 20 #[.agg #[.int .i64 k, .string s, .int .i64 n, va, vn, vt, vm]] w fun e w' => e = .returned (.int .i64 (ndSize t)) ∧ Below w.heap.size w w' := by
  have xt : isEx t = true := by obtain ⟨_, _, _, _, _, _, _, _, _, _, _, _, _, _, _, _, _, _, _, _, rfl, _⟩ := ht; rfl
  refine size_any k s n va vn vt vm w t hsz ((ht.carry (fun b hb => heap_old (hS b hb)) fun b hb => ?_).at_ ?_ fun j x hj => ?_) xt
  · have := hS b hb; omega
  · omega
  · rw [Nat.zero_add]
    refine cell_block (cs := #[.int .i64 k, .string s, .int .i64 n, va, vn, vt, vm]) (T := 33) (heap_last rfl) ?_
    simpa using hj
end Go.Proofs.YtoopndgdaiblpaaDoor
