/- What drawn types are like; tree.CheckType and tree.Size at a value. -/
import Derived.Test.YtoopndgdaiblpaaDoorTyC
import Derived.Test.YtoopndgdaiblpaaDoorOfA
import Derived.Test.YtoopndgdaiblpaaDoorSize
namespace Go.Proofs.YtoopndgdaiblpaaDoor
open Go.ChangeShapes Go.WideShapes Go.ChangeAt Go.RowKit

theorem typeOf_small (n : Int) : tySize (typeOf n) ≤ 3 := by
  unfold typeOf
  repeat' split
  all_goals simp [tInt, tA, tySize]

theorem kt_leaf {k : Int} {s : ByteArray} {labels : List ByteArray} {op : Bool} (r : Bool) (h : (k, s, 0, labels, op, r) ∈ shapes) : KT (.mk k s [] labels op) := .mk r ⟨k, s, [], labels, op, rfl, h⟩ (fun _ h => by cases h)
theorem kt_int : KT tInt := kt_leaf true (by simp [shapes])
theorem kt_a : KT tA := kt_leaf true (by simp [shapes])
theorem kt_two {k : Int} {s : ByteArray} {labels : List ByteArray} {op : Bool} (r : Bool) {x y : Ty} (h : (k, s, 2, labels, op, r) ∈ shapes) (hx : KT x) (hy : KT y) : KT (.mk k s [x, y] labels op) :=
  .mk r ⟨k, s, [x, y], labels, op, rfl, h⟩ (fun z hz => by
    simp only [List.mem_cons, List.not_mem_nil, or_false] at hz
    rcases hz with rfl | rfl <;> assumption)
theorem kt_one {k : Int} {s : ByteArray} {labels : List ByteArray} {op : Bool} (r : Bool) {x : Ty} (h : (k, s, 1, labels, op, r) ∈ shapes) (hx : KT x) : KT (.mk k s [x] labels op) :=
  .mk r ⟨k, s, [x], labels, op, rfl, h⟩ (fun z hz => by rw [List.mem_singleton.1 hz]; exact hx)
theorem kt_typeOf (n : Int) : KT (typeOf n) := by
  unfold typeOf
  split
  · exact kt_int
  split
  · exact kt_a
  split
  · exact kt_two true (by simp [shapes]) kt_int kt_a
  split
  · exact kt_two true (by simp [shapes]) kt_int kt_a
  split
  · exact kt_one true (by simp [shapes]) (kt_one true (by simp [shapes]) kt_a)
  split
  · exact kt_two false (by simp [shapes]) kt_int kt_a
  split
  · exact kt_one false (by simp [shapes]) kt_int
  · exact kt_leaf true (by simp [shapes])

def wrapM (x : Ty) : Ty := .mk 3 ⟨#[]⟩ [x] [⟨#[109]⟩] false
theorem kt_wrap {x : Ty} (h : KT x) : KT (wrapM x) := kt_one true (by simp [shapes]) h
theorem size_wrap (x : Ty) : tySize (wrapM x) = tySize x + 1 := by
  unfold wrapM; rw [tySize_mk]; simp [tySum]; omega

theorem TyV.shapes5 {W : World} {S : Nat → Prop} {v0 v1 v2 v3 v4 : Value} {t : Ty} (h : TyV W S [v0, v1, v2, v3, v4] t) : ∃ (k : Int) (s : ByteArray) (xa xl : Option Addr) (na ca nl cl : Nat) (op : Bool), v0 = .int .i64 k ∧ v1 = .string s ∧ v2 = .slice xa na ca ∧ v3 = .slice xl nl cl ∧ v4 = .bool op := by
  obtain ⟨k, s, va, vl, op, args, labels, ga, oa, gl, ol, e, rfl, ha, hl, _⟩ := h
  simp only [List.cons.injEq, and_true] at e
  obtain ⟨rfl, rfl, rfl, rfl, rfl⟩ := e
  obtain ⟨x, c, rfl, _⟩ := ha.shape
  obtain ⟨y, d, rfl, _⟩ := hl.shape
  exact ⟨_, _, _, _, _, _, _, _, _, rfl, rfl, rfl, rfl, rfl⟩

theorem checkType_v (T : TypeId) (ev : Value) (S : Nat → Prop) (k : Int) (s : ByteArray) (va vl : Value) (op : Bool) (w : World) (t : Ty) (hE : ErrAt T ev w) (hsz : tySize t ≤ 900000) (hk : KT t) (hS : ∀ b, S b → b < w.heap.size)
    (ht : TyV w S [.int .i64 k, .string s, va, vl, .bool op] t) :
    Calls Tryd.prog 16 #[.agg #[.int .i64 k, .string s, va, vl, .bool op]] w (ctGives w t) := by
  refine checkType_any T ev k s va vl op w t hE hsz hk ((ht.carry (fun b hb => heap_old (hS b hb)) fun b hb => ?_).at_ ?_ fun j x hj => ?_)
  · have := hS b hb; omega
  · omega
  · rw [Nat.zero_add]
    refine cell_block (cs := #[.int .i64 k, .string s, va, vl, .bool op]) (T := 37) (heap_last rfl) ?_
    simpa using hj

/-- All blocks below a bound but one are as they were. -/
def KeptBut (B c : Nat) (W W' : World) : Prop := W.heap.size ≤ W'.heap.size ∧ ∀ b, b < B → b ≠ c → W'.heap[b]? = W.heap[b]?
theorem size_v (S : Nat → Prop) (k : Int) (s : ByteArray) (n : Int) (va vn vt vm : Value) (w : World) (t : Nd) (hsz : ndSize t ≤ 900000) (hS : ∀ b, S b → b < w.heap.size) (ht : ExV w S [.int .i64 k, .string s, .int .i64 n, va, vn, vt, vm] t) :
    Calls Tryd.prog 20 #[.agg #[.int .i64 k, .string s, .int .i64 n, va, vn, vt, vm]] w fun e w' => e = .returned (.int .i64 (ndSize t)) ∧ Below w.heap.size w w' := by
  have xt : isEx t = true := by obtain ⟨_, _, _, _, _, _, _, _, _, _, _, _, _, _, _, _, _, _, _, _, rfl, _⟩ := ht; rfl
  refine size_any k s n va vn vt vm w t hsz ((ht.carry (fun b hb => heap_old (hS b hb)) fun b hb => ?_).at_ ?_ fun j x hj => ?_) xt
  · have := hS b hb; omega
  · omega
  · rw [Nat.zero_add]
    refine cell_block (cs := #[.int .i64 k, .string s, .int .i64 n, va, vn, vt, vm]) (T := 33) (heap_last rfl) ?_
    simpa using hj
end Go.Proofs.YtoopndgdaiblpaaDoor
