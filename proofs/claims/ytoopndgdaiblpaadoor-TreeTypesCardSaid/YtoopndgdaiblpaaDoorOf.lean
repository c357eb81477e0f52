/- Parts of a tree in prefix order, and the tree that trefoilref02.Of makes of them: plain; and the expression as a value. -/
import Derived.Test.YtoopndgdaiblpaaDoorTyp
import Derived.Test.YtoopndgdaiblpaaDoorVal
namespace Go.Proofs.YtoopndgdaiblpaaDoor
open Go.ChangeShapes Go.WideShapes Go.ChangeAt Go.RowKit

/-- A part. -/
structure Pt where
  kind : Int
  s : ByteArray
  n : Int
  args : Int
  t : Int

/-- A part's numbers are those of bytes. -/
def Pt.ok (p : Pt) : Prop := 0 ≤ p.kind ∧ p.kind ≤ 255 ∧ 0 ≤ p.args ∧ p.args ≤ 255 ∧ 0 ≤ p.t ∧ p.t ≤ 255

/-- Parts that lie from a place on. -/
def PAt (W : World) (g o : Nat) (l : List Pt) : Prop := ∀ i (h : i < l.length), W.cell? ⟨g, o + i * 5, none⟩ = some (.int .u8 l[i].kind) ∧ W.cell? ⟨g, o + i * 5 + 1, none⟩ = some (.string l[i].s) ∧ W.cell? ⟨g, o + i * 5 + 2, none⟩ = some (.int .i64 l[i].n) ∧ W.cell? ⟨g, o + i * 5 + 3, none⟩ = some (.int .u8 l[i].args) ∧ W.cell? ⟨g, o + i * 5 + 4, none⟩ = some (.int .u8 l[i].t) ∧ l[i].ok
/-- A slice of parts. -/
def PV (W : World) (B : Nat) (v : Value) (l : List Pt) : Prop := (l = [] ∧ ∃ x c, v = .slice x 0 c) ∨ ∃ g o cap, v = .slice (some ⟨g, o, none⟩) l.length cap ∧ l.length ≤ cap ∧ cap ≤ maxLen ∧ g < B ∧ PAt W g o l

theorem PAt.carry {W W' : World} {B g o : Nat} {l : List Pt} (h : PAt W g o l) (hB : Below B W W') (hg : g < B) : PAt W' g o l := fun i hi => by
  obtain ⟨a, b, c, d, e, f⟩ := h i hi
  exact ⟨(hB.cell (p := ⟨g, _, none⟩) hg).trans a, (hB.cell (p := ⟨g, _, none⟩) hg).trans b, (hB.cell (p := ⟨g, _, none⟩) hg).trans c, (hB.cell (p := ⟨g, _, none⟩) hg).trans d, (hB.cell (p := ⟨g, _, none⟩) hg).trans e, f⟩
theorem PV.carry {W W' : World} {B : Nat} {v : Value} {l : List Pt} (h : PV W B v l) (hB : Below B W W') : PV W' B v l := by
  rcases h with h | ⟨g, o, cap, h1, h2, h3, h4, h5⟩
  · exact .inl h
  · exact .inr ⟨g, o, cap, h1, h2, h3, h4, h5.carry hB h4⟩
theorem PV.mono {W : World} {B C : Nat} {v : Value} {l : List Pt} (h : PV W B v l) (hC : B ≤ C) : PV W C v l := by
  rcases h with h | ⟨g, o, cap, h1, h2, h3, h4, h5⟩
  · exact .inl h
  · exact .inr ⟨g, o, cap, h1, h2, h3, Nat.lt_of_lt_of_le h4 hC, h5⟩
theorem PAt.tail {W : World} {g o : Nat} {p : Pt} {l : List Pt} (h : PAt W g o (p :: l)) : PAt W g (o + 5) l := fun i hi => by
  have := h (i + 1) (by simpa using hi)
  rw [show o + (i + 1) * 5 = o + 5 + i * 5 from by omega] at this
  simpa using this

def unitN : Nd := .ex 5 ⟨#[]⟩ 0 [] [] [] []

/-- So many expressions, one behind the other. -/
def argsL (g : List Pt → Nd × List Pt) : Nat → List Pt → List Nd × List Pt
  | 0, r => ([], r)
  | m + 1, r => ((g r).1 :: (argsL g m (g r).2).1, (argsL g m (g r).2).2)
/-- A member, and what is left. -/
def memL (g : List Pt → Nd × List Pt) : List Pt → Nd × List Pt
  | [] => (.me 3 ⟨#[109]⟩ ⟨#[]⟩ [] [(g []).1], (g []).2)
  | q :: r => if q.args % 5 = 4 then (.me 4 q.s ⟨#[]⟩ [typeOf q.t] [], r)
    else (.me (q.args % 5) q.s (if q.args % 5 = 1 ∧ 0 < q.n then ⟨#[115, 117, 112, 101, 114]⟩ else ⟨#[]⟩) [] [(g r).1], (g r).2)
def memsL (g : List Pt → Nd × List Pt) : Nat → List Pt → List Nd × List Pt
  | 0, r => ([], r)
  | m + 1, r => ((memL g r).1 :: (memsL g m (memL g r).2).1, (memsL g m (memL g r).2).2)
/-- The tree that parts tell, and what is left of them. -/
def ofL : Nat → List Pt → Nd × List Pt
  | 0, _ => (unitN, [])
  | _ + 1, [] => (unitN, [])
  | f + 1, p :: r =>
    if p.kind % 21 = 14 then (.ex 14 p.s p.n [] [] [] (memsL (ofL f) (p.args % 4).toNat r).1, (memsL (ofL f) (p.args % 4).toNat r).2)
    else (.ex (p.kind % 21) (if p.kind % 21 = 18 then ⟨#[]⟩ else p.s) p.n (if p.kind % 21 = 18 then List.replicate (p.args % 4).toNat p.s else [])
      (if p.kind % 21 = 19 then [typeOf p.t] else if p.kind % 21 = 20 then [typeOf p.t, typeOf (p.t / 8)] else []) (argsL (ofL f) (p.args % 4).toNat r).1 [], (argsL (ofL f) (p.args % 4).toNat r).2)

theorem ofL_ex : ∀ (f : Nat) (l : List Pt), isEx (ofL f l).1 = true
  | 0, _ => rfl
  | _ + 1, [] => rfl
  | f + 1, p :: r => by rw [ofL]; split <;> rfl

/-- How great the tree is, and how much is left. -/
def Fine (g : List Pt → Nd × List Pt) : Prop := ∀ l, (g l).2.length ≤ l.length ∧ ndSize (g l).1 + 7 * (g l).2.length ≤ 1 + 7 * l.length
theorem argsL_fine {g : List Pt → Nd × List Pt} (hg : Fine g) : ∀ (m : Nat) (l : List Pt), (argsL g m l).2.length ≤ l.length ∧ ndSum (argsL g m l).1 + 7 * (argsL g m l).2.length ≤ m + 7 * l.length
  | 0, l => by simp [argsL, ndSum]
  | m + 1, l => by
    have h1 := hg l
    have h2 := argsL_fine hg m (g l).2
    simp only [argsL, ndSum, List.map_cons, List.sum_cons] at h2 ⊢
    omega
theorem memL_fine {g : List Pt → Nd × List Pt} (hg : Fine g) (l : List Pt) : (memL g l).2.length ≤ l.length ∧ ndSize (memL g l).1 + 7 * (memL g l).2.length ≤ 2 + 7 * l.length := by
  cases l with
  | nil =>
    have h1 := hg []
    simp only [memL, ndSize_me, ndSum, List.map_cons, List.map_nil, List.sum_cons, List.sum_nil] at h1 ⊢
    omega
  | cons q r =>
    have h1 := hg r
    by_cases h : q.args % 5 = 4
    · have e : memL g (q :: r) = (.me 4 q.s ⟨#[]⟩ [typeOf q.t] [], r) := by rw [memL, if_pos h]
      rw [e]
      simp only [ndSize_me, ndSum, List.map_nil, List.sum_nil, List.length_cons]; omega
    · have e : memL g (q :: r) = (.me (q.args % 5) q.s (if q.args % 5 = 1 ∧ 0 < q.n then ⟨#[115, 117, 112, 101, 114]⟩ else ⟨#[]⟩) [] [(g r).1], (g r).2) := by rw [memL, if_neg h]
      rw [e]
      simp only [ndSize_me, ndSum, List.map_cons, List.map_nil, List.sum_cons, List.sum_nil, List.length_cons]; omega
theorem memsL_fine {g : List Pt → Nd × List Pt} (hg : Fine g) : ∀ (m : Nat) (l : List Pt), (memsL g m l).2.length ≤ l.length ∧ ndSum (memsL g m l).1 + 7 * (memsL g m l).2.length ≤ 2 * m + 7 * l.length
  | 0, l => by simp [memsL, ndSum]
  | m + 1, l => by
    have h1 := memL_fine hg l
    have h2 := memsL_fine hg m (memL g l).2
    simp only [memsL, ndSum, List.map_cons, List.sum_cons] at h2 ⊢
    omega
theorem ofL_fine : ∀ f, Fine (ofL f)
  | 0, l => by simp [ofL, unitN, ndSize_ex, ndSum]
  | f + 1, [] => by simp [ofL, unitN, ndSize_ex, ndSum]
  | f + 1, p :: r => by
    have h1 := argsL_fine (ofL_fine f) (p.args % 4).toNat r
    have h2 := memsL_fine (ofL_fine f) (p.args % 4).toNat r
    have h4 : (p.args % 4).toNat ≤ 3 := by omega
    rw [ofL]
    split
    · simp only [ndSize_ex, List.length_cons]
      have : ndSum [] = 0 := rfl
      omega
    · simp only [ndSize_ex, List.length_cons]
      have : ndSum [] = 0 := rfl
      omega

/-- An expression as a value, its parts in blocks below B. -/
def ExV (W : World) (B : Nat → Prop) (vs : List Value) (t : Nd) : Prop := ∃ (k : Int) (s : ByteArray) (n : Int) (va vn vt vm : Value) (names : List ByteArray) (types : List Ty) (args mems : List Nd) (ga oa gn on gt ot gm om : Nat),
  vs = [.int .i64 k, .string s, .int .i64 n, va, vn, vt, vm] ∧ t = .ex k s n names types args mems ∧ Sl B va args.length ga oa ∧ Sl B vn names.length gn on ∧ Sl B vt types.length gt ot ∧ Sl B vm mems.length gm om ∧
  (∀ i (h : i < args.length), NdAt W B ga (oa + i * 7) args[i]) ∧ (∀ i (h : i < names.length), W.cell? ⟨gn, on + i, none⟩ = some (.string names[i])) ∧ (∀ i (h : i < types.length), TyAt W B gt (ot + i * 5) types[i]) ∧ (∀ i (h : i < mems.length), NdAt W B gm (om + i * 5) mems[i]) ∧
  (∀ x ∈ args, isEx x = true) ∧ (∀ x ∈ mems, isEx x = false)

theorem ExV.at_ {W : World} {B : Nat → Prop} {vs : List Value} {t : Nd} (h : ExV W B vs t) {b o : Nat} (hb : B b) (hc : ∀ j u, vs[j]? = some u → W.cell? ⟨b, o + j, none⟩ = some u) : NdAt W B b o t := by
  obtain ⟨k, s, n, va, vn, vt, vm, names, types, args, mems, ga, oa, gn, on, gt, ot, gm, om, rfl, rfl, h1, h2, h3, h4, h5, h6, h7, h8, h9, h10⟩ := h
  exact .ex hb (hc 0 _ rfl) (hc 1 _ rfl) (hc 2 _ rfl) (hc 3 _ rfl) (hc 4 _ rfl) (hc 5 _ rfl) (hc 6 _ rfl) h1 h2 h3 h4 h5 h6 h7 h8 h9 h10
theorem ExV.carry {W W' : World} {B C : Nat → Prop} {vs : List Value} {t : Nd} (h : ExV W B vs t) (hB : Keeps B W W') (hC : ∀ b, B b → C b) : ExV W' C vs t := by
  obtain ⟨k, s, n, va, vn, vt, vm, names, types, args, mems, ga, oa, gn, on, gt, ot, gm, om, rfl, rfl, h1, h2, h3, h4, h5, h6, h7, h8, h9, h10⟩ := h
  exact ⟨k, s, n, va, vn, vt, vm, names, types, args, mems, ga, oa, gn, on, gt, ot, gm, om, rfl, rfl, h1.mono hC, h2.mono hC, h3.mono hC, h4.mono hC, fun i hi => (h5 i hi).carry hB hC, fun i hi => hB.cell (h2.lt (by omega)) (h6 i hi),
    fun i hi => (h7 i hi).carry hB hC, fun i hi => (h8 i hi).carry hB hC, h9, h10⟩
theorem unit_ExV (W : World) (B : Nat → Prop) : ExV W B [.int .i64 5, .string ⟨#[]⟩, .int .i64 0, .slice none 0 0, .slice none 0 0, .slice none 0 0, .slice none 0 0] unitN :=
  ⟨5, ⟨#[]⟩, 0, _, _, _, _, [], [], [], [], 0, 0, 0, 0, 0, 0, 0, 0, rfl, rfl, .inl ⟨rfl, rfl⟩, .inl ⟨rfl, rfl⟩, .inl ⟨rfl, rfl⟩, .inl ⟨rfl, rfl⟩, fun _ h => absurd h (Nat.not_lt_zero _), fun _ h => absurd h (Nat.not_lt_zero _), fun _ h => absurd h (Nat.not_lt_zero _), fun _ h => absurd h (Nat.not_lt_zero _), fun _ h => (by cases h), fun _ h => (by cases h)⟩

theorem PV.carry' {W W' : World} {B C : Nat} {v : Value} {l : List Pt} (h : PV W B v l) (hB : Below C W W') (hC : B ≤ C) : PV W' B v l := by
  rcases h with h | ⟨g, o, cap, h1, h2, h3, h4, h5⟩
  · exact .inl h
  · exact .inr ⟨g, o, cap, h1, h2, h3, h4, h5.carry hB (Nat.lt_of_lt_of_le h4 hC)⟩

/-- What Of has behind it. -/
def OfGives (B : Nat) (w : World) (r : Nd × List Pt) (e : Ending) (w' : World) : Prop := ∃ c0 c1 c2 c3 c4 c5 c6 rest, e = .returned (.tuple #[.agg #[c0, c1, c2, c3, c4, c5, c6], rest]) ∧ ExV w' (fun b => w.heap.size < b ∧ b < w'.heap.size) [c0, c1, c2, c3, c4, c5, c6] r.1 ∧ PV w' B rest r.2 ∧ Below w.heap.size w w'

set_option maxRecDepth 100000 in
theorem of_nil (B : Nat) (f : Nat) (x : Option Addr) (c : Nat) (w : World) : Calls Tryd.prog 10 #[.slice x 0 c] w (OfGives B w (ofL f [])) := by
  have h : ofL f [] = (unitN, []) := by cases f <;> rfl
  have H := Lib.hid h
  clear h
  go_enter Tryd.func10, Tryd.ntmps10
  go_wp2_with fail
  refine bodyPost_ret (v := .tuple #[.agg #[.int .i64 5, .string ⟨#[]⟩, .int .i64 0, .slice none 0 0, .slice none 0 0, .slice none 0 0, .slice none 0 0], .slice none 0 0]) (by simp [results, Tryd.results10, go_sem]) rfl ?_
  refine ⟨_, _, _, _, _, _, _, _, rfl, ?_, ?_, by go_grown⟩
  · rw [H.out]; exact unit_ExV _ _
  · rw [H.out]; exact .inl ⟨rfl, none, 0, rfl⟩
end Go.Proofs.YtoopndgdaiblpaaDoor
