/- Expressions and types as trees, and how they lie in memory. -/
import Derived.Test.YtoopndgdaiblpaaDoorNamed
import Derived.OwnWalk
import Derived.Laws.OwnMore
import Derived.Outline
import Derived.Below
import Derived.Handy
import Derived.Lib.Builder
import Derived.Deep.LoopGhost
import Derived.Deep.QuietTactic
import Derived.BigQuiet
import Derived.Deep.AppendLies
import Derived.Deep.RegionLaw
namespace Go.Proofs.YtoopndgdaiblpaaDoor
open Go.ChangeShapes Go.WideShapes Go.ChangeAt Go.RowKit

inductive Ty where
  | mk (k : Int) (s : ByteArray) (args : List Ty) (labels : List ByteArray) (o : Bool)

/-- An expression, or a member. -/
inductive Nd where
  | ex (k : Int) (s : ByteArray) (n : Int) (names : List ByteArray) (types : List Ty) (args mems : List Nd)
  | me (k : Int) (name as_ : ByteArray) (types : List Ty) (args : List Nd)

def isEx : Nd → Bool
  | .ex .. => true
  | .me .. => false
theorem isEx_is {t : Nd} (h : isEx t = true) : ∃ k s n a b c d, t = .ex k s n a b c d := by
  cases t with
  | ex k s n a b c d => exact ⟨k, s, n, a, b, c, d, rfl⟩
  | me => cases h

/-- A slice of n elements that lies there. -/
def Sl (B : Nat → Prop) (v : Value) (n g o : Nat) : Prop := (v = .slice none 0 0 ∧ n = 0) ∨ ∃ cap, v = .slice (some ⟨g, o, none⟩) n cap ∧ n ≤ cap ∧ cap ≤ maxLen ∧ B g

/-- A type that lies at a place, in blocks of B. -/
inductive TyAt (W : World) (B : Nat → Prop) : Nat → Nat → Ty → Prop
  | mk {b o : Nat} {k : Int} {s : ByteArray} {args : List Ty} {labels : List ByteArray} {op : Bool} {va vl : Value} {ga oa gl ol : Nat} (hb : B b)
    (h0 : W.cell? ⟨b, o, none⟩ = some (.int .i64 k)) (h1 : W.cell? ⟨b, o + 1, none⟩ = some (.string s)) (h2 : W.cell? ⟨b, o + 2, none⟩ = some va) (h3 : W.cell? ⟨b, o + 3, none⟩ = some vl) (h4 : W.cell? ⟨b, o + 4, none⟩ = some (.bool op))
    (ha : Sl B va args.length ga oa) (hl : Sl B vl labels.length gl ol)
    (hs : ∀ i (h : i < args.length), TyAt W B ga (oa + i * 5) args[i])
    (hls : ∀ i (h : i < labels.length), W.cell? ⟨gl, ol + i, none⟩ = some (.string labels[i])) : TyAt W B b o (.mk k s args labels op)

/-- An expression, or a member, that lies at a place, in blocks of B. -/
inductive NdAt (W : World) (B : Nat → Prop) : Nat → Nat → Nd → Prop
  | ex {b o : Nat} {k : Int} {s : ByteArray} {n : Int} {names : List ByteArray} {types : List Ty} {args mems : List Nd} {va vn vt vm : Value} {ga oa gn on gt ot gm om : Nat} (hb : B b)
    (h0 : W.cell? ⟨b, o, none⟩ = some (.int .i64 k)) (h1 : W.cell? ⟨b, o + 1, none⟩ = some (.string s)) (h2 : W.cell? ⟨b, o + 2, none⟩ = some (.int .i64 n))
    (h3 : W.cell? ⟨b, o + 3, none⟩ = some va) (h4 : W.cell? ⟨b, o + 4, none⟩ = some vn) (h5 : W.cell? ⟨b, o + 5, none⟩ = some vt) (h6 : W.cell? ⟨b, o + 6, none⟩ = some vm)
    (ha : Sl B va args.length ga oa) (hn : Sl B vn names.length gn on) (ht : Sl B vt types.length gt ot) (hm : Sl B vm mems.length gm om)
    (hs : ∀ i (h : i < args.length), NdAt W B ga (oa + i * 7) args[i])
    (hns : ∀ i (h : i < names.length), W.cell? ⟨gn, on + i, none⟩ = some (.string names[i]))
    (hts : ∀ i (h : i < types.length), TyAt W B gt (ot + i * 5) types[i])
    (hms : ∀ i (h : i < mems.length), NdAt W B gm (om + i * 5) mems[i])
    (hax : ∀ x ∈ args, isEx x = true) (hmx : ∀ x ∈ mems, isEx x = false) : NdAt W B b o (.ex k s n names types args mems)
  | me {b o : Nat} {k : Int} {name as_ : ByteArray} {types : List Ty} {args : List Nd} {va vt : Value} {ga oa gt ot : Nat} (hb : B b)
    (h0 : W.cell? ⟨b, o, none⟩ = some (.int .i64 k)) (h1 : W.cell? ⟨b, o + 1, none⟩ = some (.string name)) (h2 : W.cell? ⟨b, o + 2, none⟩ = some (.string as_))
    (h3 : W.cell? ⟨b, o + 3, none⟩ = some va) (h4 : W.cell? ⟨b, o + 4, none⟩ = some vt)
    (ha : Sl B va args.length ga oa) (ht : Sl B vt types.length gt ot)
    (hs : ∀ i (h : i < args.length), NdAt W B ga (oa + i * 7) args[i])
    (hts : ∀ i (h : i < types.length), TyAt W B gt (ot + i * 5) types[i])
    (hax : ∀ x ∈ args, isEx x = true) : NdAt W B b o (.me k name as_ types args)

theorem Sl.mono {B B' : Nat → Prop} {v : Value} {n g o : Nat} (h : Sl B v n g o) (hB : ∀ b, B b → B' b) : Sl B' v n g o := by
  rcases h with h | ⟨cap, h1, h2, h3, h4⟩
  · exact .inl h
  · exact .inr ⟨cap, h1, h2, h3, hB _ h4⟩
theorem Sl.lt {B : Nat → Prop} {v : Value} {n g o : Nat} (h : Sl B v n g o) (hn : 0 < n) : B g := by
  rcases h with ⟨_, h⟩ | ⟨_, _, _, _, h⟩
  · omega
  · exact h

/-- The blocks of B are as they were. -/
def Keeps (B : Nat → Prop) (W W' : World) : Prop := ∀ b, B b → W'.heap[b]? = W.heap[b]?
theorem Keeps.cell {B : Nat → Prop} {W W' : World} (h : Keeps B W W') {b o : Nat} {v : Value} (hb : B b) (hv : W.cell? ⟨b, o, none⟩ = some v) : W'.cell? ⟨b, o, none⟩ = some v := by
  unfold World.cell? at hv ⊢
  simp only at hv ⊢
  rw [h b hb]; exact hv
theorem keeps_of {C : Nat} {W W' : World} (h : Below C W W') {B : Nat → Prop} (hB : ∀ b, B b → b < C) : Keeps B W W' := fun b hb => h.block b (hB b hb)

theorem TyAt.carry {W W' : World} {B C : Nat → Prop} {b o : Nat} {t : Ty} (h : TyAt W B b o t) (hB : Keeps B W W') (hC : ∀ b, B b → C b) : TyAt W' C b o t := by
  induction h with
  | mk hb h0 h1 h2 h3 h4 ha hl hs hls ih =>
    exact .mk (hC _ hb) (hB.cell hb h0) (hB.cell hb h1) (hB.cell hb h2) (hB.cell hb h3) (hB.cell hb h4) (ha.mono hC) (hl.mono hC) ih (fun i hi => hB.cell (hl.lt (by omega)) (hls i hi))

theorem NdAt.carry {W W' : World} {B C : Nat → Prop} {b o : Nat} {t : Nd} (h : NdAt W B b o t) (hB : Keeps B W W') (hC : ∀ b, B b → C b) : NdAt W' C b o t := by
  induction h with
  | ex hb h0 h1 h2 h3 h4 h5 h6 ha hn ht hm hs hns hts hms hax hmx ih1 ih2 =>
    exact .ex (hC _ hb) (hB.cell hb h0) (hB.cell hb h1) (hB.cell hb h2) (hB.cell hb h3) (hB.cell hb h4) (hB.cell hb h5) (hB.cell hb h6) (ha.mono hC) (hn.mono hC) (ht.mono hC) (hm.mono hC) ih1 (fun i hi => hB.cell (hn.lt (by omega)) (hns i hi)) (fun i hi => (hts i hi).carry hB hC) ih2 hax hmx
  | me hb h0 h1 h2 h3 h4 ha ht hs hts hax ih1 =>
    exact .me (hC _ hb) (hB.cell hb h0) (hB.cell hb h1) (hB.cell hb h2) (hB.cell hb h3) (hB.cell hb h4) (ha.mono hC) (ht.mono hC) ih1 (fun i hi => (hts i hi).carry hB hC) hax

/-- What tree.Value tells. -/
def valueB : Nd → Bool
  | .ex k _ _ _ _ args _ =>
    if 1 ≤ k ∧ k ≤ 6 then true
    else if k = 10 then match args with
      | [a, b] => valueB a && valueB b
      | _ => false
    else if k = 19 then match args with
      | [a] => valueB a
      | _ => false
    else false
  | .me .. => false

/-- How many parts a tree has. -/
def ndSize : Nd → Nat
  | .ex _ _ _ _ _ args mems => 1 + (args.map ndSize).sum + (mems.map ndSize).sum
  | .me _ _ _ _ args => 1 + (args.map ndSize).sum
def ndSum (l : List Nd) : Nat := (l.map ndSize).sum
theorem ndSum_append (l m : List Nd) : ndSum (l ++ m) = ndSum l + ndSum m := by unfold ndSum; simp
theorem ndSize_ex (k : Int) (s : ByteArray) (n : Int) (names : List ByteArray) (types : List Ty) (args mems : List Nd) : ndSize (.ex k s n names types args mems) = 1 + ndSum args + ndSum mems := by
  rw [ndSize]; rfl
theorem ndSize_me (k : Int) (name as_ : ByteArray) (types : List Ty) (args : List Nd) : ndSize (.me k name as_ types args) = 1 + ndSum args := by
  rw [ndSize]; rfl

/-- The cells of pointers. -/
def ptrs (l : List (Nat × Nat)) : List Value := l.map fun p => .pointer (some ⟨p.1, p.2, none⟩)
theorem ptrs_snoc (l : List (Nat × Nat)) (p : Nat × Nat) : ptrs (l ++ [p]) = ptrs l ++ [.pointer (some ⟨p.1, p.2, none⟩)] := by simp [ptrs]
theorem ptrs_length (l : List (Nat × Nat)) : (ptrs l).length = l.length := by simp [ptrs]

/-- A row of one's own, its last element taken off. -/
theorem own_pop {w : World} {B : Nat} {e : TypeId} {g n cap : Nat} {xs : List Value} {x : Value} (h : w.ownsRow B e 1 (.slice (some ⟨g, 0, none⟩) (n + 1) cap) (n + 1) (xs ++ [x])) : w.ownsRow B e 1 (.slice (some ⟨g, 0, none⟩) n cap) n xs := by
  obtain ⟨h1, h2⟩ := h
  rw [List.length_append] at h1
  simp only [List.length_cons, List.length_nil] at h1
  refine ⟨by omega, ?_⟩
  rcases h2 with ⟨h2, _⟩ | ⟨g', cap', cur, hv, hb, hg, hn, hm, hs, ht⟩
  · cases h2
  · cases hv
    refine .inr ⟨g, cap, cur, rfl, hb, hg, by omega, hm, hs, ?_⟩
    have := congrArg (List.take (n * 1)) ht
    rw [List.take_take, show min (n * 1) ((n + 1) * 1) = n * 1 from by omega] at this
    rw [this, List.take_left' (by omega)]
end Go.Proofs.YtoopndgdaiblpaaDoor
