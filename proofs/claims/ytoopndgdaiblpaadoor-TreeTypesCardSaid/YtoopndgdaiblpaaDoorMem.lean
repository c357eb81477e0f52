/- Members as values, and rows of them. -/
import Derived.Test.YtoopndgdaiblpaaDoorOfs
namespace Go.Proofs.YtoopndgdaiblpaaDoor
open Go.ChangeShapes Go.WideShapes Go.ChangeAt Go.RowKit

/-- A member as a value, its parts in blocks of B. -/
def MeV (W : World) (B : Nat → Prop) (vs : List Value) (t : Nd) : Prop := ∃ (k : Int) (name as_ : ByteArray) (va vt : Value) (types : List Ty) (args : List Nd) (ga oa gt ot : Nat),
  vs = [.int .i64 k, .string name, .string as_, va, vt] ∧ t = .me k name as_ types args ∧ Sl B va args.length ga oa ∧ Sl B vt types.length gt ot ∧
  (∀ i (h : i < args.length), NdAt W B ga (oa + i * 7) args[i]) ∧ (∀ i (h : i < types.length), TyAt W B gt (ot + i * 5) types[i]) ∧ (∀ x ∈ args, isEx x = true)

theorem MeV.at_ {W : World} {B : Nat → Prop} {vs : List Value} {t : Nd} (h : MeV W B vs t) {b o : Nat} (hb : B b) (hc : ∀ j u, vs[j]? = some u → W.cell? ⟨b, o + j, none⟩ = some u) : NdAt W B b o t := by
  obtain ⟨k, name, as_, va, vt, types, args, ga, oa, gt, ot, rfl, rfl, h1, h2, h3, h4, h5⟩ := h
  exact .me hb (hc 0 _ rfl) (hc 1 _ rfl) (hc 2 _ rfl) (hc 3 _ rfl) (hc 4 _ rfl) h1 h2 h3 h4 h5
theorem MeV.carry {W W' : World} {B C : Nat → Prop} {vs : List Value} {t : Nd} (h : MeV W B vs t) (hB : Keeps B W W') (hC : ∀ b, B b → C b) : MeV W' C vs t := by
  obtain ⟨k, name, as_, va, vt, types, args, ga, oa, gt, ot, rfl, rfl, h1, h2, h3, h4, h5⟩ := h
  exact ⟨k, name, as_, va, vt, types, args, ga, oa, gt, ot, rfl, rfl, h1.mono hC, h2.mono hC, fun i hi => (h3 i hi).carry hB hC, fun i hi => (h4 i hi).carry hB hC, h5⟩
theorem MeV.isMem {W : World} {B : Nat → Prop} {vs : List Value} {t : Nd} (h : MeV W B vs t) : isEx t = false := by
  obtain ⟨k, name, as_, va, vt, types, args, ga, oa, gt, ot, rfl, rfl, _⟩ := h
  rfl

/-- Members as values, each with its tree. -/
def Mvs (W : World) (B : Nat → Prop) : List (List Value) → List Nd → Prop
  | [], [] => True
  | c :: cs, t :: ts => (MeV W B c t ∧ c.length = 5) ∧ Mvs W B cs ts
  | _, _ => False
theorem Mvs.carry {W W' : World} {B C : Nat → Prop} (hB : Keeps B W W') (hC : ∀ b, B b → C b) : ∀ {cs : List (List Value)} {ts : List Nd}, Mvs W B cs ts → Mvs W' C cs ts
  | [], [], _ => trivial
  | _ :: _, _ :: _, h => ⟨⟨h.1.1.carry hB hC, h.1.2⟩, h.2.carry hB hC⟩
  | [], _ :: _, h => h.elim
  | _ :: _, [], h => h.elim
theorem Mvs.snoc {W : World} {B : Nat → Prop} : ∀ {cs : List (List Value)} {ts : List Nd} {c : List Value} {t : Nd}, Mvs W B cs ts → MeV W B c t → c.length = 5 → Mvs W B (cs ++ [c]) (ts ++ [t])
  | [], [], _, _, _, h, hl => ⟨⟨h, hl⟩, trivial⟩
  | _ :: _, _ :: _, _, _, h, h2, hl => ⟨h.1, h.2.snoc h2 hl⟩
  | [], _ :: _, _, _, h, _, _ => h.elim
  | _ :: _, [], _, _, h, _, _ => h.elim
theorem Mvs.get {W : World} {B : Nat → Prop} : ∀ {cs : List (List Value)} {ts : List Nd} {i : Nat} {t : Nd}, Mvs W B cs ts → ts[i]? = some t → ∃ c, cs[i]? = some c ∧ MeV W B c t ∧ c.length = 5 ∧ ∀ j u, c[j]? = some u → cs.flatten[i * 5 + j]? = some u
  | [], [], _, _, _, h => by simp at h
  | c :: cs, t :: ts, 0, u, h, hu => by
    simp only [List.getElem?_cons_zero, Option.some.injEq] at hu
    subst hu
    refine ⟨c, rfl, h.1.1, h.1.2, fun j v hv => ?_⟩
    have hj : j < c.length := (List.getElem?_eq_some_iff.1 hv).1
    rw [List.flatten_cons, Nat.zero_mul, Nat.zero_add, List.getElem?_append_left hj]; exact hv
  | c :: cs, t :: ts, i + 1, u, h, hu => by
    obtain ⟨c', h1, h2, h3, h4⟩ := h.2.get (i := i) (t := u) (by simpa using hu)
    refine ⟨c', by simpa using h1, h2, h3, fun j v hv => ?_⟩
    have hl := h.1.2
    rw [List.flatten_cons, List.getElem?_append_right (by omega), show (i + 1) * 5 + j - c.length = i * 5 + j from by omega]
    exact h4 j v hv
  | [], _ :: _, _, _, h, _ => h.elim
  | _ :: _, [], _, _, h, _ => h.elim

theorem Mvs.mems {W : World} {B : Nat → Prop} : ∀ {cs : List (List Value)} {ts : List Nd}, Mvs W B cs ts → ∀ x ∈ ts, isEx x = false
  | [], [], _ => fun _ h => (by cases h)
  | _ :: _, t :: ts, h => fun x hx => by
    rcases List.mem_cons.1 hx with rfl | hx
    · exact h.1.1.isMem
    · exact h.2.mems x hx
  | [], _ :: _, h => h.elim
  | _ :: _, [], h => h.elim

/-- Members that lie in a row of one's own are trees that lie there. -/
theorem mem_trees {W W' : World} {B : Nat} {S S' : Nat → Prop} {g cap : Nat} {cs : List (List Value)} {ts : List Nd} (hv : Mvs W S cs ts) (ho : W.ownsRow B 47 5 (.slice (some ⟨g, 0, none⟩) ts.length cap) ts.length cs.flatten) (hk : Keeps S W W') (hS : ∀ b, S b → S' b) (hg : S' g) (hgk : W'.heap[g]? = W.heap[g]?) :
    ∀ i (h : i < ts.length), NdAt W' S' g (0 + i * 5) ts[i] := fun i h => by
  obtain ⟨c, _, h2, h3, h4⟩ := hv.get (i := i) (List.getElem?_eq_getElem h)
  refine (h2.carry hk hS).at_ hg fun j u hu => ?_
  have hj : j < 5 := by rw [← h3]; exact (List.getElem?_eq_some_iff.1 hu).1
  have := ho.cellAt (i * 5 + j) (by omega)
  rw [h4 j u hu] at this
  rw [Nat.zero_add]
  unfold World.cell? at this ⊢
  simp only at this ⊢
  rw [hgk]; exact this

/-- A round's new member, put behind those there are: the trees stay. -/
theorem mvs_round {w0 : Nat} {wr w2 wA w5 : World} {va v' : Value} {cs : List (List Value)} {ts : List Nd} {c : List Value} {t : Nd} (hv : Mvs wr (fun b => w0 + 2 < b ∧ b < wr.heap.size ∧ va.ownBlock ≠ some b) cs ts)
    (ht : MeV w2 (fun b => wr.heap.size < b ∧ b < w2.heap.size) c t) (hl : c.length = 5) (hB2 : Below wr.heap.size wr w2) (hA : Below w2.heap.size w2 wA) (hg : wA.grownBy w5 va.ownBlock) (hq : ∀ q, va.ownBlock = some q → q < wr.heap.size)
    (hat : v'.ownBlock = va.ownBlock ∨ v'.ownBlock = some wA.heap.size) (hw : w0 + 1 + 1 < wr.heap.size) (o : Nat) (u : Value) :
    Mvs (w5.setCell ⟨w0 + 1 + 1, o, none⟩ u) (fun b => w0 + 2 < b ∧ b < (w5.setCell ⟨w0 + 1 + 1, o, none⟩ u).heap.size ∧ v'.ownBlock ≠ some b) (cs ++ [c]) (ts ++ [t]) := by
  have hs2 := hB2.size
  have hsA := hA.size
  have hs5 := hg.size
  have hsf : (w5.setCell ⟨w0 + 1 + 1, o, none⟩ u).heap.size = w5.heap.size := by simp
  have hk : ∀ b, b < w2.heap.size → w0 + 2 < b → va.ownBlock ≠ some b → (w5.setCell ⟨w0 + 1 + 1, o, none⟩ u).heap[b]? = w2.heap[b]? := fun b h1 h2 h3 => by
    rw [RowKit.Below.heap_setCell _ _ _ _ (show b ≠ w0 + 1 + 1 by omega), hg.block b (by omega) (fun h => h3 h.symm), hA.block b h1]
  have hn : ∀ b, b < w2.heap.size → va.ownBlock ≠ some b → v'.ownBlock ≠ some b := fun b h1 h2 => by
    rcases hat with h | h
    · rw [h]; exact h2
    · rw [h]; intro h'; cases h'; omega
  refine Mvs.snoc (hv.carry (fun b hb => ?_) (fun b hb => ?_)) (ht.carry (fun b hb => ?_) (fun b hb => ?_)) hl
  · obtain ⟨h1, h2, h3⟩ := hb
    rw [hk b (by omega) h1 h3, hB2.block b h2]
  · obtain ⟨h1, h2, h3⟩ := hb
    exact ⟨h1, by rw [hsf]; omega, hn b (by omega) h3⟩
  · obtain ⟨h1, h2⟩ := hb
    exact hk b h2 (by omega) (fun h => by have := hq b h; omega)
  · obtain ⟨h1, h2⟩ := hb
    exact ⟨by omega, by rw [hsf]; omega, hn b h2 (fun h => by have := hq b h; omega)⟩

theorem memInfo : (Tryd.prog.info? 47).map (fun i => (i.zero, i.size, i.bytes)) = some (some (.agg #[.int .i64 0, .string ⟨#[]⟩, .string ⟨#[]⟩, .slice none 0 0, .slice none 0 0]), 5, 88) := by kernel_rfl
end Go.Proofs.YtoopndgdaiblpaaDoor
