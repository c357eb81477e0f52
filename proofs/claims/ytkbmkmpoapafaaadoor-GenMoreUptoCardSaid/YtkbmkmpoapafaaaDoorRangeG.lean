/- A range over a function whose iterator keeps a row of its own: what the body may change is named, the iterator's own blocks lie beyond. -/
import Derived.RangeFuncFrom
import Derived.RangeFuncLeaves
import Derived.Test.YtkbmkmpoapafaaaDoorGh
namespace Go.Proofs.YtkbmkmpoapafaaaDoor
open Go.ChangeShapes Go.WideShapes Go.ChangeAt Go.RowKit

/-- All lies as it lay but what M names. -/
structure Free (M : Nat → Prop) (A B : World) : Prop where
  os : B.os = A.os
  tape : B.tape = A.tape
  output : B.output = A.output
  size : A.heap.size ≤ B.heap.size
  block : ∀ k, k < A.heap.size → ¬ M k → B.heap[k]? = A.heap[k]?

theorem Free.refl (M : Nat → Prop) (A : World) : Free M A A := ⟨rfl, rfl, rfl, Nat.le_refl _, fun _ _ _ => rfl⟩
theorem Free.trans {M : Nat → Prop} {A B C : World} (h : Free M A B) (k : Free M B C) : Free M A C :=
  ⟨k.os.trans h.os, k.tape.trans h.tape, k.output.trans h.output, Nat.le_trans h.size k.size, fun i hi hm => (k.block i (Nat.lt_of_lt_of_le hi h.size) hm).trans (h.block i hi hm)⟩
theorem Free.mono {M M' : Nat → Prop} {A B : World} (h : Free M A B) (hm : ∀ k, M k → M' k) : Free M' A B := ⟨h.os, h.tape, h.output, h.size, fun k hk hn => h.block k hk (fun h' => hn (hm k h'))⟩
theorem Free.alloc {M : Nat → Prop} {A B : World} (h : Free M A B) (o : Obj) : Free M A (B.alloc o) :=
  h.trans ⟨rfl, rfl, rfl, by simp, fun k hk _ => Below.heap_alloc B o k hk⟩
theorem Free.setCell {M : Nat → Prop} {A B : World} (h : Free M A B) {p : Addr} (hp : M p.block) (u : Value) : Free M A (B.setCell p u) :=
  h.trans ⟨rfl, rfl, rfl, by simp, fun k _ hn => Below.heap_setCell B p u k (fun e => hn (e ▸ hp))⟩
theorem Free.putObj {M : Nat → Prop} {A B : World} (h : Free M A B) {l : Nat} (hl : M l) (o : Obj) : Free M A (B.putObj l o) :=
  h.trans ⟨rfl, rfl, rfl, by simp, fun k _ hn => World.putObj_heap_other (fun e => hn (e ▸ hl))⟩
theorem Free.below {M : Nat → Prop} {B : Nat} {A A' : World} (h : Free M A A') (hm : ∀ k, M k → B ≤ k) (hB : B ≤ A.heap.size) : Below B A A' :=
  ⟨h.os, h.tape, h.output, h.size, fun k hk => h.block k (Nat.lt_of_lt_of_le hk hB) (fun hM => Nat.lt_irrefl k (Nat.lt_of_lt_of_le hk (hm k hM)))⟩
theorem below_put {B : Nat} {A : World} {l : Nat} (hl : B ≤ l) (o : Obj) : Below B A (A.putObj l o) :=
  ⟨rfl, rfl, rfl, by simp, fun k hk => World.putObj_heap_other (fun e => by omega)⟩

/-- How a round may be left: on, or by a return. -/
def roundLeft {α : Type} (M : Nat → Prop) (I Ix : List α → World → Prop) (xs : List α) (A : World) : Exit → Act → World → Prop
  | .normal, _, A' => Free M A A' ∧ I xs A'
  | .ret, _, A' => Free M A A' ∧ Ix xs A'
  | _, _, _ => False

/-- What an iterator is asked: whatever the rounds say of blocks ahead of it they say on; each round keeps all but what is named. -/
def Iterates {α : Type} (n : Nat) (P : Program) (gf : Nat) (lb : Array Value) (encs : α → Array Value) (S Sp : List α → Prop) (R : List α → α → Prop) (M : Nat → Prop) (l : Nat) (A : World) : Prop :=
  ∀ (J Jx : List α → World → Prop), (∀ s B B', J s B → Below A.heap.size B B' → J s B') →
    (∀ pre x B, J pre B → R pre x → YieldAt Fence.wide (n - 1) P l (encs x) B fun e B' => (e = .returned (.bool true) ∧ J (pre ++ [x]) B' ∧ Free M B B') ∨ (e = .returned (.bool false) ∧ Jx (pre ++ [x]) B')) →
    J [] A → CallsIn Fence.wide n P gf (#[.func (.yield l) #[] #[]] ++ lb) A fun e B => (∃ v, e = .returned v) ∧ ((∃ xs, S xs ∧ J xs B) ∨ (∃ pre, Sp pre ∧ Jx pre B))

theorem range_law {α : Type} {n : Nat} {P : Program} {g : Operand} {ps : Array Tmp} {assign body : Code} {Q : Exit → Act → World → Prop} {a : Act} {w : World}
    {gf : Nat} {lb : Array Value} (hg : a.eval g = .func (.func gf) #[] lb) (eg : ∀ args w, (callFunc gf args).run P w = .ok (.enter gf args) w)
    {encs : α → Array Value} (hps : ∀ x, (encs x).size = ps.size) {S Sp : List α → Prop} {R : List α → α → Prop} {M : Nat → Prop} (hM : ∀ k, M k → k < w.heap.size)
    (hiter : ∀ A, A.heap.size = w.heap.size + 2 → Below w.heap.size w A → Iterates (n - 1) P gf lb encs S Sp R (fun k => M k ∨ k = w.heap.size + 1) (w.heap.size + 1) A)
    (I Ix : List α → World → Prop) (hI : ∀ s B B', I s B → Below w.heap.size B B' → I s B') (hIx : ∀ s B B', Ix s B → Below w.heap.size B B' → Ix s B') (h0 : I [] w) (a₁ : α → Act)
    (hassign : ∀ (x : α) (B : World) (K : Act → World → Prop), K (a₁ x) B →
      assign.wpIn (Fence.wide.inRound (w.heap.size + 1)) (n - 1 - 1) P (Exit.then K (fun _ _ _ => False)) { tmps := (ps.zip (encs x)).foldl (fun t (p, v) => t.setIfInBounds p v) a.tmps, defers := [] } B)
    (hbody : ∀ (pre : List α) (x : α) (B : World), I pre B → R pre x → w.heap.size + 2 ≤ B.heap.size → body.wpIn (Fence.wide.inRound (w.heap.size + 1)) (n - 1 - 1) P (roundLeft M I Ix (pre ++ [x]) B) (a₁ x) B)
    (hdone : ∀ (xs : List α) (B : World), S xs → I xs B → B.heap[w.heap.size]? = some (.deferred (some [])) → Q .normal { a with defers := { target := .collected w.heap.size, args := #[] } :: a.defers } B)
    (hstop : ∀ (pre : List α) (B : World), Sp pre → Ix pre B → B.heap[w.heap.size]? = some (.deferred (some [])) → Code.ret.wpIn Fence.wide n P Q { a with defers := { target := .collected w.heap.size, args := #[] } :: a.defers } B) :
    (Code.rangeFunc g ps assign body).wpIn Fence.wide n P Q a w := by
  refine wpIn_rangeFunc fun fn _ => ?_
  obtain ⟨rec, hrec⟩ : ∃ rec : LoopState → Option Code → Loop, rec = fun st pe => { state := st, pending := pe, fn, tmps := a.tmps, params := ps, assign, body, defers := w.heap.size } := ⟨_, rfl⟩
  obtain ⟨A, hA⟩ : ∃ A, (w.alloc (.deferred (some []))).alloc (.loop (rec .ready none)) = A := ⟨_, rfl⟩
  have hsz : A.heap.size = w.heap.size + 2 := by rw [← hA]; simp
  have hl : A.heap[w.heap.size + 1]? = some (.loop (rec .ready none)) := by
    rw [← hA]; have := World.alloc_heap_new (w.alloc (.deferred (some []))) (.loop (rec .ready none)); rwa [World.size_alloc] at this
  have hk : A.heap[w.heap.size]? = some (.deferred (some [])) := by
    rw [← hA]; exact (Below.heap_alloc _ _ _ (by simp)).trans (World.alloc_heap_new w _)
  have hB : Below w.heap.size w A := by rw [← hA]; exact ((Below.refl _ w).alloc (Nat.le_refl _) _).alloc (by simp) _
  refine ⟨w.heap.size + 1, [{ target := .collected w.heap.size, args := #[] }], A, { target := .fn (.func gf) lb, args := #[.func (.yield (w.heap.size + 1)) #[] #[]] }, A, gf,
    #[.func (.yield (w.heap.size + 1)) #[] #[]] ++ lb, A, ?_, ?_, fun _ _ => trivial, ?_, fun h => by simp [Fence.wide] at h, ?_⟩
  · rw [← hA, hrec]; exact run_enterLoop_outer _ _ _ _ _
  · simp only [resolve, hg]; simp [go_sem]
  · simp [invoke, go_sem, eg]
  · refine (hiter A hsz hB
      (fun pre B => I pre B ∧ w.heap.size + 2 ≤ B.heap.size ∧ B.heap[w.heap.size + 1]? = some (.loop (rec .ready none)) ∧ B.heap[w.heap.size]? = some (.deferred (some [])))
      (fun pre B => Ix pre B ∧ B.heap[w.heap.size + 1]? = some (.loop (rec .done (some .ret))) ∧ B.heap[w.heap.size]? = some (.deferred (some [])))
      (fun s B B' h hb => ⟨hI s B B' h.1 (hb.mono (by omega)), Nat.le_trans h.2.1 hb.size, (hb.block _ (by omega)).trans h.2.2.1, (hb.block _ (by omega)).trans h.2.2.2⟩)
      ?_ ⟨hI _ _ _ h0 hB, by omega, hl, hk⟩).mono ?_
    · rintro pre x B ⟨hi, hsB, hlB, hkB⟩ hR
      have hy := run_yield (P := P) (args := encs x) hlB (by rw [hrec]; exact hps x)
      rw [hrec] at hy
      refine ⟨fn, _, assign, body, hy, roundIn_of_wpIn trivial (hassign x B _ ⟨_, run_beginRound hlB (by rw [hrec]), ?_⟩)⟩
      obtain ⟨B1, hB1⟩ : ∃ B1, B.putObj (w.heap.size + 1) (.loop { rec .ready none with state := .busy }) = B1 := ⟨_, rfl⟩
      have hl1 : B1.heap[w.heap.size + 1]? = some (.loop (rec .busy none)) := by
        rw [← hB1]; have := World.putObj_heap_same (w := B) (r := w.heap.size + 1) (o := .loop { rec .ready none with state := .busy }) (by omega); rw [this, hrec]
      have hk1 : B1.heap[w.heap.size]? = some (.deferred (some [])) := by rw [← hB1]; exact (World.putObj_heap_other (by omega)).trans hkB
      have hF1 : Free (fun k => M k ∨ k = w.heap.size + 1) B B1 := by rw [← hB1]; exact (Free.refl _ B).putObj (.inr rfl) _
      have hs1 : w.heap.size + 2 ≤ B1.heap.size := Nat.le_trans hsB hF1.size
      have hi1 : I pre B1 := hI _ _ _ hi (by rw [← hB1]; exact below_put (by omega) _)
      rw [hB1]
      refine wpIn_mono (hbody pre x B1 hi1 hR hs1) ?_
      have fin : ∀ (jump : Option Code) (B3 : World), Free M B1 B3 →
          (Instr.endRound (w.heap.size + 1) jump).run P B3 = .ok (.bool jump.isNone) (B3.putObj (w.heap.size + 1) (.loop (rec (if jump.isNone then .ready else .done) jump))) ∧
          (B3.putObj (w.heap.size + 1) (.loop (rec (if jump.isNone then .ready else .done) jump))).heap[w.heap.size + 1]? = some (.loop (rec (if jump.isNone then .ready else .done) jump)) ∧
          (B3.putObj (w.heap.size + 1) (.loop (rec (if jump.isNone then .ready else .done) jump))).heap[w.heap.size]? = some (.deferred (some [])) := fun jump B3 h3 => by
        have h3s := h3.size
        have hl3 : B3.heap[w.heap.size + 1]? = some (.loop (rec .busy none)) := (h3.block _ (by omega) (fun h => by have := hM _ h; omega)).trans hl1
        have hk3 : B3.heap[w.heap.size]? = some (.deferred (some [])) := (h3.block _ (by omega) (fun h => by have := hM _ h; omega)).trans hk1
        have := run_endRound (P := P) jump hl3
        rw [hrec] at this ⊢
        exact ⟨this, World.putObj_heap_same (by omega), (World.putObj_heap_other (by omega)).trans hk3⟩
      rintro e a3 B3 hp
      cases e with
      | normal =>
        obtain ⟨h3, hi3⟩ := hp
        have h3s := h3.size
        obtain ⟨hr, hl4, hk4⟩ := fin none B3 h3
        exact ⟨_, _, hr, .inl ⟨rfl, ⟨hI _ _ _ hi3 (below_put (by omega) _), by simp; omega, hl4, hk4⟩, (hF1.trans (h3.mono fun k h => .inl h)).putObj (.inr rfl) _⟩⟩
      | ret =>
        obtain ⟨h3, hi3⟩ := hp
        obtain ⟨hr, hl4, hk4⟩ := fin (some .ret) B3 h3
        exact ⟨_, _, hr, .inr ⟨rfl, hIx _ _ _ hi3 (below_put (by omega) _), hl4, hk4⟩⟩
      | exit id => exact hp.elim
      | goto t => exact hp.elim
      | panic ch => exact hp.elim
      | outgrown => exact hp.elim
    · rintro e B ⟨⟨v, rfl⟩, (⟨xs, hS, hi, _, hlB, hkB⟩ | ⟨pre, hSp, hi, hlB, hkB⟩)⟩
      · exact ⟨none, _, by have := run_endLoop (P := P) hlB (by rw [hrec]; simp); rw [hrec] at this; exact this, hdone xs _ hS (hI _ _ _ hi (below_put (by omega) _)) ((World.putObj_heap_other (by omega)).trans hkB)⟩
      · exact ⟨some .ret, _, by have := run_endLoop (P := P) hlB (by rw [hrec]; simp); rw [hrec] at this; exact this, hstop pre _ hSp (hIx _ _ _ hi (below_put (by omega) _)) ((World.putObj_heap_other (by omega)).trans hkB)⟩
end Go.Proofs.YtkbmkmpoapafaaaDoor
