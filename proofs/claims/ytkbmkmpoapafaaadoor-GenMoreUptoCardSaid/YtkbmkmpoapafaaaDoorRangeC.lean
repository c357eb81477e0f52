/- A range over a function whose iterator writes nothing: the rounds may change whatever is named, new blocks too. -/
import Derived.Test.YtkbmkmpoapafaaaDoorRangeG
namespace Go.Proofs.YtkbmkmpoapafaaaDoor
open Go.ChangeShapes Go.WideShapes Go.ChangeAt Go.RowKit

/-- What an iterator is asked that writes nothing of its own: the rounds' word needn't stand any change but theirs. -/
def Iterates2 {α : Type} (n : Nat) (P : Program) (gf : Nat) (lb : Array Value) (encs : α → Array Value) (S Sp : List α → Prop) (R : List α → α → Prop) (M : Nat → Prop) (l : Nat) (A : World) : Prop :=
  ∀ (J Jx : List α → World → Prop),
    (∀ pre x B, J pre B → R pre x → YieldAt Fence.wide (n - 1) P l (encs x) B fun e B' => (e = .returned (.bool true) ∧ J (pre ++ [x]) B' ∧ Free M B B') ∨ (e = .returned (.bool false) ∧ Jx (pre ++ [x]) B')) →
    J [] A → CallsIn Fence.wide n P gf (#[.func (.yield l) #[] #[]] ++ lb) A fun e B => (∃ v, e = .returned v) ∧ ((∃ xs, S xs ∧ J xs B) ∨ (∃ pre, Sp pre ∧ Jx pre B))

theorem range_law_c {α : Type} {n : Nat} {P : Program} {g : Operand} {ps : Array Tmp} {assign body : Code} {Q : Exit → Act → World → Prop} {a : Act} {w : World}
    {gf : Nat} {lb : Array Value} (hg : a.eval g = .func (.func gf) #[] lb) (eg : ∀ args w, (callFunc gf args).run P w = .ok (.enter gf args) w)
    {encs : α → Array Value} (hps : ∀ x, (encs x).size = ps.size) {S Sp : List α → Prop} {R : List α → α → Prop} {M : Nat → Prop} (hM : ∀ k, M k → k ≠ w.heap.size ∧ k ≠ w.heap.size + 1)
    (hiter : ∀ A, A.heap.size = w.heap.size + 2 → Below w.heap.size w A → Iterates2 (n - 1) P gf lb encs S Sp R (fun k => M k ∨ k = w.heap.size + 1) (w.heap.size + 1) A)
    (I Ix : List α → World → Prop) (hI : ∀ s B B', I s B → Free (fun k => k = w.heap.size ∨ k = w.heap.size + 1) B B' → I s B') (hIx : ∀ s B B', Ix s B → Free (fun k => k = w.heap.size ∨ k = w.heap.size + 1) B B' → Ix s B') (h0 : I [] w) (a₁ : α → Act)
    (hassign : ∀ (x : α) (B : World) (K : Act → World → Prop), K (a₁ x) B →
      assign.wpIn (Fence.wide.inRound (w.heap.size + 1)) (n - 1 - 1) P (Exit.then K (fun _ _ _ => False)) { tmps := (ps.zip (encs x)).foldl (fun t (p, v) => t.setIfInBounds p v) a.tmps, defers := [] } B)
    (hbody : ∀ (pre : List α) (x : α) (B : World), I pre B → R pre x → w.heap.size + 2 ≤ B.heap.size → body.wpIn (Fence.wide.inRound (w.heap.size + 1)) (n - 1 - 1) P (roundLeft M I Ix (pre ++ [x]) B) (a₁ x) B)
    (hdone : ∀ (xs : List α) (B : World), S xs → I xs B → B.heap[w.heap.size]? = some (.deferred (some [])) → Q .normal { a with defers := { target := .collected w.heap.size, args := #[] } :: a.defers } B)
    (hstop : ∀ (pre : List α) (B : World), Sp pre → Ix pre B → B.heap[w.heap.size]? = some (.deferred (some [])) → Code.ret.wpIn Fence.wide n P Q { a with defers := { target := .collected w.heap.size, args := #[] } :: a.defers } B) :
    (Code.rangeFunc g ps assign body).wpIn Fence.wide n P Q a w := by
  refine wpIn_rangeFunc fun fn _ => ?_
  obtain ⟨rec, hrec⟩ : ∃ rec : LoopState → Option Code → Loop, rec = fun st pe => { state := st, pending := pe, fn, tmps := a.tmps, params := ps, assign, body, defers := w.heap.size } := ⟨_, rfl⟩
  obtain ⟨A, hA⟩ : ∃ A, (w.alloc (.deferred (some []))).alloc (.loop (rec .ready none)) = A := ⟨_, rfl⟩
  have hsz : A.heap.size = w.heap.size + 2 := by rw [← hA]; simp
  have hl : A.heap[w.heap.size + 1]? = some (.loop (rec .ready none)) := by
    rw [← hA]; have := World.alloc_heap_new (w.alloc (.deferred (some []))) (.loop (rec .ready none)); rwa [World.size_alloc] at this
  have hk : A.heap[w.heap.size]? = some (.deferred (some [])) := by
    rw [← hA]; exact (Below.heap_alloc _ _ _ (by simp)).trans (World.alloc_heap_new w _)
  have hB : Below w.heap.size w A := by rw [← hA]; exact ((Below.refl _ w).alloc (Nat.le_refl _) _).alloc (by simp) _
  have hFA : Free (fun k => k = w.heap.size ∨ k = w.heap.size + 1) w A := by rw [← hA]; exact ((Free.refl _ w).alloc _).alloc _
  refine ⟨w.heap.size + 1, [{ target := .collected w.heap.size, args := #[] }], A, { target := .fn (.func gf) lb, args := #[.func (.yield (w.heap.size + 1)) #[] #[]] }, A, gf,
    #[.func (.yield (w.heap.size + 1)) #[] #[]] ++ lb, A, ?_, ?_, fun _ _ => trivial, ?_, fun h => by simp [Fence.wide] at h, ?_⟩
  · rw [← hA, hrec]; exact run_enterLoop_outer _ _ _ _ _
  · simp only [resolve, hg]; simp [go_sem]
  · simp [invoke, go_sem, eg]
  · refine (hiter A hsz hB
      (fun pre B => I pre B ∧ w.heap.size + 2 ≤ B.heap.size ∧ B.heap[w.heap.size + 1]? = some (.loop (rec .ready none)) ∧ B.heap[w.heap.size]? = some (.deferred (some [])))
      (fun pre B => Ix pre B ∧ B.heap[w.heap.size + 1]? = some (.loop (rec .done (some .ret))) ∧ B.heap[w.heap.size]? = some (.deferred (some [])))
      ?_ ⟨hI _ _ _ h0 hFA, by omega, hl, hk⟩).mono ?_
    · rintro pre x B ⟨hi, hsB, hlB, hkB⟩ hR
      have hy := run_yield (P := P) (args := encs x) hlB (by rw [hrec]; exact hps x)
      rw [hrec] at hy
      refine ⟨fn, _, assign, body, hy, roundIn_of_wpIn trivial (hassign x B _ ⟨_, run_beginRound hlB (by rw [hrec]), ?_⟩)⟩
      obtain ⟨B1, hB1⟩ : ∃ B1, B.putObj (w.heap.size + 1) (.loop { rec .ready none with state := .busy }) = B1 := ⟨_, rfl⟩
      have hl1 : B1.heap[w.heap.size + 1]? = some (.loop (rec .busy none)) := by
        rw [← hB1]; have := World.putObj_heap_same (w := B) (r := w.heap.size + 1) (o := .loop { rec .ready none with state := .busy }) (by omega); rw [this, hrec]
      have hk1 : B1.heap[w.heap.size]? = some (.deferred (some [])) := by rw [← hB1]; exact (World.putObj_heap_other (by omega)).trans hkB
      have hF1 : Free (fun k => M k ∨ k = w.heap.size + 1) B B1 := by rw [← hB1]; exact (Free.refl _ B).putObj (.inr rfl) _
      have hs1 : w.heap.size + 2 ≤ B1.heap.size := Nat.le_trans hsB hF1.size
      have hi1 : I pre B1 := hI _ _ _ hi (by rw [← hB1]; exact (Free.refl _ B).putObj (.inr rfl) _)
      rw [hB1]
      refine wpIn_mono (hbody pre x B1 hi1 hR hs1) ?_
      have fin : ∀ (jump : Option Code) (B3 : World), Free M B1 B3 →
          (Instr.endRound (w.heap.size + 1) jump).run P B3 = .ok (.bool jump.isNone) (B3.putObj (w.heap.size + 1) (.loop (rec (if jump.isNone then .ready else .done) jump))) ∧
          (B3.putObj (w.heap.size + 1) (.loop (rec (if jump.isNone then .ready else .done) jump))).heap[w.heap.size + 1]? = some (.loop (rec (if jump.isNone then .ready else .done) jump)) ∧
          (B3.putObj (w.heap.size + 1) (.loop (rec (if jump.isNone then .ready else .done) jump))).heap[w.heap.size]? = some (.deferred (some [])) := fun jump B3 h3 => by
        have h3s := h3.size
        have hl3 : B3.heap[w.heap.size + 1]? = some (.loop (rec .busy none)) := (h3.block _ (by omega) (fun h => (hM _ h).2 rfl)).trans hl1
        have hk3 : B3.heap[w.heap.size]? = some (.deferred (some [])) := (h3.block _ (by omega) (fun h => (hM _ h).1 rfl)).trans hk1
        have := run_endRound (P := P) jump hl3
        rw [hrec] at this ⊢
        exact ⟨this, World.putObj_heap_same (by omega), (World.putObj_heap_other (by omega)).trans hk3⟩
      rintro e a3 B3 hp
      cases e with
      | normal =>
        obtain ⟨h3, hi3⟩ := hp
        have h3s := h3.size
        obtain ⟨hr, hl4, hk4⟩ := fin none B3 h3
        exact ⟨_, _, hr, .inl ⟨rfl, ⟨hI _ _ _ hi3 ((Free.refl _ B3).putObj (.inr rfl) _), by simp; omega, hl4, hk4⟩, (hF1.trans (h3.mono fun k h => .inl h)).putObj (.inr rfl) _⟩⟩
      | ret =>
        obtain ⟨h3, hi3⟩ := hp
        obtain ⟨hr, hl4, hk4⟩ := fin (some .ret) B3 h3
        exact ⟨_, _, hr, .inr ⟨rfl, hIx _ _ _ hi3 ((Free.refl _ B3).putObj (.inr rfl) _), hl4, hk4⟩⟩
      | exit id => exact hp.elim
      | goto t => exact hp.elim
      | panic ch => exact hp.elim
      | outgrown => exact hp.elim
    · rintro e B ⟨⟨v, rfl⟩, (⟨xs, hS, hi, _, hlB, hkB⟩ | ⟨pre, hSp, hi, hlB, hkB⟩)⟩
      · exact ⟨none, _, by have := run_endLoop (P := P) hlB (by rw [hrec]; simp); rw [hrec] at this; exact this, hdone xs _ hS (hI _ _ _ hi ((Free.refl _ B).putObj (.inr rfl) _)) ((World.putObj_heap_other (by omega)).trans hkB)⟩
      · exact ⟨some .ret, _, by have := run_endLoop (P := P) hlB (by rw [hrec]; simp); rw [hrec] at this; exact this, hstop pre _ hSp (hIx _ _ _ hi ((Free.refl _ B).putObj (.inr rfl) _)) ((World.putObj_heap_other (by omega)).trans hkB)⟩
end Go.Proofs.YtkbmkmpoapafaaaDoor
