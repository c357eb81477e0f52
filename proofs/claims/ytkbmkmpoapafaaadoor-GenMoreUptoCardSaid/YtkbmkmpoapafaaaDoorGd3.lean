/- What the condition of a graph's row gives: the cell of the error that a word's length has; a row's wrap. -/
import Derived.Test.YtkbmkmpoapafaaaDoorGj
namespace Go.Proofs.YtkbmkmpoapafaaaDoor
open Go.ChangeShapes Go.WideShapes Go.ChangeAt Go.RowKit
open Go.ChangeMaps (open_string shut_string)
open Go.Deep Go.Joins

theorem own : ownKnob Tryd.prog.godebug = none := by kernel_rfl
theorem laidOut : laidOutB Tryd.prog = true := by kernel_rfl
abbrev laids : List (String × DataW Unit) := Rows.genMoreRow.laid

/-- What a listed variable holds, by its place in the list. -/
theorem laid_at {P : Program} {w : World} : ∀ {l : List (String × DataW Unit)} {ps : List MemPlace}, DataW.LaidVars P w l ps → ∀ {i : Nat} {x : String × DataW Unit}, l[i]? = some x →
    ∃ g t cs fuel p, P.globalNamed x.1 = some g ∧ (P.globals[g]?).map (·.type) = some t ∧ w.var? P x.1 = some cs ∧ DataW.trod (fun _ => ()) P w 0 (fun _ => true) false fuel t cs.toList = some (x.2, p)
  | [], _, _, _, _, hx => by simp at hx
  | (n, d) :: r, _, ⟨g, t, cs, fuel, p, q, h1, h2, h3, h4, h5, _⟩, 0, x, hx => by
    simp only [List.getElem?_cons_zero, Option.some.injEq] at hx
    subst hx
    exact ⟨g, t, cs, fuel, p, h1, h2, h3, h4⟩
  | (n, d) :: r, _, ⟨g, t, cs, fuel, p, q, h1, h2, h3, h4, h5, _⟩, i + 1, x, hx => laid_at h5 (by simpa using hx)

/-- The door's own heap meets the condition. -/
theorem door_met (os : Os) (args : Array Value) : laidMetH Tryd.prog laids ((World.doorLaid Tryd.prog 400 os).forCall (fun _ _ => 0) ⟨#[], args, []⟩).memory :=
  laidMetH_of_parts3 (fuel := 8) (laidMet_of_run' 8 (by kernel_rfl) (by kernel_rfl)) (by kernel_rfl) (by kernel_rfl)
theorem gerrWord : Tryd.prog.globalNamed "trefoil/lex.errWord" = some 0 := by kernel_rfl
theorem terrWord : (Tryd.prog.globals[0]?).map (·.type) = some 101 := by kernel_rfl
theorem var_lt {P : Program} {w : World} {n : String} {g : Nat} {cs : Array Value} (hg : P.globalNamed n = some g) (h : w.var? P n = some cs) : g < w.heap.size := by
  rcases Nat.lt_or_ge g w.heap.size with h' | h'
  · exact h'
  · unfold World.var? at h
    rw [hg] at h
    simp [Array.getElem?_eq_none h'] at h

set_option maxRecDepth 100000 in
theorem of_laid {W : World} (h : laidMetH Tryd.prog laids W) : ∃ T v, W.cell? ⟨0, 0, none⟩ = some (.iface T v) ∧ 0 < W.heap.size := by
  have h' : laidMet Tryd.prog laids W := h
  obtain ⟨ps, hv, _, _⟩ := h'
  obtain ⟨g, t, cs, f, p, hg, ht, hv2, hd⟩ := laid_at hv (i := 0) (x := ("trefoil/lex.errWord", Rows.laid_trefoil_lex_errWord)) rfl
  obtain rfl := Option.some.inj (gerrWord.symm.trans hg)
  obtain rfl := Option.some.inj (terrWord.symm.trans ht)
  obtain ⟨f', u, v, hcs, _, _⟩ := iface_of_trod Tryd.underlying101 hd
  have := World.var?_cell hg hv2 0
  rw [Array.eq_one_of_toList hcs] at this
  exact ⟨u, v, by simpa using this, var_lt gerrWord hv2⟩

/-- A row's wrap, with a condition on the data, the condition on the laid variables and the world's shape at hand. -/
theorem carriedC {C : Checked} {ls : List (String × DataW Unit)} {H : Type} {enc : TypeId × Value → H} {os : Os} {f : FuncId} {fn : Func} {s : OpenSpec} {k : (H : Type) → List (DataW H) → Bool} (hk : s.cond = some k) {F : Stop.Interp} {apart fresh handsOn again : Bool}
    (own : ownKnob C.prog.godebug = none) (started : os.Started) (noInit : C.prog.inits.idxOf? f = none) (hfn : C.prog.funcs[f]? = some fn)
    (witness : ∃ (w : World) (tape : Tape) (i : Input), w.os = os ∧ (w.forCall tape i).Shaped C.prog ∧ i.vars = [] ∧ Input.okWide C.prog (w.forCall tape i) .any w.heap.size f i ∧
      ((s.pre enc C.prog fn [] apart (w.forCall tape i).memory i.args ∧ laidMetH C.prog ls (w.forCall tape i).memory) ∧ sizedMet enc C.prog fn s apart (w.forCall tape i).memory i.args) ∧
      Assume.holds {} C.prog (lone (Frame.enter C.prog f i.args .normal) [] (w.forCall tape i)))
    (meets : ∀ (W : World) (base : Nat) (args : Array Value) (ds gs : List (DataW H)) (before : List MemPlace),
      (∀ (j : Nat) t v, fn.params[j]? = some t → args[j]? = some v → Value.okWide C.prog W .any base t v) → DataW.Whole enc C.prog fn.params.toList s.vars apart W args.toList ds gs before →
      k H (ds ++ gs) = true → laidMetH C.prog ls W → W.ShapedOpen C.prog →
      Calls C.prog f args W fun e W' => ∃ v, e = .returned v ∧ (s.at F).post enc C.prog fn apart fresh handsOn again W args v W') :
    ReturnsInHanded {} C os f .any (fun w args => (s.pre enc C.prog fn [] apart w args ∧ laidMetH C.prog ls w) ∧ sizedMet enc C.prog fn s apart w args) ((s.at F).post enc C.prog fn apart fresh handsOn again) :=
  returnsInHanded_of_calls (C := C) own started noInit witness fun w tape i _ hsh _ hok hpre _ => by
    obtain ⟨_, _, _, fn', hf', _, _, _, _, hval⟩ := hok
    obtain rfl : fn' = fn := Option.some.inj (hf'.symm.trans hfn)
    obtain ⟨⟨hp0, hx⟩, _⟩ := hpre
    obtain ⟨ds, gs, before, hw, _, hkk⟩ := (OpenSpec.pre_some hk [] apart _ _).1 hp0
    have hw' := DataW.Whole.of_heap (w' := w.forCall tape i) (show (w.forCall tape i).memory.heap = (w.forCall tape i).heap from rfl) hw
    have hlm : laidMetH C.prog ls (w.forCall tape i) := laidMetH.of_heap (w := (w.forCall tape i).memory) rfl hx
    refine (meets (w.forCall tape i) w.heap.size i.args ds gs before hval hw' hkk hlm hsh).mono fun e W' h => ?_
    obtain ⟨v, rfl, hp⟩ := h
    exact ChangeSpec.post_blind hp
end Go.Proofs.YtkbmkmpoapafaaaDoor
