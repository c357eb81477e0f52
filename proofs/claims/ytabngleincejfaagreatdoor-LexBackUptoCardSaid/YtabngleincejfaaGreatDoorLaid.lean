/- What the condition of a row over package lex gives: the cells of its errors, of a type's handle, and of the tables. -/
import Derived.Test.YtabngleincejfaaGreatDoorSkip
import Derived.Test.YtabngleincejfaaGreatDoorShelf
import Derived.Test.YtabngleincejfaaGreatDoorRows
import Derived.WalkKit
import Derived.ProofKit
import Derived.OpenShut
import Derived.ShutString
import Derived.ChangeOld
import Derived.Below
import Derived.Carry
import Derived.LaidMore
import Derived.LaidLaws
import Derived.LaidHandle
import Derived.Handed
import Derived.Stop.Joined
import Derived.Lib.SmallJoins
namespace Go.Proofs.YtabngleincejfaaGreatDoor
open Go.ChangeShapes Go.WideShapes Go.ChangeAt Go.RowKit
open Go.ChangeMaps (open_string shut_string)
open Go.Deep Go.Joins

theorem own : ownKnob Tryz.prog.godebug = none := by kernel_rfl
theorem laidOut : laidOutB Tryz.prog = true := by kernel_rfl
abbrev laids : List (String × DataW Unit) := Rows.lexBackUptoRow.laid
abbrev plain : List (String × DataW Unit) := laids.filter fun x => x.2.handleName?.isNone

/-- What a listed variable holds, by its place in the list. -/
theorem laid_at {P : Program} {w : World} : ∀ {l : List (String × DataW Unit)} {ps : List MemPlace}, DataW.LaidVars P w l ps → ∀ {i : Nat} {x : String × DataW Unit}, l[i]? = some x →
    ∃ g t cs fuel p, P.globalNamed x.1 = some g ∧ (P.globals[g]?).map (·.type) = some t ∧ w.var? P x.1 = some cs ∧ DataW.trod (fun _ => ()) P w 0 (fun _ => true) false fuel t cs.toList = some (x.2, p)
  | [], _, _, _, _, hx => by simp at hx
  | (n, d) :: r, _, ⟨g, t, cs, fuel, p, q, h1, h2, h3, h4, h5, _⟩, 0, x, hx => by
    simp only [List.getElem?_cons_zero, Option.some.injEq] at hx
    subst hx
    exact ⟨g, t, cs, fuel, p, h1, h2, h3, h4⟩
  | (n, d) :: r, _, ⟨g, t, cs, fuel, p, q, h1, h2, h3, h4, h5, _⟩, i + 1, x, hx => laid_at h5 (by simpa using hx)

theorem gPow : Tryz.prog.globalNamed "internal/strconv.uint64pow10" = some 5 := by kernel_rfl
theorem tPow : (Tryz.prog.globals[5]?).map (·.type) = some 105 := by kernel_rfl
theorem cPow : Tryz.prog.cellsOf 105 = 20 := by kernel_rfl
theorem ePow : Tryz.prog.cellsOf 77 = 1 := by kernel_rfl
/-- The door's own heap meets the condition. -/
theorem door_met (os : Os) (args : Array Value) : laidMetH Tryz.prog laids ((World.doorLaid Tryz.prog 400 os).forCall (fun _ _ => 0) ⟨#[], args, []⟩).memory :=
  laidMetH_of_parts3 (fuel := 8) (laidMet_of_run' 8 (by kernel_rfl) (by kernel_rfl)) (by kernel_rfl) (by kernel_rfl)

theorem gerrByte : Tryz.prog.globalNamed "trefoil/lex.errByte" = some 4 := by kernel_rfl
theorem terrByte : (Tryz.prog.globals[4]?).map (·.type) = some 38 := by kernel_rfl
theorem gerrNumber : Tryz.prog.globalNamed "trefoil/lex.errNumber" = some 3 := by kernel_rfl
theorem terrNumber : (Tryz.prog.globals[3]?).map (·.type) = some 38 := by kernel_rfl
theorem gerrWord : Tryz.prog.globalNamed "trefoil/lex.errWord" = some 1 := by kernel_rfl
theorem terrWord : (Tryz.prog.globals[1]?).map (·.type) = some 38 := by kernel_rfl
theorem gerrText : Tryz.prog.globalNamed "trefoil/lex.errText" = some 7 := by kernel_rfl
theorem terrText : (Tryz.prog.globals[7]?).map (·.type) = some 38 := by kernel_rfl
theorem gerrNote : Tryz.prog.globalNamed "trefoil/lex.errNote" = some 2 := by kernel_rfl
theorem terrNote : (Tryz.prog.globals[2]?).map (·.type) = some 38 := by kernel_rfl
theorem gRng : Tryz.prog.globalNamed "strconv.ErrRange" = some 11 := by kernel_rfl
theorem tRng : (Tryz.prog.globals[11]?).map (·.type) = some 38 := by kernel_rfl
theorem var_lt {P : Program} {w : World} {n : String} {g : Nat} {cs : Array Value} (hg : P.globalNamed n = some g) (h : w.var? P n = some cs) : g < w.heap.size := by
  rcases Nat.lt_or_ge g w.heap.size with h' | h'
  · exact h'
  · unfold World.var? at h
    rw [hg] at h
    simp [Array.getElem?_eq_none h'] at h

theorem gBru : Tryz.prog.globalNamed "math/bits.deBruijn64tab" = some 9 := by kernel_rfl
theorem gBrv : Tryz.prog.globalNamed "math/bits.deBruijn32tab" = some 8 := by kernel_rfl
theorem gEt : Tryz.prog.globalNamed "errors.errorType" = some 0 := by kernel_rfl
theorem rt : (Tryz.prog.cutTypes.find? (·.1 == "internal/reflectlite.rtype")).map (·.2) = some 90 := by kernel_rfl
theorem oneRow : ((List.range (261 - 100)).filter fun t => Tryz.prog.rowNamed t [101, 114, 114, 111, 114]) = [38] := by kernel_rfl
theorem tsize : Tryz.prog.types.size = 261 - 100 := by kernel_rfl
theorem hdl : typeHandle Tryz.prog 38 = .pointer (some ⟨12, 38, none⟩) := by kernel_rfl

/-- An error's cell. -/
theorem err_cell {W : World} {ps : List MemPlace} (hv : DataW.LaidVars Tryz.prog W plain ps) {i G : Nat} {n : String} {d : DataW Unit} (hi : plain[i]? = some (n, d)) (hd : ∃ a b, d = .iface a b)
    (gn : Tryz.prog.globalNamed n = some G) (tn : (Tryz.prog.globals[G]?).map (·.type) = some 38) : ∃ u v, W.cell? ⟨G, 0, none⟩ = some (.iface u v) ∧ W.var? Tryz.prog n = some #[.iface u v] := by
  obtain ⟨a, b, rfl⟩ := hd
  obtain ⟨g, t, cs, f, p, hg, ht, hv2, hd⟩ := laid_at hv hi
  obtain rfl := Option.some.inj (gn.symm.trans hg)
  obtain rfl := Option.some.inj (tn.symm.trans ht)
  obtain ⟨f', u, v, hcs, _, _⟩ := iface_of_trod Tryz.underlying38 hd
  have := World.var?_cell hg hv2 0
  rw [Array.eq_one_of_toList hcs] at this
  exact ⟨u, v, by simpa using this, by rw [hv2, Array.eq_one_of_toList hcs]⟩

set_option maxRecDepth 100000 in
theorem of_laid {W : World} (h : laidMetH Tryz.prog laids W) (hsh : W.ShapedOpen Tryz.prog) : Lib.TabIs Tryz.prog W "internal/strconv.uint64pow10" .u64 Lib.pow10Tab ∧ ∃ E, EnvL E W := by
  have h' : laidMet Tryz.prog plain W ∧ handlesMet Tryz.prog (laids.filter fun x => x.2.handleName?.isSome) W := h
  obtain ⟨ps, hv, _, _⟩ := h'.1
  constructor
  · obtain ⟨g, t, cs, f, p, hg, ht, hv2, hd⟩ := laid_at hv (i := 2) (x := ("internal/strconv.uint64pow10", Rows.laid_internal_strconv_uint64pow10)) rfl
    obtain rfl := Option.some.inj (gPow.symm.trans hg)
    obtain rfl := Option.some.inj (tPow.symm.trans ht)
    unfold Lib.TabIs
    rw [hv2, ← Lib.cells_of_tab Tryz.underlying105 Tryz.underlying77 ePow cPow (zs := Lib.pow10Tab) (k := .u64) hd]
  · obtain ⟨tp, pv, _, hR⟩ := err_cell hv (i := 3) (n := "strconv.ErrRange") (d := Rows.laid_strconv_ErrRange) rfl ⟨_, _, rfl⟩ gRng tRng
    obtain ⟨tb, vb, hb, _⟩ := err_cell hv (i := 5) (n := "trefoil/lex.errByte") (d := Rows.laid_trefoil_lex_errByte) rfl ⟨_, _, rfl⟩ gerrByte terrByte
    obtain ⟨tn, vn, hn, _⟩ := err_cell hv (i := 6) (n := "trefoil/lex.errNumber") (d := Rows.laid_trefoil_lex_errNumber) rfl ⟨_, _, rfl⟩ gerrNumber terrNumber
    obtain ⟨tw, vw, hw, _⟩ := err_cell hv (i := 7) (n := "trefoil/lex.errWord") (d := Rows.laid_trefoil_lex_errWord) rfl ⟨_, _, rfl⟩ gerrWord terrWord
    obtain ⟨tt, vt, htx, _⟩ := err_cell hv (i := 8) (n := "trefoil/lex.errText") (d := Rows.laid_trefoil_lex_errText) rfl ⟨_, _, rfl⟩ gerrText terrText
    obtain ⟨to, vo, ho, _⟩ := err_cell hv (i := 9) (n := "trefoil/lex.errNote") (d := Rows.laid_trefoil_lex_errNote) rfl ⟨_, _, rfl⟩ gerrNote terrNote
    obtain ⟨m, hm⟩ := Tryz.laysM143.s1_3 W hsh
    have hat : 12 ≤ W.heap.size := by
      obtain ⟨g, t, cs, f, p, hg, ht, hv2, hd⟩ := laid_at hv (i := 1) (x := ("math/bits.deBruijn64tab", Rows.laid_math_bits_deBruijn64tab)) rfl
      obtain ⟨g', t', cs', f', p', hg', ht', hv2', hd'⟩ := laid_at hv (i := 0) (x := ("math/bits.deBruijn32tab", Rows.laid_math_bits_deBruijn32tab)) rfl
      have h1 := var_lt gBru hv2
      have h2 := var_lt gBrv hv2'
      have h3 := var_lt gRng hR
      omega
    have hH : W.cell? ⟨0, 0, none⟩ = some (.iface 90 (.agg #[.pointer (some ⟨12, 38, none⟩)])) := by
      obtain ⟨name, u, ty, e1, e2, e3, e4, e5⟩ := h'.2 ("errors.errorType", Rows.laid_errors_errorType) (List.mem_singleton.2 rfl)
      have en : name = [101, 114, 114, 111, 114] := (Option.some.inj e1).symm
      subst en
      obtain rfl := Option.some.inj (rt.symm.trans e2)
      have hm : ty ∈ (List.range (261 - 100)).filter fun t => Tryz.prog.rowNamed t [101, 114, 114, 111, 114] := List.mem_filter.2 ⟨List.mem_range.2 (by rw [← tsize]; exact e3), e4⟩
      rw [oneRow] at hm
      obtain rfl := List.mem_singleton.1 hm
      rw [hdl] at e5
      simpa using World.var?_cell gEt e5 0
    exact ⟨⟨tb, vb, tn, vn, tw, vw, tt, vt, to, vo, tp, pv, m⟩, hb, hw, htx, ho, hm, hn, hR, hH, hat⟩

/-- A row's wrap, with the condition on the laid variables and the world's shape at hand. -/
theorem carried {C : Checked} {ls : List (String × DataW Unit)} {H : Type} {enc : TypeId × Value → H} {os : Os} {f : FuncId} {fn : Func} {s : ChangeSpec} {apart fresh handsOn again : Bool}
    (own : ownKnob C.prog.godebug = none) (started : os.Started) (noInit : C.prog.inits.idxOf? f = none) (hfn : C.prog.funcs[f]? = some fn)
    (witness : ∃ (w : World) (tape : Tape) (i : Input), w.os = os ∧ (w.forCall tape i).Shaped C.prog ∧ i.vars = [] ∧ Input.okWide C.prog (w.forCall tape i) .any w.heap.size f i ∧
      ((s.pre enc C.prog fn [] apart (w.forCall tape i).memory i.args ∧ laidMetH C.prog ls (w.forCall tape i).memory) ∧ sizedMet enc C.prog fn (OpenSpec.ofChange s) apart (w.forCall tape i).memory i.args) ∧
      Assume.holds {} C.prog (lone (Frame.enter C.prog f i.args .normal) [] (w.forCall tape i)))
    (meets : ∀ (W : World) (base : Nat) (args : Array Value) (ds gs : List (DataW H)) (before : List MemPlace),
      (∀ (j : Nat) t v, fn.params[j]? = some t → args[j]? = some v → Value.okWide C.prog W .any base t v) → DataW.Whole enc C.prog fn.params.toList s.vars apart W args.toList ds gs before →
      laidMetH C.prog ls W → W.ShapedOpen C.prog →
      Calls C.prog f args W fun e W' => ∃ v, e = .returned v ∧ s.post enc C.prog fn apart fresh handsOn again W args v W') :
    ReturnsInHanded {} C os f .any (fun w args => (s.pre enc C.prog fn [] apart w args ∧ laidMetH C.prog ls w) ∧ sizedMet enc C.prog fn (OpenSpec.ofChange s) apart w args) (s.post enc C.prog fn apart fresh handsOn again) :=
  returnsInHanded_of_calls (C := C) own started noInit witness fun w tape i _ hsh _ hok hpre _ => by
    obtain ⟨_, _, _, fn', hf', _, _, _, _, hval⟩ := hok
    obtain rfl : fn' = fn := Option.some.inj (hf'.symm.trans hfn)
    obtain ⟨⟨⟨ds, gs, before, hw, _⟩, hx⟩, _⟩ := hpre
    have hw' := DataW.Whole.of_heap (w' := w.forCall tape i) (show (w.forCall tape i).memory.heap = (w.forCall tape i).heap from rfl) hw
    have hlm : laidMetH C.prog ls (w.forCall tape i) := laidMetH.of_heap (w := (w.forCall tape i).memory) rfl hx
    refine (meets (w.forCall tape i) w.heap.size i.args ds gs before hval hw' hlm hsh).mono fun e W' h => ?_
    obtain ⟨v, rfl, hp⟩ := h
    exact ChangeSpec.post_blind hp
end Go.Proofs.YtabngleincejfaaGreatDoor
