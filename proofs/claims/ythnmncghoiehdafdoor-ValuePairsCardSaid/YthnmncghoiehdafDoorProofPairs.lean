/- The statement ValuePairs, as a card: at every two texts, number and bool the law answers true; no condition of its own. -/
import Derived.Test.YthnmncghoiehdafDoorLaw18Pairs
import Derived.Test.YthnmncghoiehdafDoorTie
import Derived.Test.YthnmncghoiehdafDoorCards
import Derived.WalkKit
import Derived.ProofKit
import Derived.OpenShut
import Derived.ShutString
import Derived.ChangeOld
import Derived.Below
import Derived.Carry
import Derived.LaidMore
import Derived.LaidLaws
import Derived.LaidHandle
import Derived.Stop.Joined
import Derived.Lib.SmallJoins
import Derived.SevenTiedAt
namespace Go.Proofs.YthnmncghoiehdafDoor.valuePairs
open Go.ChangeShapes Go.WideShapes Go.ChangeAt Go.RowKit
open Go.ChangeMaps (open_string shut_string)
open Go.Deep Go.Joins

theorem own : ownKnob Tryd.prog.godebug = none := by kernel_rfl
theorem laidOut : laidOutB Tryd.prog = true := by kernel_rfl
abbrev laids : List (String × DataW Unit) := Rows.valuePairsRow.laid
abbrev plain : List (String × DataW Unit) := laids.filter fun x => x.2.handleName?.isNone

/-- What a listed variable holds, by its place in the list. -/
theorem laid_at {P : Program} {w : World} : ∀ {l : List (String × DataW Unit)} {ps : List MemPlace}, DataW.LaidVars P w l ps → ∀ {i : Nat} {x : String × DataW Unit}, l[i]? = some x →
    ∃ g t cs fuel p, P.globalNamed x.1 = some g ∧ (P.globals[g]?).map (·.type) = some t ∧ w.var? P x.1 = some cs ∧ DataW.trod (fun _ => ()) P w 0 (fun _ => true) false fuel t cs.toList = some (x.2, p)
  | [], _, _, _, _, hx => by simp at hx
  | (n, d) :: r, _, ⟨g, t, cs, fuel, p, q, h1, h2, h3, h4, h5, _⟩, 0, x, hx => by
    simp only [List.getElem?_cons_zero, Option.some.injEq] at hx
    subst hx
    exact ⟨g, t, cs, fuel, p, h1, h2, h3, h4⟩
  | (n, d) :: r, _, ⟨g, t, cs, fuel, p, q, h1, h2, h3, h4, h5, _⟩, i + 1, x, hx => laid_at h5 (by simpa using hx)

theorem gPow : Tryd.prog.globalNamed "internal/strconv.uint64pow10" = some 6 := by kernel_rfl
theorem tPow : (Tryd.prog.globals[6]?).map (·.type) = some 111 := by kernel_rfl
theorem cPow : Tryd.prog.cellsOf 111 = 20 := by kernel_rfl
theorem ePow : Tryd.prog.cellsOf 95 = 1 := by kernel_rfl
theorem gWord : Tryd.prog.globalNamed "trefoil/lex.errWord" = some 4 := by kernel_rfl
theorem tWord : (Tryd.prog.globals[4]?).map (·.type) = some 38 := by kernel_rfl

/-- The door's own heap meets the condition. -/
theorem door_met (os : Os) (args : Array Value) : laidMetH Tryd.prog laids ((World.doorLaid Tryd.prog 400 os).forCall (fun _ _ => 0) ⟨#[], args, []⟩).memory :=
  laidMetH_of_parts3 (fuel := 8) (laidMet_of_run' 8 (by kernel_rfl) (by kernel_rfl)) (by kernel_rfl) (by kernel_rfl)

theorem cell_lt {w : World} {b j : Nat} {v : Value} (h : w.cell? ⟨b, j, none⟩ = some v) : b < w.heap.size := by
  rcases Nat.lt_or_ge b w.heap.size with h' | h'
  · exact h'
  · simp [World.cell?, Array.getElem?_eq_none h'] at h

theorem var_lt {P : Program} {w : World} {n : String} {g : Nat} {cs : Array Value} (hg : P.globalNamed n = some g) (h : w.var? P n = some cs) : g < w.heap.size := by
  rcases Nat.lt_or_ge g w.heap.size with h' | h'
  · exact h'
  · unfold World.var? at h
    rw [hg] at h
    simp [Array.getElem?_eq_none h'] at h

theorem gRng : Tryd.prog.globalNamed "strconv.ErrRange" = some 9 := by kernel_rfl
theorem tRng : (Tryd.prog.globals[9]?).map (·.type) = some 38 := by kernel_rfl
theorem gNum : Tryd.prog.globalNamed "trefoil/lex.errNumber" = some 2 := by kernel_rfl
theorem tNum : (Tryd.prog.globals[2]?).map (·.type) = some 38 := by kernel_rfl
theorem gBru : Tryd.prog.globalNamed "math/bits.deBruijn64tab" = some 11 := by kernel_rfl
theorem gEt : Tryd.prog.globalNamed "errors.errorType" = some 0 := by kernel_rfl
theorem rt : (Tryd.prog.cutTypes.find? (·.1 == "internal/reflectlite.rtype")).map (·.2) = some 80 := by kernel_rfl
theorem oneRow : ((List.range (265 - 100)).filter fun t => Tryd.prog.rowNamed t [101, 114, 114, 111, 114]) = [38] := by kernel_rfl
theorem tsize : Tryd.prog.types.size = 265 - 100 := by kernel_rfl
theorem hdl : typeHandle Tryd.prog 38 = .pointer (some ⟨12, 38, none⟩) := by kernel_rfl

/-- What the condition gives: the table of the powers of ten, the cells of the errors, and the type's handle. -/
theorem of_laid {W : World} (h : laidMetH Tryd.prog laids W) : Lib.TabIs Tryd.prog W "internal/strconv.uint64pow10" .u64 Lib.pow10Tab ∧ ∃ wv tp pv T2 v2, Env wv W ∧ Env2 tp pv T2 v2 W := by
  have h' : laidMet Tryd.prog plain W ∧ handlesMet Tryd.prog (laids.filter fun x => x.2.handleName?.isSome) W := h
  obtain ⟨ps, hv, _, _⟩ := h'.1
  constructor
  · obtain ⟨g, t, cs, f, p, hg, ht, hv2, hd⟩ := laid_at hv (i := 2) (x := ("internal/strconv.uint64pow10", Rows.laid_internal_strconv_uint64pow10)) rfl
    obtain rfl := Option.some.inj (gPow.symm.trans hg)
    obtain rfl := Option.some.inj (tPow.symm.trans ht)
    unfold Lib.TabIs
    rw [hv2, ← Lib.cells_of_tab Tryd.underlying111 Tryd.underlying95 ePow cPow (zs := Lib.pow10Tab) (k := .u64) hd]
  · obtain ⟨wv, hW⟩ : ∃ wv, Env wv W := by
      obtain ⟨g, t, cs, f, p, hg, ht, hv2, hd⟩ := laid_at hv (i := 7) (x := ("trefoil/lex.errWord", Rows.laid_trefoil_lex_errWord)) rfl
      obtain rfl := Option.some.inj (gWord.symm.trans hg)
      obtain rfl := Option.some.inj (tWord.symm.trans ht)
      obtain ⟨f', u, v, hcs, _, _⟩ := iface_of_trod Tryd.underlying38 hd
      have hc : W.cell? ⟨4, 0, none⟩ = some (.iface u v) := by
        have := World.var?_cell hg hv2 0
        rw [Array.eq_one_of_toList hcs] at this
        simpa using this
      exact ⟨_, hc, cell_lt hc⟩
    obtain ⟨T2, v2, hN⟩ : ∃ T2 v2, W.cell? ⟨2, 0, none⟩ = some (.iface T2 v2) := by
      obtain ⟨g, t, cs, f, p, hg, ht, hv2, hd⟩ := laid_at hv (i := 6) (x := ("trefoil/lex.errNumber", Rows.laid_trefoil_lex_errNumber)) rfl
      obtain rfl := Option.some.inj (gNum.symm.trans hg)
      obtain rfl := Option.some.inj (tNum.symm.trans ht)
      obtain ⟨f', u, v, hcs, _, _⟩ := iface_of_trod Tryd.underlying38 hd
      have := World.var?_cell hg hv2 0
      rw [Array.eq_one_of_toList hcs] at this
      exact ⟨u, v, by simpa using this⟩
    obtain ⟨tp, pv, hR⟩ : ∃ tp pv, W.var? Tryd.prog "strconv.ErrRange" = some #[.iface tp pv] := by
      obtain ⟨g, t, cs, f, p, hg, ht, hv2, hd⟩ := laid_at hv (i := 3) (x := ("strconv.ErrRange", Rows.laid_strconv_ErrRange)) rfl
      obtain rfl := Option.some.inj (gRng.symm.trans hg)
      obtain rfl := Option.some.inj (tRng.symm.trans ht)
      obtain ⟨f', u, v, hcs, _, _⟩ := iface_of_trod Tryd.underlying38 hd
      exact ⟨u, v, by rw [hv2, Array.eq_one_of_toList hcs]⟩
    have hat : 12 ≤ W.heap.size := by
      obtain ⟨g, t, cs, f, p, hg, ht, hv2, hd⟩ := laid_at hv (i := 1) (x := ("math/bits.deBruijn64tab", Rows.laid_math_bits_deBruijn64tab)) rfl
      have := var_lt gBru hv2
      omega
    have hH : W.cell? ⟨0, 0, none⟩ = some (.iface 80 (.agg #[.pointer (some ⟨12, 38, none⟩)])) := by
      obtain ⟨name, u, ty, e1, e2, e3, e4, e5⟩ := h'.2 ("errors.errorType", Rows.laid_errors_errorType) (List.mem_singleton.2 rfl)
      have en : name = [101, 114, 114, 111, 114] := (Option.some.inj e1).symm
      subst en
      obtain rfl := Option.some.inj (rt.symm.trans e2)
      have hm : ty ∈ (List.range (265 - 100)).filter fun t => Tryd.prog.rowNamed t [101, 114, 114, 111, 114] := List.mem_filter.2 ⟨List.mem_range.2 (by rw [← tsize]; exact e3), e4⟩
      rw [oneRow] at hm
      obtain rfl := List.mem_singleton.1 hm
      rw [hdl] at e5
      simpa using World.var?_cell gEt e5 0
    exact ⟨wv, tp, pv, T2, v2, hW, ⟨hN, hR, hH, hat⟩⟩

theorem fields : ∃ n0 n1 n2 n3 : Field, Tryd.prog.underlying 23 = some (.struct #[n0, n1, n2, n3]) ∧ n0.type = 9 ∧ n1.type = 9 ∧ n2.type = 2 ∧ n3.type = 4 ∧ oneCellFields Tryd.prog #[n0, n1, n2, n3] = true :=
  ⟨_, _, _, _, Tryd.underlying23, rfl, rfl, rfl, rfl, by kernel_rfl⟩

set_option maxRecDepth 100000 in
theorem lifted (os : Os) (started : os.Started) (H : Type) (enc : TypeId × Value → H) :
    ReturnsInHanded {} Tryd.checked os 3 .any (fun w args => (Rows.valuePairsSpec.pre enc Tryd.prog Tryd.f3 [] false w args ∧ laidMetH Tryd.prog laids w) ∧ sizedMet enc Tryd.prog Tryd.f3 (OpenSpec.ofChange Rows.valuePairsSpec) false w args)
      (Rows.valuePairsSpec.post enc Tryd.prog Tryd.f3 false true false false) := by
  refine returnsInHanded_of_change_and (C := Tryd.checked) (X := fun w _ => laidMetH Tryd.prog laids w) (fun _ _ _ hh h => h.of_heap hh) own started (by kernel_rfl) Tryd.func3
    (ChangeSpec.witness_shaped (enc := enc) (C := Tryd.checked) (os := os) (X := fun w _ => laidMetH Tryd.prog laids w) false (World.doorLaid Tryd.prog 400 os) #[.agg #[.string ⟨#[]⟩, .string ⟨#[]⟩, .int .i64 0, .bool false]] 8 rfl (World.shaped_of_RefB (by kernel_rfl) (by kernel_rfl)) (by kernel_rfl) (by kernel_rfl) (by kernel_rfl) (door_met os _)) ?_
  intro W base args ds gs before hval0 hW _ hsz hL _
  have hval : ∀ (j : Nat) t v, Tryd.f3.params[j]? = some t → args[j]? = some v → Value.okWide Tryd.prog W .any base t v := hval0
  have hW' := hW
  obtain ⟨p, q, hA0, hV, rfl, hfz, hnd⟩ := hW
  have hA : DataW.TrodAll enc Tryd.prog W 0 (fun _ => true) true Tryd.f3.params.toList args.toList ds p := hA0
  rw [Tryd.params3] at hA hval
  obtain ⟨v0, d0, rfl, rfl, h0⟩ := trodAll_one hA
  obtain ⟨rfl, rfl⟩ := trodVars_none hV
  obtain ⟨n0, n1, n2, n3, hst, e0, e1, e2, e3, hone⟩ := fields
  have k0 := h0
  have lt0 : ∀ x ∈ p, x.block < W.heap.size := by obtain ⟨m, hm⟩ := k0; exact DataW.trod_lt m _ _ _ hm
  obtain ⟨v0, v1, v2, v3, y0, y1, y2, y3, n, rfl, rfl, rfl, j0, j1, j2, j3⟩ := open_agg4 hst hone (by kernel_rfl) (hval 0 23 v0 rfl rfl) h0
  rw [e0] at j0; rw [e1] at j1; rw [e2] at j2; rw [e3] at j3
  obtain ⟨a, ha, hy0, has⟩ := DataW.trod_string Tryd.underlying9 j0
  obtain ⟨b, hb, hy1, hbs⟩ := DataW.trod_string Tryd.underlying9 j1
  obtain ⟨m, hm, hy2, hwm⟩ := DataW.trod_int Tryd.underlying2 j2
  obtain ⟨is, his, hy3, hiss⟩ := DataW.trod_bool Tryd.underlying4 j3
  obtain rfl : v0 = .string a := by simpa using ha
  obtain rfl : v1 = .string b := by simpa using hb
  obtain rfl : v2 = .int .i64 m := by simpa using hm
  obtain rfl : v3 = .bool is := by simpa using his
  obtain ⟨htab, wv, tp, pv, T2, u2, hE, hF⟩ := of_laid hL
  have fin : ∀ W', Below W.heap.size W W' → Rows.valuePairsSpec.post enc Tryd.prog Tryd.f3 false true false false W #[.agg #[.string a, .string b, .int .i64 m, .bool is]] (.bool true) W' := fun W' bel =>
    ⟨_, _, _, [], _, [], hW', trodAll_mk1 (shut_bool Tryd.underlying4 _), trodAll_mk1 (Below.trod laidOut (by kernel_rfl) (of_decide_eq_true (by kernel_rfl)) k0 bel lt0), rfl, bel.frame _, fun h => by cases h⟩
  clear hA0 hval0
  by_cases h3 : 1000 < (a.size : Int) ∨ 1000 < (b.size : Int)
  · refine (pairs_long a b m is W h3).mono fun e W' ⟨he, bel⟩ => ?_
    subst he
    exact ⟨_, rfl, fin W' bel⟩
  · refine (pairs_short a b m is wv tp pv T2 u2 W (by omega) (by omega) (bounds_i64 hwm).1 (bounds_i64 hwm).2 hE hF htab).mono fun e W' ⟨he, bel⟩ => ?_
    subst he
    exact ⟨_, rfl, fin W' bel⟩

theorem over : Rows.ValuePairsSaid :=
  OpenClaim.holds_of_wide 3 Tryd.f3 rfl rfl rfl rfl rfl rfl rfl ⟨rfl, rfl, rfl, rfl, rfl⟩ rfl rfl rfl rfl rfl (by kernel_rfl) Tryd.func3 (by kernel_rfl)
    (of_decide_eq_true (by kernel_rfl)) (by unfold Func.isWrapper; first | (rw [if_pos (by decide +kernel)]; kernel_rfl) | (rw [if_neg (by decide +kernel)]; exact ⟨rfl, rfl⟩))
    (fun os started H enc _ => lifted os started H enc)

theorem proved : Rows.ValuePairsCardSaid :=
  Claim7.holds_tied_plain_at .later [] [.data, .data, .data, .handle, .sentinel, .sentinel, .sentinel, .sentinel, .sentinel, .sentinel, .sentinel] true Rows.valuePairsCard.stood.harness Rows.valuePairsCard.stood.looks
    over (fun _ h => by cases h) (by kernel_rfl) (fun _ h => by cases h) valuePairs_row_tie rfl ⟨rfl, rfl⟩ (by kernel_rfl) rfl
    (fun f fn hf hfn => by
      obtain rfl : f = 3 := Option.some.inj ((show Tryd.prog.funcNamed Rows.valuePairsRow.func = some 3 by kernel_rfl).symm.trans hf) |>.symm
      obtain rfl : fn = Tryd.f3 := (Option.some.inj (Tryd.func3.symm.trans hfn)).symm
      exact ⟨by kernel_rfl, fun j t ht => by
        rw [Tryd.params3] at ht
        have hm : t ∈ [23] := by simpa using Array.mem_of_getElem? ht
        have hall : ([23].all fun u => !Tryd.prog.wantsStandIn u) = true := by kernel_rfl
        exact (show Tryd.prog.wantsStandIn t = false by simpa using List.all_eq_true.1 hall t hm)⟩)
    (by kernel_rfl)
#print axioms proved
end Go.Proofs.YthnmncghoiehdafDoor.valuePairs
