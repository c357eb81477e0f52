/- The statement ValueTells, as a card: at every op, two numbers and text the law answers true; no condition of its own. -/
import Derived.Test.YthnmncghoiehdadDoorLaw18Tells
import Derived.Test.YthnmncghoiehdadDoorTie
import Derived.Test.YthnmncghoiehdadDoorCards
import Derived.WalkKit
import Derived.ProofKit
import Derived.OpenShut
import Derived.ShutString
import Derived.ChangeOld
import Derived.Below
import Derived.Carry
import Derived.LaidMore
import Derived.Stop.Joined
import Derived.Lib.SmallJoins
import Derived.SevenTiedAt
namespace Go.Proofs.YthnmncghoiehdadDoor.valueTells
open Go.ChangeShapes Go.WideShapes Go.ChangeAt Go.RowKit
open Go.ChangeMaps (open_string shut_string)
open Go.Deep Go.Joins

theorem own : ownKnob Tryd.prog.godebug = none := by kernel_rfl
theorem laidOut : laidOutB Tryd.prog = true := by kernel_rfl
abbrev laids : List (String × DataW Unit) := Rows.valueTellsRow.laid

theorem g0 : Tryd.prog.globalNamed "math/bits.deBruijn32tab" = some 2 := by kernel_rfl
theorem g1 : Tryd.prog.globalNamed "math/bits.deBruijn64tab" = some 3 := by kernel_rfl
theorem g2 : Tryd.prog.globalNamed "internal/strconv.uint64pow10" = some 0 := by kernel_rfl
theorem t2 : (Tryd.prog.globals[0]?).map (·.type) = some 65 := by kernel_rfl
theorem c2 : Tryd.prog.cellsOf 65 = 20 := by kernel_rfl
theorem e2 : Tryd.prog.cellsOf 57 = 1 := by kernel_rfl

/-- The door's own heap meets the condition. -/
theorem door_met (os : Os) (args : Array Value) : laidMetH Tryd.prog laids ((World.doorLaid Tryd.prog 400 os).forCall (fun _ _ => 0) ⟨#[], args, []⟩).memory :=
  laidMetH_of_parts3 (fuel := 8) (laidMet_of_run' 8 (by kernel_rfl) (by kernel_rfl)) (by kernel_rfl) (by kernel_rfl)

/-- What the condition gives: the table of the powers of ten. -/
theorem of_laid {W : World} (h : laidMetH Tryd.prog laids W) : Lib.TabIs Tryd.prog W "internal/strconv.uint64pow10" .u64 Lib.pow10Tab := by
  rw [MakeChecks.laidMetH_plain _ _ _ (by kernel_rfl)] at h
  obtain ⟨ps, ⟨_, _, _, _, _, _, _, _, _, _, ⟨_, _, _, _, _, _, _, _, _, _, ⟨g, t, cs, f, p, q, hg, ht, hv, hd, _, _⟩, _⟩, _⟩, _, _⟩ := h
  obtain rfl := Option.some.inj (g2.symm.trans hg)
  obtain rfl := Option.some.inj (t2.symm.trans ht)
  unfold Lib.TabIs
  rw [hv, ← Lib.cells_of_tab Tryd.underlying65 Tryd.underlying57 e2 c2 (zs := Lib.pow10Tab) (k := .u64) hd]

theorem fields : ∃ n0 n1 n2 n3 : Field, Tryd.prog.underlying 23 = some (.struct #[n0, n1, n2, n3]) ∧ n0.type = 9 ∧ n1.type = 2 ∧ n2.type = 2 ∧ n3.type = 9 ∧ oneCellFields Tryd.prog #[n0, n1, n2, n3] = true :=
  ⟨_, _, _, _, Tryd.underlying23, rfl, rfl, rfl, rfl, by kernel_rfl⟩

set_option maxRecDepth 100000 in
theorem lifted (os : Os) (started : os.Started) (H : Type) (enc : TypeId × Value → H) :
    ReturnsInHanded {} Tryd.checked os 3 .any (fun w args => (Rows.valueTellsSpec.pre enc Tryd.prog Tryd.f3 [] false w args ∧ laidMetH Tryd.prog laids w) ∧ sizedMet enc Tryd.prog Tryd.f3 (OpenSpec.ofChange Rows.valueTellsSpec) false w args)
      (Rows.valueTellsSpec.post enc Tryd.prog Tryd.f3 false true false false) := by
  refine returnsInHanded_of_change_and (C := Tryd.checked) (X := fun w _ => laidMetH Tryd.prog laids w) (fun _ _ _ hh h => h.of_heap hh) own started (by kernel_rfl) Tryd.func3
    (ChangeSpec.witness_shaped (enc := enc) (C := Tryd.checked) (os := os) (X := fun w _ => laidMetH Tryd.prog laids w) false (World.doorLaid Tryd.prog 400 os) #[.agg #[.string ⟨#[]⟩, .int .i64 0, .int .i64 0, .string ⟨#[]⟩]] 8 rfl (World.shaped_of_RefB (by kernel_rfl) (by kernel_rfl)) (by kernel_rfl) (by kernel_rfl) (by kernel_rfl) (door_met os _)) ?_
  intro W base args ds gs before hval0 hW _ hsz hL _
  have hval : ∀ (j : Nat) t v, Tryd.f3.params[j]? = some t → args[j]? = some v → Value.okWide Tryd.prog W .any base t v := hval0
  have hW' := hW
  obtain ⟨p, q, hA0, hV, rfl, hfz, hnd⟩ := hW
  have hA : DataW.TrodAll enc Tryd.prog W 0 (fun _ => true) true Tryd.f3.params.toList args.toList ds p := hA0
  rw [Tryd.params3] at hA hval
  obtain ⟨v0, d0, rfl, rfl, h0⟩ := trodAll_one hA
  obtain ⟨rfl, rfl⟩ := trodVars_none hV
  obtain ⟨n0, n1, n2, n3, hst, e0, e1, e2, e3, hone⟩ := fields
  have k0 := h0
  have lt0 : ∀ x ∈ p, x.block < W.heap.size := by obtain ⟨m, hm⟩ := k0; exact DataW.trod_lt m _ _ _ hm
  obtain ⟨v0, v1, v2, v3, y0, y1, y2, y3, n, rfl, rfl, rfl, j0, j1, j2, j3⟩ := open_agg4 hst hone (by kernel_rfl) (hval 0 23 v0 rfl rfl) h0
  rw [e0] at j0; rw [e1] at j1; rw [e2] at j2; rw [e3] at j3
  obtain ⟨op, hop, hy0, hops⟩ := DataW.trod_string Tryd.underlying9 j0
  obtain ⟨a, ha, hy1, hwa⟩ := DataW.trod_int Tryd.underlying2 j1
  obtain ⟨b, hb, hy2, hwb⟩ := DataW.trod_int Tryd.underlying2 j2
  obtain ⟨s, hs, hy3, hss⟩ := DataW.trod_string Tryd.underlying9 j3
  obtain rfl : v0 = .string op := by simpa using hop
  obtain rfl : v1 = .int .i64 a := by simpa using ha
  obtain rfl : v2 = .int .i64 b := by simpa using hb
  obtain rfl : v3 = .string s := by simpa using hs
  have hreach : op.size ≤ reachBytes := by
    have hm := DataW.weights_mem_each (P := Tryd.prog) (ts := [23]) (ds := [DataW.agg [y0.1, y1.1, y2.1, y3.1]]) (j := 0) rfl rfl op.data.toList.length (by
      rw [hy0]
      simp only [DataW.weights, hst]
      exact DataW.weights_mem_each (j := 0) (t := n0.type) (d := .lit (.string op.data.toList)) rfl rfl _ (by simp [DataW.weights]))
    have := List.all_eq_true.1 hsz _ hm
    rw [Lib.size_eq]; simpa using this
  have htab := of_laid hL
  have fin : ∀ W', Below W.heap.size W W' → Rows.valueTellsSpec.post enc Tryd.prog Tryd.f3 false true false false W #[.agg #[.string op, .int .i64 a, .int .i64 b, .string s]] (.bool true) W' := fun W' bel =>
    ⟨_, _, _, [], _, [], hW', trodAll_mk1 (shut_bool Tryd.underlying4 _), trodAll_mk1 (Below.trod laidOut (by kernel_rfl) (of_decide_eq_true (by kernel_rfl)) k0 bel lt0), rfl, bel.frame _, fun h => by cases h⟩
  clear hA0 hval0
  by_cases h3 : 3000 < (s.size : Int)
  · refine (tells_long op s a b W h3).mono fun e W' ⟨he, bel⟩ => ?_
    subst he
    exact ⟨_, rfl, fin W' bel⟩
  · have hr : reachBytes ≤ 140737488355328 := by decide
    refine (tells_short op s a b W (bounds_i64 hwa).1 (bounds_i64 hwa).2 (by omega) (by omega) htab).mono fun e W' ⟨he, bel⟩ => ?_
    subst he
    exact ⟨_, rfl, fin W' bel⟩

theorem over : Rows.ValueTellsSaid :=
  OpenClaim.holds_of_wide 3 Tryd.f3 rfl rfl rfl rfl rfl rfl rfl ⟨rfl, rfl, rfl, rfl, rfl⟩ rfl rfl rfl rfl rfl (by kernel_rfl) Tryd.func3 (by kernel_rfl)
    (of_decide_eq_true (by kernel_rfl)) (by unfold Func.isWrapper; first | (rw [if_pos (by decide +kernel)]; kernel_rfl) | (rw [if_neg (by decide +kernel)]; exact ⟨rfl, rfl⟩))
    (fun os started H enc _ => lifted os started H enc)

theorem proved : Rows.ValueTellsCardSaid :=
  Claim7.holds_tied_plain_at .later [] [.data, .data, .data] true Rows.valueTellsCard.stood.harness false
    over (fun _ h => by cases h) (by kernel_rfl) (fun _ h => by cases h) valueTells_row_tie rfl ⟨rfl, rfl⟩ (by kernel_rfl) rfl
    (fun f fn hf hfn => by
      obtain rfl : f = 3 := Option.some.inj ((show Tryd.prog.funcNamed Rows.valueTellsRow.func = some 3 by kernel_rfl).symm.trans hf) |>.symm
      obtain rfl : fn = Tryd.f3 := (Option.some.inj (Tryd.func3.symm.trans hfn)).symm
      exact ⟨by kernel_rfl, fun j t ht => by
        rw [Tryd.params3] at ht
        have hm : t ∈ [23] := by simpa using Array.mem_of_getElem? ht
        have hall : ([23].all fun u => !Tryd.prog.wantsStandIn u) = true := by kernel_rfl
        exact (show Tryd.prog.wantsStandIn t = false by simpa using List.all_eq_true.1 hall t hm)⟩)
    (by kernel_rfl)
#print axioms proved
end Go.Proofs.YthnmncghoiehdadDoor.valueTells
