/- The statement GraphChecks in its second form, as a card: at every graph of bulk at most 1048576 the law answers true. -/
import Derived.Test.YtelmigkbofnicaaDoorLc
import Derived.Test.YtelmigkbofnicaaDoorGd
import Derived.Test.YtelmigkbofnicaaDoorTie
import Derived.Test.YtelmigkbofnicaaDoorCards
import Derived.SevenTiedAt
namespace Go.Proofs.YtelmigkbofnicaaDoor.graphChecks
open Go.ChangeShapes Go.WideShapes Go.ChangeAt Go.RowKit
open Go.ChangeMaps (open_string shut_string)
open Go.Deep Go.Joins

abbrev spec : OpenSpec := Rows.OpenSpec.upto Rows.graphChecksSpec

theorem witness (os : Os) (H : Type) (enc : TypeId × Value → H) : ∃ (w : World) (tape : Tape) (i : Input), w.os = os ∧ (w.forCall tape i).Shaped Tryd.checked.prog ∧ i.vars = [] ∧ Input.okWide Tryd.checked.prog (w.forCall tape i) .any w.heap.size 3 i ∧
      ((spec.pre enc Tryd.checked.prog Tryd.f3 [] false (w.forCall tape i).memory i.args ∧ laidMetH Tryd.checked.prog laids (w.forCall tape i).memory) ∧ sizedMet enc Tryd.checked.prog Tryd.f3 spec false (w.forCall tape i).memory i.args) ∧
      Assume.holds {} Tryd.checked.prog (lone (Frame.enter Tryd.checked.prog 3 i.args .normal) [] (w.forCall tape i)) := by
  obtain ⟨w, tape, i, h1, h2, h3, h4, ⟨⟨_, hX⟩, hsz⟩, h6⟩ := ChangeSpec.witness_shaped (enc := enc) (C := Tryd.checked) (os := os) (f := 3) (fn := Tryd.f3) (s := Rows.graphChecksSpec) (conds := []) (apart := false)
    (X := fun w args => spec.pre enc Tryd.checked.prog Tryd.f3 [] false w args ∧ laidMetH Tryd.checked.prog laids w) false (World.doorLaid Tryd.prog 400 os) #[.agg #[.slice none 0 0, .int .i64 0]] 8 rfl (World.shaped_of_RefB (by kernel_rfl) (by kernel_rfl)) (by kernel_rfl) (by kernel_rfl) (by kernel_rfl)
    ⟨(OpenSpec.pre_some (s := spec) rfl [] false _ _).2 ⟨[.agg [.nil, .lit (.int .i64 0)]], [], [], DataW.Whole_of_whole (x := ([.agg [.nil, .lit (.int .i64 0)]], [], [])) (fuel := 8) (by kernel_rfl), rfl, by kernel_rfl⟩, door_met os _⟩
  exact ⟨w, tape, i, h1, h2, h3, h4, ⟨hX, hsz⟩, h6⟩

set_option maxRecDepth 100000 in
theorem lifted (os : Os) (started : os.Started) (H : Type) (enc : TypeId × Value → H) (F : Stop.Interp) :
    ReturnsInHanded {} Tryd.checked os 3 .any (fun w args => (spec.pre enc Tryd.checked.prog Tryd.f3 [] false w args ∧ laidMetH Tryd.checked.prog laids w) ∧ sizedMet enc Tryd.checked.prog Tryd.f3 spec false w args)
      ((spec.at F).post enc Tryd.checked.prog Tryd.f3 false true false false) := by
  refine carriedC (C := Tryd.checked) (ls := laids) (s := spec) rfl own started (by kernel_rfl) Tryd.func3 (witness os H enc) ?_
  intro W base args ds gs before hval0 hW hkk hL hsh
  have hval : ∀ (j : Nat) t v, Tryd.f3.params[j]? = some t → args[j]? = some v → Value.okWide Tryd.prog W .any base t v := hval0
  have hW' := hW
  obtain ⟨p, q, hA0, hV, rfl, hfz, hnd⟩ := hW
  have hA : DataW.TrodAll enc Tryd.prog W 0 (fun _ => true) true Tryd.f3.params.toList args.toList ds p := hA0
  rw [Tryd.params3] at hA hval
  obtain ⟨v0, d0, rfl, rfl, h0⟩ := trodAll_one hA
  obtain ⟨rfl, rfl⟩ := trodVars_none hV
  have k0 := h0
  have lt0 : ∀ x ∈ p, x.block < W.heap.size := by obtain ⟨m, hm⟩ := k0; exact DataW.trod_lt m _ _ _ hm
  obtain ⟨vg, r, G, rfl, hG, _, hlen, hmild⟩ := open_graph (hval 0 24 v0 rfl rfl) h0
  have hbk : Rows.uptoBulk d0 ≤ 1048576 := by
    have : Rows.uptoBulkAll [d0] ≤ 1048576 := of_decide_eq_true hkk
    simp only [Rows.uptoBulkAll] at this
    omega
  obtain ⟨sz, gr⟩ := mild_small hbk hlen hmild
  obtain ⟨T, ev, hg, hgl⟩ := of_laid hL
  clear hA0 hval0
  have fin : ∀ W', Below W.heap.size W W' → (spec.at F).post enc Tryd.checked.prog Tryd.f3 false true false false W #[.agg #[vg, .int .i64 r]] (.bool true) W' := fun W' bel =>
    ⟨_, _, _, [], _, [], hW', trodAll_mk1 (shut_bool Tryd.underlying4 _), trodAll_mk1 (Below.trod laidOut (by kernel_rfl) (of_decide_eq_true (by kernel_rfl)) k0 bel lt0), rfl, bel.frame _, fun h => by cases h⟩
  refine (checkslaw_any _ vg r G W T ev hg hgl hG (fun _ h => h) sz gr).mono fun e W' ⟨he, bel⟩ => ?_
  subst he
  exact ⟨_, rfl, fin W' bel⟩

theorem over : Rows.GraphChecksUptoSaid :=
  OpenClaim.holds_of_cond 3 Tryd.f3 rfl rfl rfl rfl rfl rfl rfl ⟨rfl, rfl, rfl, rfl, rfl⟩ rfl rfl rfl rfl rfl (by kernel_rfl) Tryd.func3 (by kernel_rfl)
    (of_decide_eq_true (by kernel_rfl)) (by unfold Func.isWrapper; first | (rw [if_pos (by decide +kernel)]; kernel_rfl) | (rw [if_neg (by decide +kernel)]; exact ⟨rfl, rfl⟩))
    (fun os started H enc _ F => lifted os started H enc F)

theorem proved : Rows.GraphChecksUptoCardSaid :=
  Claim7.holds_tied_plain_at .later [] [.sentinel] true Rows.graphChecksUptoCard.stood.harness Rows.graphChecksUptoCard.stood.looks
    over (fun _ h => by cases h) (by kernel_rfl) (fun _ h => by cases h) graphChecksUpto_row_tie rfl ⟨rfl, rfl⟩ (by kernel_rfl) rfl
    (fun f fn hf hfn => by
      obtain rfl : f = 3 := Option.some.inj ((show Tryd.prog.funcNamed Rows.graphChecksUptoRow.func = some 3 by kernel_rfl).symm.trans hf) |>.symm
      obtain rfl : fn = Tryd.f3 := (Option.some.inj (Tryd.func3.symm.trans hfn)).symm
      exact ⟨by kernel_rfl, fun j t ht => by
        rw [Tryd.params3] at ht
        have hm : t ∈ [24] := by simpa using Array.mem_of_getElem? ht
        have hall : ([24].all fun u => !Tryd.prog.wantsStandIn u) = true := by kernel_rfl
        exact (show Tryd.prog.wantsStandIn t = false by simpa using List.all_eq_true.1 hall t hm)⟩)
    (by kernel_rfl)
#print axioms proved
end Go.Proofs.YtelmigkbofnicaaDoor.graphChecks
