/- The statement GenMore in its second form, as a card: at every graph, list and number of bulk at most 1048576 the law answers true. -/
import Derived.Test.YtkbmkmpoapafaaaDoorLm
import Derived.Test.YtkbmkmpoapafaaaDoorGd3
import Derived.Test.YtkbmkmpoapafaaaDoorTie
import Derived.Test.YtkbmkmpoapafaaaDoorCards
import Derived.SevenTiedAt
namespace Go.Proofs.YtkbmkmpoapafaaaDoor.genMore
open Go.ChangeShapes Go.WideShapes Go.ChangeAt Go.RowKit
open Go.ChangeMaps (open_string shut_string)
open Go.Deep Go.Joins

abbrev spec : OpenSpec := Rows.OpenSpec.upto Rows.genMoreSpec

theorem witness (os : Os) (H : Type) (enc : TypeId × Value → H) : ∃ (w : World) (tape : Tape) (i : Input), w.os = os ∧ (w.forCall tape i).Shaped Tryd.checked.prog ∧ i.vars = [] ∧ Input.okWide Tryd.checked.prog (w.forCall tape i) .any w.heap.size 5 i ∧
      ((spec.pre enc Tryd.checked.prog Tryd.f5 [] false (w.forCall tape i).memory i.args ∧ laidMetH Tryd.checked.prog laids (w.forCall tape i).memory) ∧ sizedMet enc Tryd.checked.prog Tryd.f5 spec false (w.forCall tape i).memory i.args) ∧
      Assume.holds {} Tryd.checked.prog (lone (Frame.enter Tryd.checked.prog 5 i.args .normal) [] (w.forCall tape i)) := by
  obtain ⟨w, tape, i, h1, h2, h3, h4, ⟨⟨_, hX⟩, hsz⟩, h6⟩ := ChangeSpec.witness_shaped (enc := enc) (C := Tryd.checked) (os := os) (f := 5) (fn := Tryd.f5) (s := Rows.genMoreSpec) (conds := []) (apart := false)
    (X := fun w args => spec.pre enc Tryd.checked.prog Tryd.f5 [] false w args ∧ laidMetH Tryd.checked.prog laids w) false (World.doorLaid Tryd.prog 400 os) #[.agg #[.slice none 0 0, .int .i64 0], .slice none 0 0, .int .i64 0] 8 rfl (World.shaped_of_RefB (by kernel_rfl) (by kernel_rfl)) (by kernel_rfl) (by kernel_rfl) (by kernel_rfl)
    ⟨(OpenSpec.pre_some (s := spec) rfl [] false _ _).2 ⟨[.agg [.nil, .lit (.int .i64 0)], .nil, .lit (.int .i64 0)], [], [], DataW.Whole_of_whole (x := ([.agg [.nil, .lit (.int .i64 0)], .nil, .lit (.int .i64 0)], [], [])) (fuel := 8) (by kernel_rfl), rfl, by kernel_rfl⟩, door_met os _⟩
  exact ⟨w, tape, i, h1, h2, h3, h4, ⟨hX, hsz⟩, h6⟩

set_option maxRecDepth 100000 in
theorem lifted (os : Os) (started : os.Started) (H : Type) (enc : TypeId × Value → H) (F : Stop.Interp) :
    ReturnsInHanded {} Tryd.checked os 5 .any (fun w args => (spec.pre enc Tryd.checked.prog Tryd.f5 [] false w args ∧ laidMetH Tryd.checked.prog laids w) ∧ sizedMet enc Tryd.checked.prog Tryd.f5 spec false w args)
      ((spec.at F).post enc Tryd.checked.prog Tryd.f5 false true false false) := by
  refine carriedC (C := Tryd.checked) (ls := laids) (s := spec) rfl own started (by kernel_rfl) Tryd.func5 (witness os H enc) ?_
  intro W base args ds gs before hval0 hW hkk hL hsh
  have hval : ∀ (j : Nat) t v, Tryd.f5.params[j]? = some t → args[j]? = some v → Value.okWide Tryd.prog W .any base t v := hval0
  have hW' := hW
  obtain ⟨p, q, hA0, hV, rfl, hfz, hnd⟩ := hW
  have hA : DataW.TrodAll enc Tryd.prog W 0 (fun _ => true) true Tryd.f5.params.toList args.toList ds p := hA0
  rw [Tryd.params5] at hA hval
  obtain ⟨v0, vs0, d0, ds0, p0, q0, hargs, rfl, rfl, h0, r0⟩ := trodAll_cons hA
  obtain ⟨v1, vs1, d1, ds1, p1, q1, rfl, rfl, rfl, h1, r1⟩ := trodAll_cons r0
  obtain ⟨v2, vs2, d2, ds2, p2, q2, rfl, rfl, rfl, h2, r2⟩ := trodAll_cons r1
  obtain ⟨rfl, rfl, rfl⟩ := trodAll_nil r2
  obtain rfl : args = #[v0, v1, v2] := by cases args; simp_all
  obtain ⟨rfl, rfl⟩ := trodVars_none hV
  have k0 := h0
  have k1 := h1
  have k2 := h2
  have lt0 : ∀ x ∈ p0, x.block < W.heap.size := by obtain ⟨m, hm⟩ := k0; exact DataW.trod_lt m _ _ _ hm
  have lt1 : ∀ x ∈ p1, x.block < W.heap.size := by obtain ⟨m, hm⟩ := k1; exact DataW.trod_lt m _ _ _ hm
  have lt2 : ∀ x ∈ p2, x.block < W.heap.size := by obtain ⟨m, hm⟩ := k2; exact DataW.trod_lt m _ _ _ hm
  obtain ⟨vg, r, G, rfl, hG, _, lG, mG⟩ := open_graph (hval 0 24 v0 rfl rfl) h0
  obtain ⟨sa, sl, sc, rfl⟩ := okWide_slice Tryd.underlying32 (hval 1 32 v1 rfl rfl)
  obtain ⟨fu, h1⟩ := h1
  obtain ⟨l, hN, ll⟩ : ∃ l : List Int, Nums W (fun b => b < W.heap.size) (.slice sa sl sc) l ∧ l.length ≤ Rows.uptoBulk d1 := open_ints (x := (d1, p1)) h1
  obtain ⟨more, rfl, rfl, rfl, _⟩ := open_int Tryd.underlying3 (hval 2 3 v2 rfl rfl) h2
  have hbk : Rows.uptoBulk d0 ≤ 1048576 := by
    have : Rows.uptoBulkAll [d0, d1, .lit (.int .i64 more)] ≤ 1048576 := of_decide_eq_true hkk
    simp only [Rows.uptoBulkAll] at this
    omega
  obtain ⟨sG, bG⟩ := mild_small hbk lG mG
  obtain ⟨T, ev, hg, hgl⟩ := of_laid hL
  clear hA0 hval0
  have fin : ∀ W', Below W.heap.size W W' → (spec.at F).post enc Tryd.checked.prog Tryd.f5 false true false false W #[.agg #[vg, .int .i64 r], .slice sa sl sc, .int .i64 more] (.bool true) W' := fun W' bel =>
    ⟨_, _, _, [], _, [], hW', trodAll_mk1 (shut_bool Tryd.underlying4 _), trodAll_cons_mk (Below.trod laidOut (by kernel_rfl) (of_decide_eq_true (by kernel_rfl)) k0 bel lt0) (trodAll_cons_mk (Below.trod laidOut (by kernel_rfl) (of_decide_eq_true (by kernel_rfl)) k1 bel lt1) (trodAll_cons_mk (Below.trod laidOut (by kernel_rfl) (of_decide_eq_true (by kernel_rfl)) k2 bel lt2) trodAll_mk0)), rfl, bel.frame _, fun h => by cases h⟩
  refine (morelaw_any _ vg (.slice sa sl sc) r more G l W T ev hg hgl hG hN (fun _ h => h) sG bG).mono fun e W' ⟨he, bel⟩ => ?_
  subst he
  exact ⟨_, rfl, fin W' bel⟩

theorem over : Rows.GenMoreUptoSaid :=
  OpenClaim.holds_of_cond 5 Tryd.f5 rfl rfl rfl rfl rfl rfl rfl ⟨rfl, rfl, rfl, rfl, rfl⟩ rfl rfl rfl rfl rfl (by kernel_rfl) Tryd.func5 (by kernel_rfl)
    (of_decide_eq_true (by kernel_rfl)) (by unfold Func.isWrapper; first | (rw [if_pos (by decide +kernel)]; kernel_rfl) | (rw [if_neg (by decide +kernel)]; exact ⟨rfl, rfl⟩))
    (fun os started H enc _ F => lifted os started H enc F)

theorem proved : Rows.GenMoreUptoCardSaid :=
  Claim7.holds_tied_plain_at .later [] [.sentinel] true Rows.genMoreUptoCard.stood.harness Rows.genMoreUptoCard.stood.looks
    over (fun _ h => by cases h) (by kernel_rfl) (fun _ h => by cases h) genMoreUpto_row_tie rfl ⟨rfl, rfl⟩ (by kernel_rfl) rfl
    (fun f fn hf hfn => by
      obtain rfl : f = 5 := Option.some.inj ((show Tryd.prog.funcNamed Rows.genMoreUptoRow.func = some 5 by kernel_rfl).symm.trans hf) |>.symm
      obtain rfl : fn = Tryd.f5 := (Option.some.inj (Tryd.func5.symm.trans hfn)).symm
      exact ⟨by kernel_rfl, fun j t ht => by
        rw [Tryd.params5] at ht
        have hm : t ∈ [24, 32, 3] := by simpa using Array.mem_of_getElem? ht
        have hall : ([24, 32, 3].all fun u => !Tryd.prog.wantsStandIn u) = true := by kernel_rfl
        exact (show Tryd.prog.wantsStandIn t = false by simpa using List.all_eq_true.1 hall t hm)⟩)
    (by kernel_rfl)
#print axioms proved
end Go.Proofs.YtkbmkmpoapafaaaDoor.genMore
