/- The statement LexBack in its second form, as a card: at every list of tokens of bulk at most 1048576 the law answers true. -/
import Derived.Test.YtabngleincejfaaGreatDoorToken
import Derived.Test.YtabngleincejfaaGreatDoorTie
import Derived.Test.YtabngleincejfaaGreatDoorCards
import Derived.SevenTiedAt
namespace Go.Proofs.YtabngleincejfaaGreatDoor.lexBack
open Go.ChangeShapes Go.WideShapes Go.ChangeAt Go.RowKit
open Go.ChangeMaps (open_string shut_string)
open Go.Deep Go.Joins

abbrev spec : OpenSpec := Rows.OpenSpec.upto Rows.lexBackSpec

theorem witness (os : Os) (H : Type) (enc : TypeId × Value → H) : ∃ (w : World) (tape : Tape) (i : Input), w.os = os ∧ (w.forCall tape i).Shaped Tryz.checked.prog ∧ i.vars = [] ∧ Input.okWide Tryz.checked.prog (w.forCall tape i) .any w.heap.size 3 i ∧
      ((spec.pre enc Tryz.checked.prog Tryz.f3 [] false (w.forCall tape i).memory i.args ∧ laidMetH Tryz.checked.prog laids (w.forCall tape i).memory) ∧ sizedMet enc Tryz.checked.prog Tryz.f3 spec false (w.forCall tape i).memory i.args) ∧
      Assume.holds {} Tryz.checked.prog (lone (Frame.enter Tryz.checked.prog 3 i.args .normal) [] (w.forCall tape i)) := by
  obtain ⟨w, tape, i, h1, h2, h3, h4, ⟨⟨_, hX⟩, hsz⟩, h6⟩ := ChangeSpec.witness_shaped (enc := enc) (C := Tryz.checked) (os := os) (f := 3) (fn := Tryz.f3) (s := Rows.lexBackSpec) (conds := []) (apart := false)
    (X := fun w args => spec.pre enc Tryz.checked.prog Tryz.f3 [] false w args ∧ laidMetH Tryz.checked.prog laids w) false (World.doorLaid Tryz.prog 400 os) #[.slice none 0 0] 8 rfl (World.shaped_of_RefB (by kernel_rfl) (by kernel_rfl)) (by kernel_rfl) (by kernel_rfl) (by kernel_rfl)
    ⟨(OpenSpec.pre_some (s := spec) rfl [] false _ _).2 ⟨[.nil], [], [], DataW.Whole_of_whole (x := ([.nil], [], [])) (fuel := 8) (by kernel_rfl), rfl, by kernel_rfl⟩, door_met os _⟩
  exact ⟨w, tape, i, h1, h2, h3, h4, ⟨hX, hsz⟩, h6⟩

set_option maxRecDepth 100000 in
theorem lifted (os : Os) (started : os.Started) (H : Type) (enc : TypeId × Value → H) (F : Stop.Interp) :
    ReturnsInHanded {} Tryz.checked os 3 .any (fun w args => (spec.pre enc Tryz.checked.prog Tryz.f3 [] false w args ∧ laidMetH Tryz.checked.prog laids w) ∧ sizedMet enc Tryz.checked.prog Tryz.f3 spec false w args)
      ((spec.at F).post enc Tryz.checked.prog Tryz.f3 false true false false) := by
  refine carriedC (C := Tryz.checked) (ls := laids) (s := spec) rfl own started (by kernel_rfl) Tryz.func3 (witness os H enc) ?_
  intro W base args ds gs before hval0 hW hkk hL hsh
  have hval : ∀ (j : Nat) t v, Tryz.f3.params[j]? = some t → args[j]? = some v → Value.okWide Tryz.prog W .any base t v := hval0
  have hW' := hW
  obtain ⟨p, q, hA0, hV, rfl, hfz, hnd⟩ := hW
  have hA : DataW.TrodAll enc Tryz.prog W 0 (fun _ => true) true Tryz.f3.params.toList args.toList ds p := hA0
  rw [Tryz.params3] at hA hval
  obtain ⟨v0, d0, rfl, rfl, h0⟩ := trodAll_one hA
  obtain ⟨rfl, rfl⟩ := trodVars_none hV
  have k0 := h0
  have lt0 : ∀ x ∈ p, x.block < W.heap.size := by obtain ⟨m, hm⟩ := k0; exact DataW.trod_lt m _ _ _ hm
  obtain ⟨sa, sl, sc, rfl⟩ := okWide_slice Tryz.underlying22 (hval 0 22 v0 rfl rfl)
  obtain ⟨fu, h0⟩ := h0
  obtain ⟨a, l, cap, hcs, hlc, hmx, hlen, hall, hrow⟩ := open_tokens h0
  obtain ⟨rfl, rfl, rfl⟩ : sa = a ∧ sl = l.length ∧ sc = cap := by
    have : (Value.slice sa sl sc).cells.toList = [.slice sa sl sc] := rfl
    rw [this] at hcs
    simpa using hcs
  have hbk : Rows.uptoBulk d0 ≤ 1048576 := by
    have : Rows.uptoBulkAll [d0] ≤ 1048576 := of_decide_eq_true hkk
    simp only [Rows.uptoBulkAll] at this
    omega
  have hlen' : l.length ≤ Rows.uptoBulk d0 := hlen
  have hall' : ∀ t ∈ l, t.t.size ≤ Rows.uptoBulk d0 ∧ -9223372036854775808 ≤ t.n ∧ t.n ≤ 9223372036854775807 := hall
  obtain ⟨htab, E, hE⟩ := of_laid hL hsh
  clear hA0 hval0
  have fin : ∀ W', Below W.heap.size W W' → (spec.at F).post enc Tryz.checked.prog Tryz.f3 false true false false W #[.slice sa l.length sc] (.bool true) W' := fun W' bel =>
    ⟨_, _, _, [], _, [], hW', trodAll_mk1 (shut_bool Tryz.underlying4 _), trodAll_mk1 (Below.trod laidOut (by kernel_rfl) (of_decide_eq_true (by kernel_rfl)) k0 bel lt0), rfl, bel.frame _, fun h => by cases h⟩
  refine (back_walk E sa sc l W hE htab (by omega) hlc hmx (fun t ht => ⟨by have := (hall' t ht).1; omega, (hall' t ht).2⟩) hrow).mono fun e W' ⟨he, bel⟩ => ?_
  subst he
  exact ⟨_, rfl, fin W' bel⟩

theorem over : Rows.LexBackUptoSaid :=
  OpenClaim.holds_of_cond 3 Tryz.f3 rfl rfl rfl rfl rfl rfl rfl ⟨rfl, rfl, rfl, rfl, rfl⟩ rfl rfl rfl rfl rfl (by kernel_rfl) Tryz.func3 (by kernel_rfl)
    (of_decide_eq_true (by kernel_rfl)) (by unfold Func.isWrapper; first | (rw [if_pos (by decide +kernel)]; kernel_rfl) | (rw [if_neg (by decide +kernel)]; exact ⟨rfl, rfl⟩))
    (fun os started H enc _ F => lifted os started H enc F)

theorem proved : Rows.LexBackUptoCardSaid :=
  Claim7.holds_tied_plain_at .later [] [.data, .data, .data, .handle, .sentinel, .sentinel, .sentinel, .sentinel, .sentinel, .sentinel, .sentinel] true Rows.lexBackUptoCard.stood.harness Rows.lexBackUptoCard.stood.looks
    over (fun _ h => by cases h) (by kernel_rfl) (fun _ h => by cases h) lexBackUpto_row_tie rfl ⟨rfl, rfl⟩ (by kernel_rfl) rfl
    (fun f fn hf hfn => by
      obtain rfl : f = 3 := Option.some.inj ((show Tryz.prog.funcNamed Rows.lexBackUptoRow.func = some 3 by kernel_rfl).symm.trans hf) |>.symm
      obtain rfl : fn = Tryz.f3 := (Option.some.inj (Tryz.func3.symm.trans hfn)).symm
      exact ⟨by kernel_rfl, fun j t ht => by
        rw [Tryz.params3] at ht
        have hm : t ∈ [22] := by simpa using Array.mem_of_getElem? ht
        have hall : ([22].all fun u => !Tryz.prog.wantsStandIn u) = true := by kernel_rfl
        exact (show Tryz.prog.wantsStandIn t = false by simpa using List.all_eq_true.1 hall t hm)⟩)
    (by kernel_rfl)
#print axioms proved
end Go.Proofs.YtabngleincejfaaGreatDoor.lexBack
