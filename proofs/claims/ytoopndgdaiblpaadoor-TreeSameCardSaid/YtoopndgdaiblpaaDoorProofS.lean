/- The statement TreeSame, as a card: at every two lists of parts, every two types and every depth the law answers true; no condition of its own. -/
import Derived.Test.YtoopndgdaiblpaaDoorTsL
import Derived.Test.YtoopndgdaiblpaaDoorInB
import Derived.Test.YtoopndgdaiblpaaDoorTie
import Derived.Test.YtoopndgdaiblpaaDoorCards
import Derived.SevenTiedAt
namespace Go.Proofs.YtoopndgdaiblpaaDoor.treeSame
open Go.ChangeShapes Go.WideShapes Go.ChangeAt Go.RowKit
open Go.ChangeMaps (open_string shut_string)
open Go.Deep Go.Joins

theorem own : ownKnob Tryd.prog.godebug = none := by kernel_rfl
theorem laidOut : laidOutB Tryd.prog = true := by kernel_rfl
abbrev laids : List (String × DataW Unit) := Rows.treeSameRow.laid

/-- What a listed variable holds, by its place in the list. -/
theorem laid_at {P : Program} {w : World} : ∀ {l : List (String × DataW Unit)} {ps : List MemPlace}, DataW.LaidVars P w l ps → ∀ {i : Nat} {x : String × DataW Unit}, l[i]? = some x →
    ∃ g t cs fuel p, P.globalNamed x.1 = some g ∧ (P.globals[g]?).map (·.type) = some t ∧ w.var? P x.1 = some cs ∧ DataW.trod (fun _ => ()) P w 0 (fun _ => true) false fuel t cs.toList = some (x.2, p)
  | [], _, _, _, _, hx => by simp at hx
  | (n, d) :: r, _, ⟨g, t, cs, fuel, p, q, h1, h2, h3, h4, h5, _⟩, 0, x, hx => by
    simp only [List.getElem?_cons_zero, Option.some.injEq] at hx
    subst hx
    exact ⟨g, t, cs, fuel, p, h1, h2, h3, h4⟩
  | (n, d) :: r, _, ⟨g, t, cs, fuel, p, q, h1, h2, h3, h4, h5, _⟩, i + 1, x, hx => laid_at h5 (by simpa using hx)

/-- The door's own heap meets the condition. -/
theorem door_met (os : Os) (args : Array Value) : laidMetH Tryd.prog laids ((World.doorLaid Tryd.prog 400 os).forCall (fun _ _ => 0) ⟨#[], args, []⟩).memory :=
  laidMetH_of_parts3 (fuel := 8) (laidMet_of_run' 8 (by kernel_rfl) (by kernel_rfl)) (by kernel_rfl) (by kernel_rfl)
theorem gerrWord : Tryd.prog.globalNamed "trefoil/lex.errWord" = some 0 := by kernel_rfl
theorem terrWord : (Tryd.prog.globals[0]?).map (·.type) = some 99 := by kernel_rfl
theorem var_lt {P : Program} {w : World} {n : String} {g : Nat} {cs : Array Value} (hg : P.globalNamed n = some g) (h : w.var? P n = some cs) : g < w.heap.size := by
  rcases Nat.lt_or_ge g w.heap.size with h' | h'
  · exact h'
  · unfold World.var? at h
    rw [hg] at h
    simp [Array.getElem?_eq_none h'] at h

set_option maxRecDepth 100000 in
theorem of_laid {W : World} (h : laidMetH Tryd.prog laids W) : ∃ T v, W.cell? ⟨0, 0, none⟩ = some (.iface T v) ∧ 0 < W.heap.size := by
  have h' : laidMet Tryd.prog laids W := h
  obtain ⟨ps, hv, _, _⟩ := h'
  obtain ⟨g, t, cs, f, p, hg, ht, hv2, hd⟩ := laid_at hv (i := 0) (x := ("trefoil/lex.errWord", Rows.laid_trefoil_lex_errWord)) rfl
  obtain rfl := Option.some.inj (gerrWord.symm.trans hg)
  obtain rfl := Option.some.inj (terrWord.symm.trans ht)
  obtain ⟨f', u, v, hcs, _, _⟩ := iface_of_trod Tryd.underlying99 hd
  have := World.var?_cell hg hv2 0
  rw [Array.eq_one_of_toList hcs] at this
  exact ⟨u, v, by simpa using this, var_lt gerrWord hv2⟩

theorem twoFields : ∃ n0 n1 n2 n3 n4 : Field, Tryd.prog.underlying 25 = some (.struct #[n0, n1, n2, n3, n4]) ∧ n0.type = 22 ∧ n1.type = 22 ∧ n2.type = 5 ∧ n3.type = 5 ∧ n4.type = 23 ∧ oneCellFields Tryd.prog #[n0, n1, n2, n3, n4] = true :=
  ⟨_, _, _, _, _, Tryd.underlying25, rfl, rfl, rfl, rfl, rfl, by kernel_rfl⟩
set_option maxRecDepth 100000 in
theorem open_two {H : Type} {enc : TypeId × Value → H} {W : World} {base : Nat} {spare : Nat → Bool} {held : Bool} {r : Reach} {b0 : Nat} {v : Value} {d : DataW H} {p : List MemPlace} {f0 f1 f2 f3 f4 : Field} (hs : Tryd.prog.underlying 25 = some (.struct #[f0, f1, f2, f3, f4])) (hone : oneCellFields Tryd.prog #[f0, f1, f2, f3, f4] = true)
    (hv : Value.okWide Tryd.prog W r b0 25 v) (h : DataW.Trod enc Tryd.prog W base spare held 25 v d p) :
    ∃ (v0 v1 v2 v3 v4 : Value) (y0 y1 y2 y3 y4 : DataW H × List MemPlace) (n : Nat), v = .agg #[v0, v1, v2, v3, v4] ∧ d = .agg [y0.1, y1.1, y2.1, y3.1, y4.1] ∧
      DataW.trod enc Tryd.prog W base spare held n f0.type [v0] = some y0 ∧ DataW.trod enc Tryd.prog W base spare held n f1.type [v1] = some y1 ∧ DataW.trod enc Tryd.prog W base spare held n f2.type [v2] = some y2 ∧ DataW.trod enc Tryd.prog W base spare held n f3.type [v3] = some y3 ∧ DataW.trod enc Tryd.prog W base spare held n f4.type [v4] = some y4 := by
  obtain ⟨cs, rfl, hsz⟩ := okWide_struct hs hv
  have hC : Tryd.prog.cellsOf 25 = 5 := by kernel_rfl
  rw [hC] at hsz
  obtain ⟨c0, c1, c2, c3, c4, hl⟩ := five (l := cs.toList) (by simpa using hsz)
  obtain rfl : cs = #[c0, c1, c2, c3, c4] := by
    apply Array.ext'
    simpa using hl
  obtain ⟨fuel, hf⟩ := h
  obtain ⟨xs, n, _, hx, _, hlen, hfs⟩ := DataW.trod_struct hs hf
  obtain ⟨y0, y1, y2, y3, y4, rfl⟩ := five (l := xs) hlen
  obtain ⟨o0, k0⟩ := hone_of hone 0 f0 rfl
  obtain ⟨o1, k1⟩ := hone_of hone 1 f1 rfl
  obtain ⟨o2, k2⟩ := hone_of hone 2 f2 rfl
  obtain ⟨o3, k3⟩ := hone_of hone 3 f3 rfl
  obtain ⟨o4, k4⟩ := hone_of hone 4 f4 rfl
  simp only [Prod.mk.injEq] at hx
  exact ⟨c0, c1, c2, c3, c4, y0, y1, y2, y3, y4, n, rfl, by simpa using hx.1, by simpa [Value.cells, o0, k0] using hfs 0 f0 rfl, by simpa [Value.cells, o1, k1] using hfs 1 f1 rfl, by simpa [Value.cells, o2, k2] using hfs 2 f2 rfl, by simpa [Value.cells, o3, k3] using hfs 3 f3 rfl, by simpa [Value.cells, o4, k4] using hfs 4 f4 rfl⟩

set_option maxRecDepth 100000 in
theorem lifted (os : Os) (started : os.Started) (H : Type) (enc : TypeId × Value → H) :
    ReturnsInHanded {} Tryd.checked os 3 .any (fun w args => (Rows.treeSameSpec.pre enc Tryd.prog Tryd.f3 [] false w args ∧ laidMetH Tryd.prog laids w) ∧ sizedMet enc Tryd.prog Tryd.f3 (OpenSpec.ofChange Rows.treeSameSpec) false w args)
      (Rows.treeSameSpec.post enc Tryd.prog Tryd.f3 false true false false) := by
  refine returnsInHanded_of_change_and (C := Tryd.checked) (X := fun w _ => laidMetH Tryd.prog laids w) (fun _ _ _ hh h => h.of_heap hh) own started (by kernel_rfl) Tryd.func3
    (ChangeSpec.witness_shaped (enc := enc) (C := Tryd.checked) (os := os) (X := fun w _ => laidMetH Tryd.prog laids w) false (World.doorLaid Tryd.prog 400 os) #[.agg #[.slice none 0 0, .slice none 0 0, .int .u8 0, .int .u8 0, .int .u16 0]] 8 rfl (World.shaped_of_RefB (by kernel_rfl) (by kernel_rfl)) (by kernel_rfl) (by kernel_rfl) (by kernel_rfl) (door_met os _)) ?_
  intro W base args ds gs before hval0 hW _ hsz hL _
  have hval : ∀ (j : Nat) t v, Tryd.f3.params[j]? = some t → args[j]? = some v → Value.okWide Tryd.prog W .any base t v := hval0
  have hW' := hW
  obtain ⟨p, q, hA0, hV, rfl, hfz, hnd⟩ := hW
  have hA : DataW.TrodAll enc Tryd.prog W 0 (fun _ => true) true Tryd.f3.params.toList args.toList ds p := hA0
  rw [Tryd.params3] at hA hval
  obtain ⟨v0, d0, rfl, rfl, h0⟩ := trodAll_one hA
  obtain ⟨rfl, rfl⟩ := trodVars_none hV
  obtain ⟨n0, n1, n2, n3, n4, hst, e0, e1, e2, e3, e4, hone⟩ := twoFields
  have k0 := h0
  have lt0 : ∀ x ∈ p, x.block < W.heap.size := by obtain ⟨m, hm⟩ := k0; exact DataW.trod_lt m _ _ _ hm
  obtain ⟨c0, c1, c2, c3, c4, y0, y1, y2, y3, y4, n, rfl, hd0, j0, j1, j2, j3, j4⟩ := open_two hst hone (hval 0 25 v0 rfl rfl) h0
  rw [e0] at j0; rw [e1] at j1; rw [e2] at j2; rw [e3] at j3; rw [e4] at j4
  obtain ⟨u0, la, hc0, pva, hla⟩ := open_parts j0
  obtain ⟨u1, lb, hc1, pvb, hlb⟩ := open_parts j1
  obtain rfl : c0 = u0 := by simpa using hc0
  obtain rfl : c1 = u1 := by simpa using hc1
  obtain ⟨a, ha, _, wa⟩ := DataW.trod_int Tryd.underlying5 j2
  obtain ⟨b, hb, _, wb⟩ := DataW.trod_int Tryd.underlying5 j3
  obtain ⟨m, hm, _, wm⟩ := DataW.trod_int Tryd.underlying23 j4
  obtain rfl : c2 = .int .u8 a := by simpa using ha
  obtain rfl : c3 = .int .u8 b := by simpa using hb
  obtain rfl : c4 = .int .u16 m := by simpa using hm
  have ba := bounds_u8 wa
  have bb := bounds_u8 wb
  have bm := bounds_u16 wm
  have form : ∀ {v : Value} {l : List Pt}, PV W W.heap.size v l → ∃ x n c, v = .slice x n c := fun h => by
    rcases h with ⟨_, x, c, h⟩ | ⟨g, o, c, h, _⟩
    · exact ⟨x, 0, c, h⟩
    · exact ⟨_, _, c, h⟩
  obtain ⟨xa, na, ca, rfl⟩ := form pva
  obtain ⟨xb, nb, cb, rfl⟩ := form pvb
  obtain ⟨T, v, hg, hgl⟩ := of_laid hL
  clear hA0 hval0
  have fin : ∀ W', Below W.heap.size W W' → Rows.treeSameSpec.post enc Tryd.prog Tryd.f3 false true false false W #[.agg #[.slice xa na ca, .slice xb nb cb, .int .u8 a, .int .u8 b, .int .u16 m]] (.bool true) W' := fun W' bel =>
    ⟨_, _, _, [], _, [], hW', trodAll_mk1 (shut_bool Tryd.underlying4 _), trodAll_mk1 (Below.trod laidOut (by kernel_rfl) (of_decide_eq_true (by kernel_rfl)) k0 bel lt0), rfl, bel.frame _, fun h => by cases h⟩
  refine (tsame_any T v la lb xa xb na nb ca cb a b m W hg hgl pva pvb hla hlb ba.1 ba.2 bb.1 bb.2 bm.1 bm.2).mono fun e W' ⟨he, bel⟩ => ?_
  subst he
  exact ⟨_, rfl, fin W' bel⟩

theorem over : Rows.TreeSameSaid :=
  OpenClaim.holds_of_wide 3 Tryd.f3 rfl rfl rfl rfl rfl rfl rfl ⟨rfl, rfl, rfl, rfl, rfl⟩ rfl rfl rfl rfl rfl (by kernel_rfl) Tryd.func3 (by kernel_rfl)
    (of_decide_eq_true (by kernel_rfl)) (by unfold Func.isWrapper; first | (rw [if_pos (by decide +kernel)]; kernel_rfl) | (rw [if_neg (by decide +kernel)]; exact ⟨rfl, rfl⟩))
    (fun os started H enc _ => lifted os started H enc)

theorem proved : Rows.TreeSameCardSaid :=
  Claim7.holds_tied_plain_at .later [] [.sentinel] true Rows.treeSameCard.stood.harness Rows.treeSameCard.stood.looks
    over (fun _ h => by cases h) (by kernel_rfl) (fun _ h => by cases h) treeSame_row_tie rfl ⟨rfl, rfl⟩ (by kernel_rfl) rfl
    (fun f fn hf hfn => by
      obtain rfl : f = 3 := Option.some.inj ((show Tryd.prog.funcNamed Rows.treeSameRow.func = some 3 by kernel_rfl).symm.trans hf) |>.symm
      obtain rfl : fn = Tryd.f3 := (Option.some.inj (Tryd.func3.symm.trans hfn)).symm
      exact ⟨by kernel_rfl, fun j t ht => by
        rw [Tryd.params3] at ht
        have hm : t ∈ [25] := by simpa using Array.mem_of_getElem? ht
        have hall : ([25].all fun u => !Tryd.prog.wantsStandIn u) = true := by kernel_rfl
        exact (show Tryd.prog.wantsStandIn t = false by simpa using List.all_eq_true.1 hall t hm)⟩)
    (by kernel_rfl)
#print axioms proved
end Go.Proofs.YtoopndgdaiblpaaDoor.treeSame
