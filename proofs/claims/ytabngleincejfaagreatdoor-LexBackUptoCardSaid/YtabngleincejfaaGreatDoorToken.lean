/- A list of tokens that came in, opened: where they lie, and how great they are. -/
import Derived.Test.YtabngleincejfaaGreatDoorBack
import Derived.Test.YtabngleincejfaaGreatDoorLaid
import Derived.Deep.Slices
import Derived.JoinedCond
namespace Go.Proofs.YtabngleincejfaaGreatDoor
open Go.ChangeShapes Go.WideShapes Go.ChangeAt Go.RowKit
open Go.Deep Go.Joins

theorem tokFields : ∃ n0 n1 n2 n3 : Field, Tryz.prog.underlying 25 = some (.struct #[n0, n1, n2, n3]) ∧ n0.type = 3 ∧ n1.type = 3 ∧ n2.type = 2 ∧ n3.type = 9 ∧ oneCellFields Tryz.prog #[n0, n1, n2, n3] = true :=
  ⟨_, _, _, _, Tryz.underlying25, rfl, rfl, rfl, rfl, by kernel_rfl⟩
theorem tokCells : Tryz.prog.cellsOf 25 = 4 := by kernel_rfl

instance : Inhabited Tk := ⟨⟨0, 0, 0, ⟨#[]⟩⟩⟩
theorem four {α : Type} {l : List α} (h : l.length = 4) : ∃ a b c d, l = [a, b, c, d] := by
  match l, h with
  | [a, b, c, d], _ => exact ⟨a, b, c, d, rfl⟩

section
variable {H : Type} {enc : TypeId × Value → H} {W : World} {base : Nat} {spare : Nat → Bool} {held : Bool}

theorem one_token {n : Nat} {cs : List Value} {x : DataW H × List MemPlace} (h : DataW.trod enc Tryz.prog W base spare held n 25 cs = some x) :
    ∃ t : Tk, cs = t.cells ∧ t.t.size + 5 ≤ Rows.uptoBulk x.1 ∧ -9223372036854775808 ≤ t.n ∧ t.n ≤ 9223372036854775807 := by
  obtain ⟨n0, n1, n2, n3, hst, e0, e1, e2, e3, hone⟩ := tokFields
  obtain ⟨xs, k, _, hx, hl, hxl, hf⟩ := DataW.trod_struct hst h
  rw [tokCells] at hl
  obtain ⟨o0, k0⟩ := hone_of hone 0 n0 rfl
  obtain ⟨o1, k1⟩ := hone_of hone 1 n1 rfl
  obtain ⟨o2, k2⟩ := hone_of hone 2 n2 rfl
  obtain ⟨o3, k3⟩ := hone_of hone 3 n3 rfl
  obtain ⟨y0, y1, y2, y3, rfl⟩ := four (l := xs) hxl
  obtain ⟨v0, v1, v2, v3, rfl⟩ := four hl
  · have g0 := hf 0 n0 rfl
    have g1 := hf 1 n1 rfl
    have g2 := hf 2 n2 rfl
    have g3 := hf 3 n3 rfl
    simp [o0, o1, o2, o3, k0, k1, k2, k3] at g0 g1 g2 g3
    rw [e0] at g0; rw [e1] at g1; rw [e2] at g2; rw [e3] at g3
    obtain ⟨a, ha, hy0, _⟩ := DataW.trod_int Tryz.underlying3 g0
    obtain ⟨b, hb, hy1, _⟩ := DataW.trod_int Tryz.underlying3 g1
    obtain ⟨c, hc, hy2, hwc⟩ := DataW.trod_int Tryz.underlying2 g2
    obtain ⟨s, hs, hy3, _⟩ := DataW.trod_string Tryz.underlying9 g3
    obtain rfl : v0 = .int .i64 a := by simpa using ha
    obtain rfl : v1 = .int .i64 b := by simpa using hb
    obtain rfl : v2 = .int .i64 c := by simpa using hc
    obtain rfl : v3 = .string s := by simpa using hs
    refine ⟨⟨a, b, c, s⟩, rfl, ?_, (bounds_i64 hwc).1, (bounds_i64 hwc).2⟩
    rw [hx, hy0, hy1, hy2, hy3]
    have hz := Lib.size_eq s
    show s.size + 5 ≤ Rows.uptoBulk (.agg [.lit (.int .i64 a), .lit (.int .i64 b), .lit (.int .i64 c), .lit (.string s.data.toList)])
    simp only [Rows.uptoBulk, Rows.uptoBulkAll]
    omega

theorem bulk_mem : ∀ (l : List (DataW H)) (d : DataW H), d ∈ l → Rows.uptoBulk d ≤ Rows.uptoBulkAll l
  | [], d, h => by cases h
  | e :: r, d, h => by
    simp only [Rows.uptoBulkAll]
    rcases List.mem_cons.1 h with rfl | h
    · omega
    · have := bulk_mem r d h
      omega
theorem bulk_len : ∀ (l : List (DataW H)), (∀ d ∈ l, 1 ≤ Rows.uptoBulk d) → l.length ≤ Rows.uptoBulkAll l
  | [], _ => by simp
  | e :: r, h => by
    have h1 := h e (by simp)
    have := bulk_len r fun d hd => h d (by simp [hd])
    simp only [Rows.uptoBulkAll, List.length_cons]
    omega

theorem open_tokens {fuel : Nat} {cs : List Value} {x : DataW H × List MemPlace} (h : DataW.trod enc Tryz.prog W base spare held fuel 22 cs = some x) :
    ∃ (a : Option Addr) (l : List Tk) (cap : Nat), cs = [.slice a l.length cap] ∧ l.length ≤ cap ∧ cap ≤ maxLen ∧ l.length ≤ Rows.uptoBulk x.1 ∧ (∀ t ∈ l, t.t.size ≤ Rows.uptoBulk x.1 ∧ -9223372036854775808 ≤ t.n ∧ t.n ≤ 9223372036854775807) ∧
      (l = [] ∨ ∃ g o, a = some ⟨g, o, none⟩ ∧ RowAt W g o l ∧ g < W.heap.size) := by
  rcases open_slice Tryz.underlying22 h with ⟨rfl, rfl⟩ | ⟨a, len, cap, m, n, D, Pl, rfl, hb, hlc, hmx, hm, rfl, hel⟩
  · exact ⟨none, [], 0, rfl, by simp, by simp, by simp, by simp, .inl rfl⟩
  · have hlm : len ≤ m := by rw [hm]; split <;> omega
    have each : ∀ i, i < len → ∃ t : Tk, (∀ j, j < 4 → W.cell? (a.add (i * 4 + j)) = t.cells[j]?) ∧ t.t.size + 5 ≤ Rows.uptoBulk (D i) ∧ -9223372036854775808 ≤ t.n ∧ t.n ≤ 9223372036854775807 := fun i hi => by
      obtain ⟨cs', h1, h2⟩ := hel i (by omega)
      rw [tokCells] at h1
      obtain ⟨_, _, hcell⟩ := World.cells?_some h1
      obtain ⟨t, rfl, hbk, hn⟩ := one_token h2
      refine ⟨t, fun j hj => ?_, hbk, hn⟩
      have := hcell j hj
      rwa [add_add] at this
    obtain ⟨f, hf⟩ := choose_lt each
    have hlen : ((List.range len).map f).length = len := by simp
    refine ⟨some a, (List.range len).map f, cap, by rw [hlen], by rw [hlen]; exact hlc, hmx, ?_, ?_, ?_⟩
    · rw [hlen]
      have := bulk_len ((List.range len).map D) fun d hd => by
        obtain ⟨i, hi, rfl⟩ := List.mem_map.1 hd
        have := (hf i (List.mem_range.1 hi)).2.1
        omega
      rw [List.length_map, List.length_range] at this
      simp only [Rows.uptoBulk]
      omega
    · intro t ht
      obtain ⟨i, hi, rfl⟩ := List.mem_map.1 ht
      obtain ⟨_, h1, h2, h3⟩ := hf i (List.mem_range.1 hi)
      have := bulk_mem ((List.range len).map D) (D i) (List.mem_map_of_mem hi)
      simp only [Rows.uptoBulk]
      exact ⟨by omega, h2, h3⟩
    · rcases Nat.eq_zero_or_pos len with h0 | h0
      · subst h0; exact .inl rfl
      · refine .inr ?_
        have hsp : a.spot = none := by
          have := (hf 0 h0).1 0 (by omega)
          have e : a.add (0 * 4 + 0) = a := by unfold Addr.add; simp
          rw [e] at this
          unfold World.cell? at this
          split at this
          · split at this
            · simp [Tk.cells] at this
            · rename_i hh; simpa using hh
          · simp [Tk.cells] at this
        obtain ⟨g, o, sp⟩ := a
        simp only at hsp
        subst hsp
        have hadd : ∀ j, (⟨g, o, none⟩ : Addr).add j = ⟨g, o + j, none⟩ := fun j => by unfold Addr.add; split <;> simp_all
        refine ⟨g, o, rfl, fun i hi => ?_, ?_⟩
        · rw [hlen] at hi
          have hc := (hf i hi).1
          rw [List.getElem_map, List.getElem_range]
          refine ⟨?_, ?_, ?_, ?_⟩
          · have := hc 0 (by omega); rw [hadd] at this; simpa [Tk.cells] using this
          · have := hc 1 (by omega); rw [hadd] at this; simpa [Tk.cells, Nat.add_assoc] using this
          · have := hc 2 (by omega); rw [hadd] at this; simpa [Tk.cells, Nat.add_assoc] using this
          · have := hc 3 (by omega); rw [hadd] at this; simpa [Tk.cells, Nat.add_assoc] using this
        · have := (hf 0 h0).1 0 (by omega)
          rw [hadd] at this
          rcases Nat.lt_or_ge g W.heap.size with h' | h'
          · exact h'
          · simp [World.cell?, Array.getElem?_eq_none h', Tk.cells] at this
end

/-- A row's wrap, with a condition on the data, the condition on the laid variables and the world's shape at hand. -/
theorem carriedC {C : Checked} {ls : List (String × DataW Unit)} {H : Type} {enc : TypeId × Value → H} {os : Os} {f : FuncId} {fn : Func} {s : OpenSpec} {k : (H : Type) → List (DataW H) → Bool} (hk : s.cond = some k) {F : Stop.Interp} {apart fresh handsOn again : Bool}
    (own : ownKnob C.prog.godebug = none) (started : os.Started) (noInit : C.prog.inits.idxOf? f = none) (hfn : C.prog.funcs[f]? = some fn)
    (witness : ∃ (w : World) (tape : Tape) (i : Input), w.os = os ∧ (w.forCall tape i).Shaped C.prog ∧ i.vars = [] ∧ Input.okWide C.prog (w.forCall tape i) .any w.heap.size f i ∧
      ((s.pre enc C.prog fn [] apart (w.forCall tape i).memory i.args ∧ laidMetH C.prog ls (w.forCall tape i).memory) ∧ sizedMet enc C.prog fn s apart (w.forCall tape i).memory i.args) ∧
      Assume.holds {} C.prog (lone (Frame.enter C.prog f i.args .normal) [] (w.forCall tape i)))
    (meets : ∀ (W : World) (base : Nat) (args : Array Value) (ds gs : List (DataW H)) (before : List MemPlace),
      (∀ (j : Nat) t v, fn.params[j]? = some t → args[j]? = some v → Value.okWide C.prog W .any base t v) → DataW.Whole enc C.prog fn.params.toList s.vars apart W args.toList ds gs before →
      k H (ds ++ gs) = true → laidMetH C.prog ls W → W.ShapedOpen C.prog →
      Calls C.prog f args W fun e W' => ∃ v, e = .returned v ∧ (s.at F).post enc C.prog fn apart fresh handsOn again W args v W') :
    ReturnsInHanded {} C os f .any (fun w args => (s.pre enc C.prog fn [] apart w args ∧ laidMetH C.prog ls w) ∧ sizedMet enc C.prog fn s apart w args) ((s.at F).post enc C.prog fn apart fresh handsOn again) :=
  returnsInHanded_of_calls (C := C) own started noInit witness fun w tape i _ hsh _ hok hpre _ => by
    obtain ⟨_, _, _, fn', hf', _, _, _, _, hval⟩ := hok
    obtain rfl : fn' = fn := Option.some.inj (hf'.symm.trans hfn)
    obtain ⟨⟨hp0, hx⟩, _⟩ := hpre
    obtain ⟨ds, gs, before, hw, _, hkk⟩ := (OpenSpec.pre_some hk [] apart _ _).1 hp0
    have hw' := DataW.Whole.of_heap (w' := w.forCall tape i) (show (w.forCall tape i).memory.heap = (w.forCall tape i).heap from rfl) hw
    have hlm : laidMetH C.prog ls (w.forCall tape i) := laidMetH.of_heap (w := (w.forCall tape i).memory) rfl hx
    refine (meets (w.forCall tape i) w.heap.size i.args ds gs before hval hw' hkk hlm hsh).mono fun e W' h => ?_
    obtain ⟨v, rfl, hp⟩ := h
    exact ChangeSpec.post_blind hp
end Go.Proofs.YtabngleincejfaaGreatDoor
