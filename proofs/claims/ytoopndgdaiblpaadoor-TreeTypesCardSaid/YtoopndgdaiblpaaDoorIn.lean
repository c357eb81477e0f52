/- A list of parts that came in, opened. -/
import Derived.Test.YtoopndgdaiblpaaDoorOfA
import Derived.Test.YtoopndgdaiblpaaDoorRows
import Derived.WalkKit
import Derived.ProofKit
import Derived.OpenShut
import Derived.ShutString
import Derived.ChangeOld
import Derived.Below
import Derived.Carry
import Derived.LaidMore
import Derived.LaidLaws
import Derived.LaidHandle
import Derived.Handed
import Derived.Stop.Joined
import Derived.Lib.SmallJoins
import Derived.Deep.Slices
import Derived.JoinedCond
namespace Go.Proofs.YtoopndgdaiblpaaDoor
open Go.ChangeShapes Go.WideShapes Go.ChangeAt Go.RowKit
open Go.ChangeMaps (open_string shut_string)
open Go.Deep Go.Joins

theorem partFields : ∃ n0 n1 n2 n3 n4 : Field, Tryd.prog.underlying 54 = some (.struct #[n0, n1, n2, n3, n4]) ∧ n0.type = 5 ∧ n1.type = 9 ∧ n2.type = 2 ∧ n3.type = 5 ∧ n4.type = 5 ∧ oneCellFields Tryd.prog #[n0, n1, n2, n3, n4] = true :=
  ⟨_, _, _, _, _, Tryd.underlying54, rfl, rfl, rfl, rfl, rfl, by kernel_rfl⟩
theorem partCells : Tryd.prog.cellsOf 54 = 5 := by kernel_rfl

instance : Inhabited Pt := ⟨⟨0, ⟨#[]⟩, 0, 0, 0⟩⟩
theorem five {α : Type} {l : List α} (h : l.length = 5) : ∃ a b c d e, l = [a, b, c, d, e] := by
  match l, h with
  | [a, b, c, d, e], _ => exact ⟨a, b, c, d, e, rfl⟩
def Pt.cells (p : Pt) : List Value := [.int .u8 p.kind, .string p.s, .int .i64 p.n, .int .u8 p.args, .int .u8 p.t]

section
variable {H : Type} {enc : TypeId × Value → H} {W : World} {base : Nat} {spare : Nat → Bool} {held : Bool}

theorem byte_in {a : Int} (h : (Lit.int .u8 a).wf = true) : 0 ≤ a ∧ a ≤ 255 := by
  exact bounds_u8 h

theorem one_part {n : Nat} {cs : List Value} {x : DataW H × List MemPlace} (h : DataW.trod enc Tryd.prog W base spare held n 54 cs = some x) : ∃ p : Pt, cs = p.cells ∧ p.ok := by
  obtain ⟨n0, n1, n2, n3, n4, hst, e0, e1, e2, e3, e4, hone⟩ := partFields
  obtain ⟨xs, k, _, hx, hl, hxl, hf⟩ := DataW.trod_struct hst h
  rw [partCells] at hl
  obtain ⟨o0, k0⟩ := hone_of hone 0 n0 rfl
  obtain ⟨o1, k1⟩ := hone_of hone 1 n1 rfl
  obtain ⟨o2, k2⟩ := hone_of hone 2 n2 rfl
  obtain ⟨o3, k3⟩ := hone_of hone 3 n3 rfl
  obtain ⟨o4, k4⟩ := hone_of hone 4 n4 rfl
  obtain ⟨y0, y1, y2, y3, y4, rfl⟩ := five (l := xs) hxl
  obtain ⟨v0, v1, v2, v3, v4, rfl⟩ := five hl
  · have g0 := hf 0 n0 rfl
    have g1 := hf 1 n1 rfl
    have g2 := hf 2 n2 rfl
    have g3 := hf 3 n3 rfl
    have g4 := hf 4 n4 rfl
    simp [o0, o1, o2, o3, o4, k0, k1, k2, k3, k4] at g0 g1 g2 g3 g4
    rw [e0] at g0; rw [e1] at g1; rw [e2] at g2; rw [e3] at g3; rw [e4] at g4
    obtain ⟨a, ha, _, wa⟩ := DataW.trod_int Tryd.underlying5 g0
    obtain ⟨s, hs, _, _⟩ := DataW.trod_string Tryd.underlying9 g1
    obtain ⟨c, hc, _, _⟩ := DataW.trod_int Tryd.underlying2 g2
    obtain ⟨d, hd, _, wd⟩ := DataW.trod_int Tryd.underlying5 g3
    obtain ⟨t, ht, _, wt⟩ := DataW.trod_int Tryd.underlying5 g4
    obtain rfl : v0 = .int .u8 a := by simpa using ha
    obtain rfl : v1 = .string s := by simpa using hs
    obtain rfl : v2 = .int .i64 c := by simpa using hc
    obtain rfl : v3 = .int .u8 d := by simpa using hd
    obtain rfl : v4 = .int .u8 t := by simpa using ht
    have b1 := byte_in wa
    have b2 := byte_in wd
    have b3 := byte_in wt
    exact ⟨⟨a, s, c, d, t⟩, rfl, b1.1, b1.2, b2.1, b2.2, b3.1, b3.2⟩

theorem open_parts {fuel : Nat} {cs : List Value} {x : DataW H × List MemPlace} (h : DataW.trod enc Tryd.prog W base spare held fuel 22 cs = some x) :
    ∃ (v : Value) (l : List Pt), cs = [v] ∧ PV W W.heap.size v l ∧ (l.length : Int) ≤ 9223372036854775807 := by
  rcases open_slice Tryd.underlying22 h with ⟨rfl, rfl⟩ | ⟨a, len, cap, m, n, D, Pl, rfl, hb, hlc, hmx, hm, rfl, hel⟩
  · exact ⟨.slice none 0 0, [], rfl, .inl ⟨rfl, none, 0, rfl⟩, by simp⟩
  · have hlm : len ≤ m := by rw [hm]; split <;> omega
    have each : ∀ i, i < len → ∃ p : Pt, (∀ j, j < 5 → W.cell? (a.add (i * 5 + j)) = p.cells[j]?) ∧ p.ok := fun i hi => by
      obtain ⟨cs', h1, h2⟩ := hel i (by omega)
      rw [partCells] at h1
      obtain ⟨_, _, hcell⟩ := World.cells?_some h1
      obtain ⟨p, rfl, hok⟩ := one_part h2
      refine ⟨p, fun j hj => ?_, hok⟩
      have := hcell j hj
      rwa [add_add] at this
    obtain ⟨f, hf⟩ := choose_lt each
    have hlen : ((List.range len).map f).length = len := by simp
    have hmx2 := hmx
    unfold maxLen at hmx2
    rcases Nat.eq_zero_or_pos len with h0 | h0
    · subst h0
      exact ⟨_, [], rfl, .inl ⟨rfl, some a, cap, rfl⟩, by simp⟩
    · refine ⟨_, (List.range len).map f, rfl, .inr ?_, by rw [hlen]; omega⟩
      have hsp : a.spot = none := by
        have := (hf 0 h0).1 0 (by omega)
        have e : a.add (0 * 5 + 0) = a := by unfold Addr.add; simp
        rw [e] at this
        unfold World.cell? at this
        split at this
        · split at this
          · simp [Pt.cells] at this
          · rename_i hh; simpa using hh
        · simp [Pt.cells] at this
      obtain ⟨g, o, sp⟩ := a
      simp only at hsp
      subst hsp
      have hadd : ∀ j, (⟨g, o, none⟩ : Addr).add j = ⟨g, o + j, none⟩ := fun j => by unfold Addr.add; split <;> simp_all
      refine ⟨g, o, cap, by rw [hlen], by rw [hlen]; exact hlc, hmx, ?_, fun i hi => ?_⟩
      · have := (hf 0 h0).1 0 (by omega)
        rw [hadd] at this
        rcases Nat.lt_or_ge g W.heap.size with h' | h'
        · exact h'
        · simp [World.cell?, Array.getElem?_eq_none h', Pt.cells] at this
      · rw [hlen] at hi
        have hc := (hf i hi).1
        rw [List.getElem_map, List.getElem_range]
        refine ⟨?_, ?_, ?_, ?_, ?_, (hf i hi).2⟩
        · have := hc 0 (by omega); rw [hadd] at this; simpa [Pt.cells] using this
        · have := hc 1 (by omega); rw [hadd] at this; simpa [Pt.cells, Nat.add_assoc] using this
        · have := hc 2 (by omega); rw [hadd] at this; simpa [Pt.cells, Nat.add_assoc] using this
        · have := hc 3 (by omega); rw [hadd] at this; simpa [Pt.cells, Nat.add_assoc] using this
        · have := hc 4 (by omega); rw [hadd] at this; simpa [Pt.cells, Nat.add_assoc] using this
end
end Go.Proofs.YtoopndgdaiblpaaDoor
