/- A graph that came in, opened: where it lies, and how great it is. -/
import Derived.Test.YtkbmkmpoapafaaaDoorGh
import Derived.Test.YtkbmkmpoapafaaaDoorRows
import Derived.WalkKit
import Derived.ProofKit
import Derived.OpenShut
import Derived.ShutString
import Derived.ChangeOld
import Derived.Below
import Derived.Carry
import Derived.LaidMore
import Derived.LaidLaws
import Derived.LaidHandle
import Derived.Handed
import Derived.Stop.Joined
import Derived.Lib.SmallJoins
import Derived.Deep.Slices
import Derived.JoinedCond
namespace Go.Proofs.YtkbmkmpoapafaaaDoor
open Go.ChangeShapes Go.WideShapes Go.ChangeAt Go.RowKit
open Go.ChangeMaps (open_string shut_string)
open Go.Deep Go.Joins

theorem nodeFields : ∃ n0 n1 n2 n3 n4 : Field, Tryd.prog.underlying 37 = some (.struct #[n0, n1, n2, n3, n4]) ∧ n0.type = 3 ∧ n1.type = 9 ∧ n2.type = 32 ∧ n3.type = 35 ∧ n4.type = 4 ∧ oneCellFields Tryd.prog #[n0, n1, n2, n3, n4] = true :=
  ⟨_, _, _, _, _, Tryd.underlying37, rfl, rfl, rfl, rfl, rfl, by kernel_rfl⟩
theorem nodeCells : Tryd.prog.cellsOf 37 = 5 := by kernel_rfl
theorem graphFields : ∃ n0 n1 : Field, Tryd.prog.underlying 24 = some (.struct #[n0, n1]) ∧ n0.type = 22 ∧ n1.type = 3 ∧ oneCellFields Tryd.prog #[n0, n1] = true :=
  ⟨_, _, Tryd.underlying24, rfl, rfl, by kernel_rfl⟩
theorem graphCells : Tryd.prog.cellsOf 24 = 2 := by kernel_rfl
theorem intCells : Tryd.prog.cellsOf 3 = 1 := by kernel_rfl
theorem strCells : Tryd.prog.cellsOf 9 = 1 := by kernel_rfl

theorem five {α : Type} {l : List α} (h : l.length = 5) : ∃ a b c d e, l = [a, b, c, d, e] := by
  match l, h with
  | [a, b, c, d, e], _ => exact ⟨a, b, c, d, e, rfl⟩
theorem two {α : Type} {l : List α} (h : l.length = 2) : ∃ a b, l = [a, b] := by
  match l, h with
  | [a, b], _ => exact ⟨a, b, rfl⟩
theorem add_at {a : Addr} (h : a.spot = none) (j : Nat) : a.add j = ⟨a.block, a.off + j, none⟩ := by
  obtain ⟨g, o, sp⟩ := a
  simp only at h
  subst h
  unfold Addr.add; split <;> simp_all
theorem spot_none {W : World} {a : Addr} {u : Value} (h : W.cell? a = some u) : a.spot = none ∧ a.block < W.heap.size := by
  have hb : a.block < W.heap.size := by
    rcases Nat.lt_or_ge a.block W.heap.size with h' | h'
    · exact h'
    · simp [World.cell?, Array.getElem?_eq_none h'] at h
  refine ⟨?_, hb⟩
  unfold World.cell? at h
  split at h
  · split at h
    · cases h
    · rename_i hh; simpa using hh
  · cases h

instance : Inhabited GN := ⟨⟨0, ⟨#[]⟩, [], [], false⟩⟩

section
variable {H : Type} {enc : TypeId × Value → H} {W : World} {base : Nat} {spare : Nat → Bool} {held : Bool}

theorem bulk_one (d : DataW H) : 1 ≤ Rows.uptoBulk d := by
  cases d with
  | lit l => cases l <;> simp [Rows.uptoBulk]
  | nil => simp [Rows.uptoBulk]
  | ptr d => simp [Rows.uptoBulk]
  | slice elems spare => simp [Rows.uptoBulk]
  | agg parts => simp [Rows.uptoBulk]
  | iface t d => simp [Rows.uptoBulk]
  | map entries => simp [Rows.uptoBulk]
  | held h => simp [Rows.uptoBulk]
theorem bulk_mem : ∀ (l : List (DataW H)) (d : DataW H), d ∈ l → Rows.uptoBulk d ≤ Rows.uptoBulkAll l
  | [], d, h => by cases h
  | e :: r, d, h => by
    simp only [Rows.uptoBulkAll]
    rcases List.mem_cons.1 h with rfl | h
    · omega
    · have := bulk_mem r d h
      omega
theorem bulk_len : ∀ (l : List (DataW H)), l.length ≤ Rows.uptoBulkAll l
  | [] => by simp
  | e :: r => by
    have h1 := bulk_one e
    have := bulk_len r
    simp only [Rows.uptoBulkAll, List.length_cons]
    omega

theorem open_ints {fuel : Nat} {v : Value} {x : DataW H × List MemPlace} (h : DataW.trod enc Tryd.prog W base spare held fuel 32 [v] = some x) :
    ∃ l : List Int, Nums W (fun b => b < W.heap.size) v l ∧ l.length ≤ Rows.uptoBulk x.1 := by
  rcases open_slice1 Tryd.underlying32 intCells h with ⟨hv, rfl⟩ | ⟨a, len, cap, m, n, V, D, Pl, hv, hb, hlc, hmx, hm, rfl, hel⟩
  · obtain rfl : v = .slice none 0 0 := by simpa using hv
    exact ⟨[], ⟨0, 0, .inl ⟨.inl rfl, rfl⟩, fun i hi => absurd hi (by simp)⟩, by simp⟩
  · obtain rfl : v = .slice (some a) len cap := by simpa using hv
    have hlm : len ≤ m := by rw [hm]; split <;> omega
    have each : ∀ i, i < len → ∃ p : Int, W.cell? (a.add i) = some (.int .i64 p) := fun i hi => by
      obtain ⟨h1, h2⟩ := hel i (by omega)
      obtain ⟨p, hp, _, _⟩ := DataW.trod_int Tryd.underlying3 h2
      obtain hp' : V i = .int .i64 p := by simpa using hp
      exact ⟨p, by rw [h1, hp']⟩
    obtain ⟨f, hf⟩ := choose_lt each
    have hlen : ((List.range len).map f).length = len := by simp
    refine ⟨(List.range len).map f, ?_, ?_⟩
    · rcases Nat.eq_zero_or_pos len with h0 | h0
      · subst h0
        exact ⟨0, 0, .inl ⟨.inr ⟨a, cap, rfl⟩, rfl⟩, fun i hi => absurd hi (by simp)⟩
      · have hs := spot_none (hf 0 h0)
        rw [show a.add 0 = a by unfold Addr.add; simp] at hs
        have ha : a = ⟨a.block, a.off, none⟩ := by obtain ⟨g, o, sp⟩ := a; simp only at hs; rw [hs.1]
        refine ⟨a.block, a.off, .inr ⟨cap, by rw [hlen]; exact congrArg (fun a => Value.slice (some a) len cap) ha, by rw [hlen]; exact hlc, hmx, hs.2⟩, fun i hi => ?_⟩
        rw [hlen] at hi
        have hc := hf i hi
        rw [add_at hs.1] at hc
        rw [List.getElem_map, List.getElem_range]
        exact hc
    · rw [hlen]
      have := bulk_len ((List.range len).map D)
      rw [List.length_map, List.length_range] at this
      simp only [Rows.uptoBulk]
      omega
theorem open_strs {fuel : Nat} {v : Value} {x : DataW H × List MemPlace} (h : DataW.trod enc Tryd.prog W base spare held fuel 35 [v] = some x) :
    ∃ l : List ByteArray, Strs W (fun b => b < W.heap.size) v l ∧ l.length ≤ Rows.uptoBulk x.1 ∧ ∀ s ∈ l, s.size ≤ Rows.uptoBulk x.1 := by
  rcases open_slice1 Tryd.underlying35 strCells h with ⟨hv, rfl⟩ | ⟨a, len, cap, m, n, V, D, Pl, hv, hb, hlc, hmx, hm, rfl, hel⟩
  · obtain rfl : v = .slice none 0 0 := by simpa using hv
    exact ⟨[], ⟨0, 0, .inl ⟨.inl rfl, rfl⟩, fun i hi => absurd hi (by simp)⟩, by simp, fun s hs => by cases hs⟩
  · obtain rfl : v = .slice (some a) len cap := by simpa using hv
    have hlm : len ≤ m := by rw [hm]; split <;> omega
    have each : ∀ i, i < len → ∃ p : ByteArray, W.cell? (a.add i) = some (.string p) ∧ p.size ≤ Rows.uptoBulk (D i) := fun i hi => by
      obtain ⟨h1, h2⟩ := hel i (by omega)
      obtain ⟨p, hp, hy, _⟩ := DataW.trod_string Tryd.underlying9 h2
      obtain hp' : V i = .string p := by simpa using hp
      refine ⟨p, by rw [h1, hp'], ?_⟩
      have hy' : D i = .lit (.string p.data.toList) := congrArg Prod.fst hy
      have hz := Lib.size_eq p
      rw [hy']
      simp only [Rows.uptoBulk]
      omega
    obtain ⟨f, hf⟩ := choose_lt each
    have hlen : ((List.range len).map f).length = len := by simp
    refine ⟨(List.range len).map f, ?_, ?_, ?_⟩
    · rcases Nat.eq_zero_or_pos len with h0 | h0
      · subst h0
        exact ⟨0, 0, .inl ⟨.inr ⟨a, cap, rfl⟩, rfl⟩, fun i hi => absurd hi (by simp)⟩
      · have hs := spot_none (hf 0 h0).1
        rw [show a.add 0 = a by unfold Addr.add; simp] at hs
        have ha : a = ⟨a.block, a.off, none⟩ := by obtain ⟨g, o, sp⟩ := a; simp only at hs; rw [hs.1]
        refine ⟨a.block, a.off, .inr ⟨cap, by rw [hlen]; exact congrArg (fun a => Value.slice (some a) len cap) ha, by rw [hlen]; exact hlc, hmx, hs.2⟩, fun i hi => ?_⟩
        rw [hlen] at hi
        have hc := (hf i hi).1
        rw [add_at hs.1] at hc
        rw [List.getElem_map, List.getElem_range]
        exact hc
    · rw [hlen]
      have := bulk_len ((List.range len).map D)
      rw [List.length_map, List.length_range] at this
      simp only [Rows.uptoBulk]
      omega
    · intro s hs
      obtain ⟨i, hi, rfl⟩ := List.mem_map.1 hs
      have h1 := (hf i (List.mem_range.1 hi)).2
      have := bulk_mem ((List.range len).map D) (D i) (List.mem_map_of_mem hi)
      simp only [Rows.uptoBulk]
      omega

/-- How great a node is. -/
def GN.mild (x : GN) (B : Nat) : Prop := x.args.length ≤ B ∧ x.labels.length ≤ B ∧ ∀ s ∈ x.labels, s.size ≤ B
theorem GN.mild.mono {x : GN} {B C : Nat} (h : x.mild B) (hB : B ≤ C) : x.mild C := ⟨Nat.le_trans h.1 hB, Nat.le_trans h.2.1 hB, fun s hs => Nat.le_trans (h.2.2 s hs) hB⟩
theorem one_node {n : Nat} {cs : List Value} {x : DataW H × List MemPlace} (h : DataW.trod enc Tryd.prog W base spare held n 37 cs = some x) :
    ∃ (p : GN) (va vl : Value), cs = [.int .i64 p.k, .string p.nm, va, vl, .bool p.op] ∧ Nums W (fun b => b < W.heap.size) va p.args ∧ Strs W (fun b => b < W.heap.size) vl p.labels ∧ p.mild (Rows.uptoBulk x.1) := by
  obtain ⟨n0, n1, n2, n3, n4, hst, e0, e1, e2, e3, e4, hone⟩ := nodeFields
  obtain ⟨xs, k, _, hx, hl, hxl, hf⟩ := DataW.trod_struct hst h
  rw [nodeCells] at hl
  obtain ⟨o0, k0⟩ := hone_of hone 0 n0 rfl
  obtain ⟨o1, k1⟩ := hone_of hone 1 n1 rfl
  obtain ⟨o2, k2⟩ := hone_of hone 2 n2 rfl
  obtain ⟨o3, k3⟩ := hone_of hone 3 n3 rfl
  obtain ⟨o4, k4⟩ := hone_of hone 4 n4 rfl
  obtain ⟨y0, y1, y2, y3, y4, rfl⟩ := five (l := xs) hxl
  obtain ⟨v0, v1, v2, v3, v4, rfl⟩ := five hl
  have g0 := hf 0 n0 rfl
  have g1 := hf 1 n1 rfl
  have g2 := hf 2 n2 rfl
  have g3 := hf 3 n3 rfl
  have g4 := hf 4 n4 rfl
  simp [o0, o1, o2, o3, o4, k0, k1, k2, k3, k4] at g0 g1 g2 g3 g4
  rw [e0] at g0; rw [e1] at g1; rw [e2] at g2; rw [e3] at g3; rw [e4] at g4
  obtain ⟨a, ha, _, _⟩ := DataW.trod_int Tryd.underlying3 g0
  obtain ⟨s, hs, _, _⟩ := DataW.trod_string Tryd.underlying9 g1
  obtain ⟨l2, hl2, bl2⟩ := open_ints g2
  obtain ⟨l3, hl3, bl3, bs3⟩ := open_strs g3
  obtain ⟨b, hb, _⟩ := DataW.trod_bool Tryd.underlying4 g4
  obtain rfl : v0 = .int .i64 a := by simpa using ha
  obtain rfl : v1 = .string s := by simpa using hs
  obtain rfl : v4 = .bool b := by simpa using hb
  have hx' : x.1 = .agg [y0.1, y1.1, y2.1, y3.1, y4.1] := by rw [hx]; rfl
  refine ⟨⟨a, s, l2, l3, b⟩, v2, v3, rfl, hl2, hl3, ?_, ?_, ?_⟩
  all_goals
    rw [hx']
    simp only [Rows.uptoBulk, Rows.uptoBulkAll]
  · omega
  · omega
  · intro s hs
    have := bs3 s hs
    omega

theorem open_nodes {fuel : Nat} {v : Value} {x : DataW H × List MemPlace} (h : DataW.trod enc Tryd.prog W base spare held fuel 22 [v] = some x) :
    ∃ l : List GN, GrAt W (fun b => b < W.heap.size) v l ∧ l.length ≤ Rows.uptoBulk x.1 ∧ ∀ p ∈ l, p.mild (Rows.uptoBulk x.1) := by
  rcases open_slice Tryd.underlying22 h with ⟨hv, rfl⟩ | ⟨a, len, cap, m, n, D, Pl, hv, hb, hlc, hmx, hm, rfl, hel⟩
  · obtain rfl : v = .slice none 0 0 := by simpa using hv
    exact ⟨[], ⟨0, 0, .inl ⟨.inl rfl, rfl⟩, fun i hi => absurd hi (by simp)⟩, by simp, fun s hs => by cases hs⟩
  · obtain rfl : v = .slice (some a) len cap := by simpa using hv
    have hlm : len ≤ m := by rw [hm]; split <;> omega
    have each : ∀ i, i < len → ∃ p : GN, (∃ va vl, (∀ j, j < 5 → W.cell? (a.add (i * 5 + j)) = ([.int .i64 p.k, .string p.nm, va, vl, .bool p.op] : List Value)[j]?) ∧ Nums W (fun b => b < W.heap.size) va p.args ∧ Strs W (fun b => b < W.heap.size) vl p.labels) ∧ p.mild (Rows.uptoBulk (D i)) := fun i hi => by
      obtain ⟨cs', h1, h2⟩ := hel i (by omega)
      rw [nodeCells] at h1
      obtain ⟨_, _, hcell⟩ := World.cells?_some h1
      obtain ⟨p, va, vl, rfl, hn, hs, hm⟩ := one_node h2
      refine ⟨p, ⟨va, vl, fun j hj => ?_, hn, hs⟩, hm⟩
      have := hcell j hj
      rwa [add_add] at this
    obtain ⟨f, hf⟩ := choose_lt each
    have hlen : ((List.range len).map f).length = len := by simp
    refine ⟨(List.range len).map f, ?_, ?_, ?_⟩
    · rcases Nat.eq_zero_or_pos len with h0 | h0
      · subst h0
        exact ⟨0, 0, .inl ⟨.inr ⟨a, cap, rfl⟩, rfl⟩, fun i hi => absurd hi (by simp)⟩
      · obtain ⟨va, vl, hc0, _⟩ := (hf 0 h0).1
        have hs := spot_none (hc0 0 (by omega))
        rw [show a.add (0 * 5 + 0) = a by unfold Addr.add; simp] at hs
        have ha : a = ⟨a.block, a.off, none⟩ := by obtain ⟨g, o, sp⟩ := a; simp only at hs; rw [hs.1]
        refine ⟨a.block, a.off, .inr ⟨cap, by rw [hlen]; exact congrArg (fun a => Value.slice (some a) len cap) ha, by rw [hlen]; exact hlc, hmx, hs.2⟩, fun i hi => ?_⟩
        rw [hlen] at hi
        obtain ⟨va, vl, hc, hn, hs2⟩ := (hf i hi).1
        rw [List.getElem_map, List.getElem_range]
        have g := fun j hj => (add_at hs.1 (i * 5 + j)) ▸ hc j hj
        refine ⟨va, vl, hs.2, ?_, ?_, ?_, ?_, ?_, hn, hs2⟩
        · simpa using g 0 (by omega)
        · simpa [Nat.add_assoc] using g 1 (by omega)
        · simpa [Nat.add_assoc] using g 2 (by omega)
        · simpa [Nat.add_assoc] using g 3 (by omega)
        · simpa [Nat.add_assoc] using g 4 (by omega)
    · rw [hlen]
      have := bulk_len ((List.range len).map D)
      rw [List.length_map, List.length_range] at this
      simp only [Rows.uptoBulk]
      omega
    · intro p hp
      obtain ⟨i, hi, rfl⟩ := List.mem_map.1 hp
      refine (hf i (List.mem_range.1 hi)).2.mono ?_
      have := bulk_mem ((List.range len).map D) (D i) (List.mem_map_of_mem hi)
      simp only [Rows.uptoBulk]
      omega

set_option maxRecDepth 100000 in
theorem open_graph {r : Reach} {b0 : Nat} {v : Value} {d : DataW H} {p : List MemPlace} (hv : Value.okWide Tryd.prog W r b0 24 v) (h : DataW.Trod enc Tryd.prog W base spare held 24 v d p) :
    ∃ (vg : Value) (q : Int) (l : List GN), v = .agg #[vg, .int .i64 q] ∧ GrAt W (fun b => b < W.heap.size) vg l ∧ (-9223372036854775808 ≤ q ∧ q ≤ 9223372036854775807) ∧ l.length ≤ Rows.uptoBulk d ∧ ∀ p ∈ l, p.mild (Rows.uptoBulk d) := by
  obtain ⟨n0, n1, hst, e0, e1, hone⟩ := graphFields
  obtain ⟨cs, rfl, hsz⟩ := okWide_struct hst hv
  rw [graphCells] at hsz
  obtain ⟨c0, c1, hl⟩ := two (l := cs.toList) (by simpa using hsz)
  obtain rfl : cs = #[c0, c1] := by
    apply Array.ext'
    simpa using hl
  obtain ⟨fuel, hf⟩ := h
  obtain ⟨xs, n, _, hx, _, hlen, hfs⟩ := DataW.trod_struct hst hf
  obtain ⟨y0, y1, rfl⟩ := two (l := xs) hlen
  obtain ⟨o0, k0⟩ := hone_of hone 0 n0 rfl
  obtain ⟨o1, k1⟩ := hone_of hone 1 n1 rfl
  simp only [Prod.mk.injEq] at hx
  have g0 : DataW.trod enc Tryd.prog W base spare held n n0.type [c0] = some y0 := by simpa [Value.cells, o0, k0] using hfs 0 n0 rfl
  have g1 : DataW.trod enc Tryd.prog W base spare held n n1.type [c1] = some y1 := by simpa [Value.cells, o1, k1] using hfs 1 n1 rfl
  rw [e0] at g0; rw [e1] at g1
  obtain ⟨l, hl1, hl2, hl3⟩ := open_nodes g0
  obtain ⟨q, hq, _, wq⟩ := DataW.trod_int Tryd.underlying3 g1
  obtain rfl : c1 = .int .i64 q := by simpa using hq
  have hd : d = .agg [y0.1, y1.1] := by simpa using hx.1
  have hle : Rows.uptoBulk y0.1 ≤ Rows.uptoBulk d := by
    rw [hd]
    simp only [Rows.uptoBulk, Rows.uptoBulkAll]
    omega
  exact ⟨c0, q, l, rfl, hl1, bounds_i64 wq, Nat.le_trans hl2 hle, fun p hp => (hl3 p hp).mono hle⟩
end
end Go.Proofs.YtkbmkmpoapafaaaDoor
