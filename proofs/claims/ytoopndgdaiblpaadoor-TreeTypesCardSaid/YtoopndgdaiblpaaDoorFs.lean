/- tree.fits at an expression that lies there. -/
import Derived.Test.YtoopndgdaiblpaaDoorFe
import Derived.Test.YtoopndgdaiblpaaDoorFt
import Derived.Test.YtoopndgdaiblpaaDoorSh
import Derived.Test.YtoopndgdaiblpaaDoorVal
namespace Go.Proofs.YtoopndgdaiblpaaDoor
open Go.ChangeShapes Go.WideShapes Go.ChangeAt Go.RowKit

def plainB (ss mo aa tt : Int) (s : ByteArray) (n : Int) (names : List ByteArray) (types : List Ty) (args mems : List Nd) : Bool :=
  fitP (textB ss s) n mo tt types.length && decide (mems.length = 0) && decide ((args.length : Int) = aa) && decide (names.length = 0)
def headKind : List Nd → Int
  | .ex k _ _ _ _ _ _ :: _ => k
  | _ => 0
/-- Whether an expression has what its kind has, its parts aside. -/
def fitB : Nd → Bool
  | .ex k s n names types args mems =>
    if k = 1 then plainB 1 0 0 0 s n names types args mems
    else if k = 2 then plainB 0 9223372036854775807 0 0 s n names types args mems
    else if k = 3 then plainB 0 1 0 0 s n names types args mems
    else if k = 4 then plainB 4 0 0 0 s n names types args mems
    else if k = 5 then plainB 0 0 0 0 s n names types args mems
    else if k = 6 then plainB 1 0 1 0 s n names types args mems
    else if k = 7 then plainB 0 0 2 0 s n names types args mems
    else if k = 8 then plainB 1 0 2 0 s n names types args mems
    else if k = 9 then fitP (textB 1 s) n 0 0 types.length && decide (mems.length = 0) && decide ((args.length : Int) = 2) && decide (headKind args = 6) && decide (names.length = 0)
    else if k = 10 then plainB 0 0 2 0 s n names types args mems
    else if k = 11 then plainB 0 0 3 0 s n names types args mems
    else if k = 12 then plainB 3 0 2 0 s n names types args mems
    else if k = 13 then plainB 0 0 2 0 s n names types args mems
    else if k = 14 then fitP (textB 2 s) n 0 0 types.length && decide ((args.length : Int) = 0) && decide (names.length = 0)
    else if k = 15 then plainB 1 0 1 0 s n names types args mems
    else if k = 16 then plainB 1 0 1 0 s n names types args mems
    else if k = 17 then fitP (textB 1 s) n 0 0 types.length && decide (mems.length = 0) && decide (names.length = 0)
    else if k = 18 then fitP (textB 0 s) n 0 0 types.length && decide (mems.length = 0) && (decide (names.length = args.length) && names.all nameB)
    else if k = 19 then plainB 0 0 1 1 s n names types args mems
    else if k = 20 then plainB 0 0 1 2 s n names types args mems
    else false
  | .me .. => false

/-- An expression that lies at a place, as a value. -/
theorem NdAt.openE0 {W : World} {S : Nat → Prop} {b o : Nat} {t : Nd} (h : NdAt W S b o t) (hx : isEx t = true) : ∃ (k : Int) (s : ByteArray) (n : Int) (xa xn xt xm : Option Addr) (na ca nn cn nt ct nm cm : Nat), S b ∧ W.cell? ⟨b, o, none⟩ = some (.int .i64 k) ∧ W.cell? ⟨b, o + 1, none⟩ = some (.string s) ∧ W.cell? ⟨b, o + 2, none⟩ = some (.int .i64 n) ∧ W.cell? ⟨b, o + 3, none⟩ = some (.slice xa na ca) ∧ W.cell? ⟨b, o + 4, none⟩ = some (.slice xn nn cn) ∧ W.cell? ⟨b, o + 5, none⟩ = some (.slice xt nt ct) ∧ W.cell? ⟨b, o + 6, none⟩ = some (.slice xm nm cm) ∧
    ExV W S [.int .i64 k, .string s, .int .i64 n, .slice xa na ca, .slice xn nn cn, .slice xt nt ct, .slice xm nm cm] t := by
  obtain ⟨hb, h0, h1, h2, h3, h4, h5, h6, ha, hnn, htt, hm, hs, hns, hts, hms, hax, hmx⟩ | _ := h
  rotate_left
  · cases hx
  obtain ⟨x3, c3, rfl, _⟩ := ha.shape
  obtain ⟨x4, c4, rfl, _⟩ := hnn.shape
  obtain ⟨x5, c5, rfl, _⟩ := htt.shape
  obtain ⟨x6, c6, rfl, _⟩ := hm.shape
  exact ⟨_, _, _, _, _, _, _, _, _, _, _, _, _, _, _, hb, h0, h1, h2, h3, h4, h5, h6, _, _, _, _, _, _, _, _, _, _, _, _, _, _, _, _, _, _, _, rfl, rfl, ha, hnn, htt, hm, hs, hns, hts, hms, hax, hmx⟩

theorem fp_rec0 (b o : Nat) (d k n ss mo aa tt : Int) (s : ByteArray) (x3 x4 x5 x6 : Option Addr) (na nn nt nm e3 e4 e5 e6 : Nat) (w : World) (hb : b < w.heap.size) (h0 : w.cell? ⟨b, o, none⟩ = some (.int .i64 k)) (h1 : w.cell? ⟨b, o + 1, none⟩ = some (.string s)) (h2 : w.cell? ⟨b, o + 2, none⟩ = some (.int .i64 n)) (h3 : w.cell? ⟨b, o + 3, none⟩ = some (.slice x3 na e3)) (h4 : w.cell? ⟨b, o + 4, none⟩ = some (.slice x4 nn e4)) (h5 : w.cell? ⟨b, o + 5, none⟩ = some (.slice x5 nt e5)) (h6 : w.cell? ⟨b, o + 6, none⟩ = some (.slice x6 nm e6)) (haa : aa ≠ -1) (hna : (na : Int) ≠ aa)
    (CSh : Hid (∀ V, Below w.heap.size w V → Calls Tryd.prog 43 #[.int .i64 k] V fun e w' => e = .returned (.tuple #[.agg #[.int .i64 ss, .int .i64 mo, .int .i64 aa, .int .i64 tt, .bool true, .bool false, .bool false], .bool true]) ∧ Below V.heap.size V w')) (tb : Bool)
    (CTx : Hid (∀ V, Below w.heap.size w V → Calls Tryd.prog 44 #[.int .i64 ss, .string s] V fun e w' => e = .returned (.bool tb) ∧ ∃ q, w' = V.drewN q)) :
    Calls Tryd.prog 32 #[.agg #[.pointer (some ⟨b, o, none⟩), .pointer none, .int .i64 d]] w (fitGives false (.slice x5 nt e5) w) := by
  cases tb with
  | false => exact (fx_1 b o d k n ss mo aa tt true false false s x3 x4 x5 x6 na nn nt nm e3 e4 e5 e6 w hb h0 h1 h2 h3 h4 h5 h6 CSh CTx).mono fun _ _ h => ⟨_, h.1, (fun h => by cases h), h.2⟩
  | true =>
    by_cases c2 : n < 0
    · exact (fx_2 b o d k n ss mo aa tt true false false s x3 x4 x5 x6 na nn nt nm e3 e4 e5 e6 w hb h0 h1 h2 h3 h4 h5 h6 (decide_eq_true c2) CSh CTx).mono fun _ _ h => ⟨_, h.1, (fun h => by cases h), h.2⟩
    by_cases c3 : mo < n
    · exact (fx_3 b o d k n ss mo aa tt true false false s x3 x4 x5 x6 na nn nt nm e3 e4 e5 e6 w hb h0 h1 h2 h3 h4 h5 h6 (decide_eq_false c2) (decide_eq_true c3) CSh CTx).mono fun _ _ h => ⟨_, h.1, (fun h => by cases h), h.2⟩
    by_cases c4 : nm = 0
    rotate_left
    · exact (fx_4 b o d k n ss mo aa tt true false s x3 x4 x5 x6 na nn nt nm e3 e4 e5 e6 w hb h0 h1 h2 h3 h4 h5 h6 (decide_eq_false c2) (decide_eq_false c3) (by omega) CSh CTx).mono fun _ _ h => ⟨_, h.1, (fun h => by cases h), h.2⟩
    subst c4
    exact (fx_5 b o d k n ss mo aa tt true false s x3 x4 x5 x6 na nn nt e3 e4 e5 e6 w hb h0 h1 h2 h3 h4 h5 h6 (decide_eq_false c2) (decide_eq_false c3) (by simpa using haa) (by simpa using hna) CSh CTx).mono fun _ _ h => ⟨_, h.1, (fun h => by cases h), h.2⟩

theorem text_any (k : Int) (s : ByteArray) (T : TypeId) (v : Value) (w : World) (hk : k = 0 ∨ k = 1 ∨ k = 2 ∨ k = 3 ∨ k = 4) (hg : w.cell? ⟨0, 0, none⟩ = some (.iface T v)) (hs : s.size ≤ maxLen) :
    Calls Tryd.prog 44 #[.int .i64 k, .string s] w fun e w' => e = .returned (.bool (textB k s)) ∧ ∃ q, w' = w.drewN q := by
  rcases hk with rfl | rfl | rfl | rfl | rfl
  · exact ft_0 s w
  · exact text_1 s T v w hg hs
  · exact ft_2 s T v w hg hs
  · exact ft_3 s w
  · exact ft_4 s w

set_option maxHeartbeats 2000000 in
theorem fits_ex (S : Nat → Prop) (b o : Nat) (d : Int) (T : TypeId) (v : Value) (w : World) (k : Int) (s : ByteArray) (n : Int) (names : List ByteArray) (types : List Ty) (args mems : List Nd) (hg : w.cell? ⟨0, 0, none⟩ = some (.iface T v)) (hgl : 0 < w.heap.size) (hS : ∀ b, S b → b < w.heap.size) (ht : NdAt w S b o (.ex k s n names types args mems)) (hk0 : 0 ≤ k) (hk1 : k ≤ 20) (hs : s.size ≤ maxLen) (hns : ∀ x ∈ names, x.size ≤ maxLen) :
    ∃ ty, w.cell? ⟨b, o + 5, none⟩ = some ty ∧ Calls Tryd.prog 32 #[.agg #[.pointer (some ⟨b, o, none⟩), .pointer none, .int .i64 d]] w (fitGives (fitB (.ex k s n names types args mems)) ty w) := by
  obtain ⟨hb, h0, h1, h2, h3, h4, h5, h6, ha, hn, htt, hm, hss, hnn, hts, hms, hax, hmx⟩ := ht
  rename_i va vn vt vm ga oa gn on gt ot gm om
  have CAn : Hid (∀ V, Below w.heap.size w V → Calls Tryd.prog 45 #[vn] V fun e w' => e = .returned (.bool (names.all nameB)) ∧ ∃ q, w' = V.drewN q) := Lib.hid fun V hV =>
    allNames_any T v S names vn gn on V ((hV.cell (p := ⟨_, 0, none⟩) hgl).trans hg) hn (fun i h => (hV.cell (p := ⟨gn, _, none⟩) (hS _ (hn.lt (by omega)))).trans (hnn i h)) hns
  have CTx : ∀ ss : Int, (ss = 0 ∨ ss = 1 ∨ ss = 2 ∨ ss = 3 ∨ ss = 4) → Hid (∀ V, Below w.heap.size w V → Calls Tryd.prog 44 #[.int .i64 ss, .string s] V fun e w' => e = .returned (.bool (textB ss s)) ∧ ∃ q, w' = V.drewN q) := fun ss hss => Lib.hid fun V hV =>
    text_any ss s T v V hss ((hV.cell (p := ⟨_, 0, none⟩) hgl).trans hg) hs
  have hbw := hS _ hb
  obtain ⟨x3, c3, rfl, hsh⟩ := ha.shape
  obtain ⟨x4, c4, rfl, _⟩ := hn.shape
  obtain ⟨x5, c5, rfl, _⟩ := htt.shape
  obtain ⟨x6, c6, rfl, _⟩ := hm.shape
  refine ⟨_, h5, ?_⟩
  have hks : k = 0 ∨ k = 1 ∨ k = 2 ∨ k = 3 ∨ k = 4 ∨ k = 5 ∨ k = 6 ∨ k = 7 ∨ k = 8 ∨ k = 9 ∨ k = 10 ∨ k = 11 ∨ k = 12 ∨ k = 13 ∨ k = 14 ∨ k = 15 ∨ k = 16 ∨ k = 17 ∨ k = 18 ∨ k = 19 ∨ k = 20 := by omega
  rcases hks with rfl | rfl | rfl | rfl | rfl | rfl | rfl | rfl | rfl | rfl | rfl | rfl | rfl | rfl | rfl | rfl | rfl | rfl | rfl | rfl | rfl
  · have e : fitB (.ex 0 s n names types args mems) = false := by simp [fitB]
    rw [e]
    exact (fx_0 b o d 0 n 0 0 0 0 false false false s x3 x4 x5 x6 _ _ _ _ c3 c4 c5 c6 w hbw h0 h1 h2 h3 h4 h5 h6 (Lib.hid fun V _ => shapeK_0 V)).mono fun _ _ h => ⟨_, h.1, (fun h => by cases h), h.2⟩
  · have e : fitB (.ex 1 s n names types args mems) = (plainB 1 0 0 0 s n names types args mems) := rfl
    rw [e]
    unfold plainB
    exact fp_plain b o d 1 n 1 0 0 0 s x3 x4 x5 x6 _ _ _ _ c3 c4 c5 c6 w hbw h0 h1 h2 h3 h4 h5 h6 (by decide) (Lib.hid fun V _ => shapeK_1 V) _ (CTx 1 (by omega))
  · have e : fitB (.ex 2 s n names types args mems) = (plainB 0 9223372036854775807 0 0 s n names types args mems) := rfl
    rw [e]
    unfold plainB
    exact fp_plain b o d 2 n 0 9223372036854775807 0 0 s x3 x4 x5 x6 _ _ _ _ c3 c4 c5 c6 w hbw h0 h1 h2 h3 h4 h5 h6 (by decide) (Lib.hid fun V _ => shapeK_2 V) _ (CTx 0 (by omega))
  · have e : fitB (.ex 3 s n names types args mems) = (plainB 0 1 0 0 s n names types args mems) := rfl
    rw [e]
    unfold plainB
    exact fp_plain b o d 3 n 0 1 0 0 s x3 x4 x5 x6 _ _ _ _ c3 c4 c5 c6 w hbw h0 h1 h2 h3 h4 h5 h6 (by decide) (Lib.hid fun V _ => shapeK_3 V) _ (CTx 0 (by omega))
  · have e : fitB (.ex 4 s n names types args mems) = (plainB 4 0 0 0 s n names types args mems) := rfl
    rw [e]
    unfold plainB
    exact fp_plain b o d 4 n 4 0 0 0 s x3 x4 x5 x6 _ _ _ _ c3 c4 c5 c6 w hbw h0 h1 h2 h3 h4 h5 h6 (by decide) (Lib.hid fun V _ => shapeK_4 V) _ (CTx 4 (by omega))
  · have e : fitB (.ex 5 s n names types args mems) = (plainB 0 0 0 0 s n names types args mems) := rfl
    rw [e]
    unfold plainB
    exact fp_plain b o d 5 n 0 0 0 0 s x3 x4 x5 x6 _ _ _ _ c3 c4 c5 c6 w hbw h0 h1 h2 h3 h4 h5 h6 (by decide) (Lib.hid fun V _ => shapeK_5 V) _ (CTx 0 (by omega))
  · have e : fitB (.ex 6 s n names types args mems) = (plainB 1 0 1 0 s n names types args mems) := rfl
    rw [e]
    unfold plainB
    exact fp_plain b o d 6 n 1 0 1 0 s x3 x4 x5 x6 _ _ _ _ c3 c4 c5 c6 w hbw h0 h1 h2 h3 h4 h5 h6 (by decide) (Lib.hid fun V _ => shapeK_6 V) _ (CTx 1 (by omega))
  · have e : fitB (.ex 7 s n names types args mems) = (plainB 0 0 2 0 s n names types args mems) := rfl
    rw [e]
    unfold plainB
    exact fp_plain b o d 7 n 0 0 2 0 s x3 x4 x5 x6 _ _ _ _ c3 c4 c5 c6 w hbw h0 h1 h2 h3 h4 h5 h6 (by decide) (Lib.hid fun V _ => shapeK_7 V) _ (CTx 0 (by omega))
  · have e : fitB (.ex 8 s n names types args mems) = (plainB 1 0 2 0 s n names types args mems) := rfl
    rw [e]
    unfold plainB
    exact fp_plain b o d 8 n 1 0 2 0 s x3 x4 x5 x6 _ _ _ _ c3 c4 c5 c6 w hbw h0 h1 h2 h3 h4 h5 h6 (by decide) (Lib.hid fun V _ => shapeK_8 V) _ (CTx 1 (by omega))
  · have e : fitB (.ex 9 s n names types args mems) = (fitP (textB 1 s) n 0 0 types.length && decide (mems.length = 0) && decide ((args.length : Int) = 2) && decide (headKind args = 6) && decide (names.length = 0)) := rfl
    rw [e]
    cases args with
    | nil =>
      rw [show (fitP (textB 1 s) n 0 0 types.length && decide (mems.length = 0) && decide ((([] : List Nd).length : Int) = 2) && decide (headKind [] = 6) && decide (names.length = 0)) = false from by simp]
      exact fp_rec0 b o d 9 n 1 0 2 0 s x3 x4 x5 x6 _ _ _ _ c3 c4 c5 c6 w hbw h0 h1 h2 h3 h4 h5 h6 (by decide) (by simp) (Lib.hid fun V _ => shapeK_9 V) _ (CTx 1 (by omega))
    | cons a0 r =>
      obtain ⟨rfl, _, _, hga⟩ := hsh (by simp)
      have hx0 := hax a0 (by simp)
      have hd0 := hss 0 (by simp)
      rw [Nat.zero_mul, Nat.add_zero] at hd0
      simp only [List.getElem_cons_zero] at hd0
      obtain ⟨k0, s0, n0, xa, xn, xt, xm, _, _, _, _, _, _, _, _, _, hc0, _, _, _, _, _, _, hv0⟩ := hd0.openE0 hx0
      have hh : headKind (a0 :: r) = k0 := by
        obtain ⟨_, _, _, _, _, _, _, _, _, _, _, _, _, _, _, _, _, _, _, e1, rfl, _⟩ := hv0
        simp only [List.cons.injEq, Value.int.injEq, true_and, and_true] at e1
        exact e1.1.symm
      rw [hh]
      exact fp_rec b o ga oa d 9 n 1 0 2 0 s x4 x5 x6 _ _ _ _ c3 c4 c5 c6 w hbw h0 h1 h2 h3 h4 h5 h6 k0 (fun _ => by simp) (hS _ hga) hc0 (by decide) (Lib.hid fun V _ => shapeK_9 V) _ (CTx 1 (by omega))
  · have e : fitB (.ex 10 s n names types args mems) = (plainB 0 0 2 0 s n names types args mems) := rfl
    rw [e]
    unfold plainB
    exact fp_plain b o d 10 n 0 0 2 0 s x3 x4 x5 x6 _ _ _ _ c3 c4 c5 c6 w hbw h0 h1 h2 h3 h4 h5 h6 (by decide) (Lib.hid fun V _ => shapeK_10 V) _ (CTx 0 (by omega))
  · have e : fitB (.ex 11 s n names types args mems) = (plainB 0 0 3 0 s n names types args mems) := rfl
    rw [e]
    unfold plainB
    exact fp_plain b o d 11 n 0 0 3 0 s x3 x4 x5 x6 _ _ _ _ c3 c4 c5 c6 w hbw h0 h1 h2 h3 h4 h5 h6 (by decide) (Lib.hid fun V _ => shapeK_11 V) _ (CTx 0 (by omega))
  · have e : fitB (.ex 12 s n names types args mems) = (plainB 3 0 2 0 s n names types args mems) := rfl
    rw [e]
    unfold plainB
    exact fp_plain b o d 12 n 3 0 2 0 s x3 x4 x5 x6 _ _ _ _ c3 c4 c5 c6 w hbw h0 h1 h2 h3 h4 h5 h6 (by decide) (Lib.hid fun V _ => shapeK_12 V) _ (CTx 3 (by omega))
  · have e : fitB (.ex 13 s n names types args mems) = (plainB 0 0 2 0 s n names types args mems) := rfl
    rw [e]
    unfold plainB
    exact fp_plain b o d 13 n 0 0 2 0 s x3 x4 x5 x6 _ _ _ _ c3 c4 c5 c6 w hbw h0 h1 h2 h3 h4 h5 h6 (by decide) (Lib.hid fun V _ => shapeK_13 V) _ (CTx 0 (by omega))
  · have e : fitB (.ex 14 s n names types args mems) = (fitP (textB 2 s) n 0 0 types.length && decide ((args.length : Int) = 0) && decide (names.length = 0)) := rfl
    rw [e]
    exact fp_mem b o d 14 n 2 0 0 0 s x3 x4 x5 x6 _ _ _ _ c3 c4 c5 c6 w hbw h0 h1 h2 h3 h4 h5 h6 (by decide) (Lib.hid fun V _ => shapeK_14 V) _ (CTx 2 (by omega))
  · have e : fitB (.ex 15 s n names types args mems) = (plainB 1 0 1 0 s n names types args mems) := rfl
    rw [e]
    unfold plainB
    exact fp_plain b o d 15 n 1 0 1 0 s x3 x4 x5 x6 _ _ _ _ c3 c4 c5 c6 w hbw h0 h1 h2 h3 h4 h5 h6 (by decide) (Lib.hid fun V _ => shapeK_15 V) _ (CTx 1 (by omega))
  · have e : fitB (.ex 16 s n names types args mems) = (plainB 1 0 1 0 s n names types args mems) := rfl
    rw [e]
    unfold plainB
    exact fp_plain b o d 16 n 1 0 1 0 s x3 x4 x5 x6 _ _ _ _ c3 c4 c5 c6 w hbw h0 h1 h2 h3 h4 h5 h6 (by decide) (Lib.hid fun V _ => shapeK_16 V) _ (CTx 1 (by omega))
  · have e : fitB (.ex 17 s n names types args mems) = (fitP (textB 1 s) n 0 0 types.length && decide (mems.length = 0) && decide (names.length = 0)) := rfl
    rw [e]
    exact fp_new b o d 17 n 1 0 0 s x3 x4 x5 x6 _ _ _ _ c3 c4 c5 c6 w hbw h0 h1 h2 h3 h4 h5 h6 (Lib.hid fun V _ => shapeK_17 V) _ (CTx 1 (by omega))
  · have e : fitB (.ex 18 s n names types args mems) = (fitP (textB 0 s) n 0 0 types.length && decide (mems.length = 0) && (decide (names.length = args.length) && names.all nameB)) := rfl
    rw [e]
    exact fp_clone b o d 18 n 0 0 0 s x3 x4 x5 x6 _ _ _ _ c3 c4 c5 c6 w hbw h0 h1 h2 h3 h4 h5 h6 (Lib.hid fun V _ => shapeK_18 V) _ (CTx 0 (by omega)) _ CAn
  · have e : fitB (.ex 19 s n names types args mems) = (plainB 0 0 1 1 s n names types args mems) := rfl
    rw [e]
    unfold plainB
    exact fp_plain b o d 19 n 0 0 1 1 s x3 x4 x5 x6 _ _ _ _ c3 c4 c5 c6 w hbw h0 h1 h2 h3 h4 h5 h6 (by decide) (Lib.hid fun V _ => shapeK_19 V) _ (CTx 0 (by omega))
  · have e : fitB (.ex 20 s n names types args mems) = (plainB 0 0 1 2 s n names types args mems) := rfl
    rw [e]
    unfold plainB
    exact fp_plain b o d 20 n 0 0 1 2 s x3 x4 x5 x6 _ _ _ _ c3 c4 c5 c6 w hbw h0 h1 h2 h3 h4 h5 h6 (by decide) (Lib.hid fun V _ => shapeK_20 V) _ (CTx 0 (by omega))
end Go.Proofs.YtoopndgdaiblpaaDoor
