/- trefoillaw06.Great told. -/
import Derived.Test.YtkbmkmpoapafaaaDoorGk
namespace Go.Proofs.YtkbmkmpoapafaaaDoor
open Go.ChangeShapes Go.WideShapes Go.ChangeAt Go.RowKit

def longN (s : ByteArray) : Nat := if 1000 < s.size then 1000 else 0
def labN (l : List ByteArray) : Nat := (l.map longN).sum
def ndN (x : GN) : Nat := x.args.length + x.labels.length + longN x.nm + labN x.labels
def ndsN (l : List GN) : Nat := (l.map ndN).sum
/-- What Great answers. -/
def greatN (l : List GN) : Nat := l.length + ndsN l
theorem labN_take {l : List ByteArray} {j : Nat} (h : j < l.length) : labN (l.take (j + 1)) = labN (l.take j) + longN l[j] := by
  unfold labN
  rw [List.take_succ_eq_append_getElem h, List.map_append, List.sum_append]; simp
theorem ndsN_take {l : List GN} {j : Nat} (h : j < l.length) : ndsN (l.take (j + 1)) = ndsN (l.take j) + ndN l[j] := by
  unfold ndsN
  rw [List.take_succ_eq_append_getElem h, List.map_append, List.sum_append]; simp
theorem ndsN_le (l : List GN) (j : Nat) : ndsN (l.take j) ≤ ndsN l := by
  have h : ndsN l = ndsN (l.take j) + ndsN (l.drop j) := by
    unfold ndsN
    rw [← List.sum_append, ← List.map_append, List.take_append_drop]
  omega
theorem labN_le (l : List ByteArray) (j : Nat) : labN (l.take j) ≤ labN l := by
  have h : labN l = labN (l.take j) + labN (l.drop j) := by
    unfold labN
    rw [← List.sum_append, ← List.map_append, List.take_append_drop]
  omega
theorem ndN_le {l : List GN} {x : GN} (h : x ∈ l) : ndN x ≤ ndsN l := by
  obtain ⟨a, b, rfl⟩ := List.append_of_mem h
  unfold ndsN
  rw [List.map_append, List.sum_append, List.map_cons, List.sum_cons]; omega

set_option maxRecDepth 100000 in
theorem great_any (S : Nat → Prop) (v : Value) (r : Int) (l : List GN) (w : World) (h : GrAt w S v l) (hS : ∀ b, S b → b < w.heap.size) (hb : greatN l ≤ 4611686018427387904) :
    Calls Tryd.prog 20 #[.agg #[v, .int .i64 r]] w fun e w' => e = .returned (.int .i64 (greatN l : Int)) ∧ Below w.heap.size w w' := by
  obtain ⟨x, c, g, o, rfl, hx, hns⟩ := h.open_
  obtain ⟨n, hn⟩ : ∃ n, l.length = n := ⟨_, rfl⟩
  have H := Lib.hid (And.intro hn (And.intro hx (And.intro hns (And.intro hS hb))))
  have hnb : n ≤ 4611686018427387904 := by unfold greatN at hb; omega
  rw [hn]
  clear h hx hns hn hS hb
  go_enter Tryd.func20, Tryd.ntmps20
  go_wp2_with fail
  go_loopg [3, 14] n (fun gk s i wr => ∃ j D : Nat, gk = n - j ∧ i = .int .i64 (j : Int) ∧ j ≤ n ∧ s = .int .i64 ((n : Int) + (D : Int)) ∧ D = ndsN (l.take j) ∧ Below w.heap.size w wr)
  case atStart => exact ⟨0, 0, rfl, rfl, Nat.zero_le _, by simp, by simp [ndsN], (Below.refl _ _).alloc (Nat.le_refl _) _⟩
  case round =>
    obtain ⟨j, D, rfl, rfl, hj, rfl, hD, hB⟩ := hrel
    have sr := hB.size
    by_cases hlt : j < n
    · have hi' : (j : Int) < (n : Int) := by omega
      have hjl : j < l.length := by rw [H.out.1]; exact hlt
      obtain ⟨rfl, hc1, hc2, hSg⟩ := H.out.2.1 (by have := H.out.1; omega)
      obtain ⟨va, vl, hgn⟩ := H.out.2.2.1 j hjl
      have hgw := hgn.carry (keeps_of hB H.out.2.2.2.1) fun _ h => h
      obtain ⟨ga, oa, hsa, -⟩ := hgn.ha
      obtain ⟨gl, ol, hsl, hlc⟩ := hgn.hl
      obtain ⟨xa, ca, rfl, -⟩ := hsa.shape
      obtain ⟨xl, cl, rfl, hxl⟩ := hsl.shape
      obtain ⟨na, hna⟩ : ∃ na, l[j].args.length = na := ⟨_, rfl⟩
      obtain ⟨nl, hnl⟩ : ∃ nl, l[j].labels.length = nl := ⟨_, rfl⟩
      obtain ⟨nm, hnm⟩ : ∃ nm, l[j].nm = nm := ⟨_, rfl⟩
      have hst := ndsN_take hjl
      have hle := ndsN_le l (j + 1)
      have htot := H.out.2.2.2.2
      have hnd : ndN l[j] = na + nl + longN nm + labN l[j].labels := by unfold ndN; rw [hna, hnl, hnm]
      unfold greatN at htot
      have hen := H.out.1
      have e0 := hgw.c0
      have e1 := hgw.c1
      have e2 := hgw.c2
      have e3 := hgw.c3
      have e4 := hgw.c4
      rw [hnm] at e1
      rw [hna] at e2
      rw [hnl] at e3
      have hgg : g < wr.heap.size := by have := H.out.2.2.2.1 g hSg; omega
      obtain ⟨lb, hlb⟩ : ∃ lb, labN l[j].labels = lb := ⟨_, rfl⟩
      obtain ⟨ln, hln⟩ : ∃ ln, longN nm = ln := ⟨_, rfl⟩
      have hbd : n + D + na + nl + ln + lb ≤ 4611686018427387904 := by omega
      rw [hen] at hc1
      unfold maxLen at hc2
      have HJ := Lib.hid (And.intro hB (And.intro hD (And.intro hst (And.intro hnd (And.intro hnl (And.intro hxl (And.intro hlc (And.intro hlb hln))))))))
      clear hB hD hst hnd hnl hna hnm hxl hlc hlb hgw hgn hsa hsl hle htot hen
      have hlv : (1000 < (nm.size : Int) ∧ ln = 1000) ∨ (¬ 1000 < (nm.size : Int) ∧ ln = 0) := by
        unfold longN at hln
        split at hln
        · exact .inl ⟨by omega, hln.symm⟩
        · exact .inr ⟨by omega, hln.symm⟩
      clear hln
      rcases hlv with ⟨hz, hln⟩ | ⟨hz, hln⟩
      all_goals
        go_wp2_with fail
        obtain ⟨wo, rfl⟩ : ∃ wo, wo = wr := ⟨_, rfl⟩
        go_loopg [3, 36] nl (fun gk s i wr => ∃ m E : Nat, gk = nl - m ∧ i = .int .i64 (m : Int) ∧ m ≤ nl ∧ s = .int .i64 ((n : Int) + (D : Int) + ((na : Int) + (nl : Int)) + (ln : Int) + (E : Int)) ∧ E = labN (l[j].labels.take m) ∧ Below w.heap.size w wr)
        case atStart => exact ⟨0, 0, rfl, rfl, Nat.zero_le _, congrArg (Value.int .i64) (by omega), by simp [labN], HJ.out.1.alloc sr _⟩
        case round =>
          obtain ⟨m, E, rfl, rfl, hm, rfl, hE, hBw⟩ := hrel
          have sw := hBw.size
          have hlbm := labN_le l[j].labels m
          rw [HJ.out.2.2.2.2.2.2.2.1, ← hE] at hlbm
          by_cases hlt2 : m < nl
          · have hi2 : (m : Int) < (nl : Int) := by omega
            have hnl := HJ.out.2.2.2.2.1
            obtain ⟨rfl, hl1, hl2, hSl⟩ := HJ.out.2.2.2.2.2.1 (by omega)
            have hml : m < l[j].labels.length := by omega
            have hgl := H.out.2.2.2.1 gl hSl
            have e5 := (World.cell?_of_block (a := ⟨gl, ol + m, none⟩) (hBw.block gl hgl)).trans (HJ.out.2.2.2.2.2.2.1 m hml)
            have hst2 := labN_take hml
            have hlb2 := labN_le l[j].labels (m + 1)
            rw [HJ.out.2.2.2.2.2.2.2.1] at hlb2
            obtain ⟨sm, hsm⟩ : ∃ sm, l[j].labels[m] = sm := ⟨_, rfl⟩
            rw [hsm] at e5 hst2
            have hglw : gl < wr.heap.size := by omega
            rw [hnl] at hl1
            unfold maxLen at hl2
            obtain ⟨lm, hlm⟩ : ∃ lm, longN sm = lm := ⟨_, rfl⟩
            rw [hlm, ← hE] at hst2
            have hlv2 : (1000 < (sm.size : Int) ∧ lm = 1000) ∨ (¬ 1000 < (sm.size : Int) ∧ lm = 0) := by
              unfold longN at hlm
              split at hlm
              · exact .inl ⟨by omega, hlm.symm⟩
              · exact .inr ⟨by omega, hlm.symm⟩
            have hbd2 : E + lm ≤ lb := by omega
            have HS := Lib.hid (And.intro hst2 (And.intro hBw hE))
            clear hst2 hBw hE hlm hsm hlb2 hnl hlbm
            rcases hlv2 with ⟨hy, hlm⟩ | ⟨hy, hlm⟩
            all_goals
              go_wp2_with fail
              go_roundg (nl - (m + 1))
              case measure => omega
              case rel => exact ⟨m + 1, E + lm, rfl, by first | rfl | simp, hlt2, congrArg (Value.int .i64) (by omega), HS.out.1.symm, HS.out.2.1⟩
          · have hi2 : ¬ (m : Int) < (nl : Int) := by omega
            obtain rfl : m = nl := by omega
            have HS := Lib.hid (And.intro hBw hE)
            clear hBw hE
            go_wp2_with fail
            go_roundg (n - (j + 1))
            case measure => omega
            case rel =>
              obtain ⟨-, hD, hst, hnd, hnl, -, -, hlb, hlnm⟩ := HJ.out
              have hall : l[j].labels.take m = l[j].labels := List.take_of_length_le (by omega)
              have h2 := HS.out.2
              rw [hall, hlb] at h2
              exact ⟨j + 1, D + (m + na) + ln + E, rfl, by first | rfl | simp, hlt, congrArg (Value.int .i64) (by omega), by omega, HS.out.1⟩
    · have hi' : ¬ (j : Int) < (n : Int) := by omega
      obtain rfl : j = n := by omega
      have HJ := Lib.hid (And.intro hB hD)
      clear hB hD
      go_wp2_with fail
      go_ret
      have hall : l.take j = l := List.take_of_length_le (by have := H.out.1; omega)
      have h2 := HJ.out.2
      rw [hall] at h2
      refine ⟨?_, HJ.out.1⟩
      unfold greatN
      rw [H.out.1, h2]; simp
end Go.Proofs.YtkbmkmpoapafaaaDoor
