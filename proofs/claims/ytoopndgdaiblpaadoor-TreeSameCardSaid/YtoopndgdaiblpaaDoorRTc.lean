/- trefoilref02.CheckType, told at the types that there are here. -/
import Derived.Test.YtoopndgdaiblpaaDoorTyC
import Derived.Deep.RegionHeld3
namespace Go.Proofs.YtoopndgdaiblpaaDoor
open Go.ChangeShapes Go.WideShapes Go.ChangeAt Go.RowKit

/-- deepType at types as values, no greater than so. -/
def RefDeep (f : Nat) : Prop := ∀ (S : Nat → Prop) (k : Int) (s : ByteArray) (va vl : Value) (op : Bool) (w : World) (t : Ty), tySize t ≤ f → f ≤ 900000 → (∀ b, S b → b < w.heap.size) →
    TyV w S [.int .i64 k, .string s, va, vl, .bool op] t →
    Calls Tryd.prog 30 #[.agg #[.int .i64 k, .string s, va, vl, .bool op]] w fun e w' => e = .returned (.int .i64 (tyDeep t)) ∧ Below w.heap.size w w'

theorem tyDeep_size : ∀ (f : Nat) (t : Ty), tySize t ≤ f → tyDeep t ≤ tySize t
  | 0, t, h => by have := tySize_pos t; omega
  | f + 1, .mk k s args labels op, h => by
    rw [tySize_mk] at h ⊢
    rw [tyDeep_mk]
    have : ¬ tySum args < (args.map tyDeep).foldl max 0 := fun hlt => by
      obtain ⟨x, hx, h2⟩ := (max_lt_iff _ _).1 hlt
      obtain ⟨t, ht, rfl⟩ := List.mem_map.1 hx
      obtain ⟨i, hi, rfl⟩ := List.getElem_of_mem ht
      have h3 := tySum_at hi
      have h4 := tyDeep_size f args[i] (by omega)
      omega
    omega

theorem foldl_take {l : List Nat} {j : Nat} (h : j < l.length) : (l.take (j + 1)).foldl max 0 = max ((l.take j).foldl max 0) l[j] := by
  rw [List.take_succ_eq_append_getElem h, List.foldl_append]; rfl

set_option maxHeartbeats 4000000 in
set_option maxRecDepth 100000 in
theorem refDeep : ∀ f, RefDeep f
  | 0 => fun _ _ _ _ _ _ _ t h => by have := tySize_pos t; omega
  | f + 1 => fun S k s va vl op w t hsz hf hS ht => by
    have ih := refDeep f
    have hds := tyDeep_size (f + 1) t hsz
    obtain ⟨_, _, _, _, _, ags, lbs, ga, oa, gl, ol, e1, rfl, ha, hl, hs, hls⟩ := ht
    simp only [List.cons.injEq, Value.int.injEq, Value.string.injEq, Value.bool.injEq, true_and, and_true] at e1
    obtain ⟨rfl, rfl, rfl, rfl, rfl⟩ := e1
    obtain ⟨x3, c3, rfl, hsh⟩ := ha.shape
    obtain ⟨na, hna⟩ : ∃ n, ags.length = n := ⟨_, rfl⟩
    have hds2 : ∀ x ∈ ags, tyDeep x ≤ 900000 := fun x hx => by have := tyDeep_arg (k := k) (s := s) (labels := lbs) (op := op) hx; omega
    have hsz2 := hsz
    rw [tySize_mk] at hsz2
    have HA := Lib.hid (And.intro hna (And.intro hsh (And.intro hs (And.intro hsz2 (And.intro hS (And.intro ih hds2))))))
    have HD := Lib.hid (tyDeep_mk k s ags lbs op)
    have hna5 : na ≤ 900000 := by have := tySum_len ags; omega
    rw [hna]
    clear ha hl hs hls hsh hna hsz hsz2 hds ih hS hds2
    go_enter Tryd.func30, Tryd.ntmps30
    go_wp2_with fail
    obtain ⟨W1, hW1⟩ : ∃ W1, w.alloc (.cells #[.int .i64 k, .string s, .slice x3 na c3, vl, .bool op] 37) = W1 := ⟨_, rfl⟩
    rw [hW1]
    have hBw1 : Below w.heap.size w W1 := by rw [← hW1]; exact (Below.refl _ w).alloc (Nat.le_refl _) _
    clear hW1
    go_loopg [3, 9] na (fun gk n i wr => ∃ (j m : Nat), gk = na - j ∧ j ≤ na ∧ i = .int .i64 j ∧ n = .int .i64 m ∧ m = ((ags.map tyDeep).take j).foldl max 0 ∧ m ≤ 900000 ∧ Below w.heap.size w wr)
    case atStart => exact ⟨0, 0, rfl, Nat.zero_le _, rfl, rfl, rfl, by omega, hBw1⟩
    case round =>
      obtain ⟨j, m, rfl, hj, rfl, rfl, hm, hm9, hB⟩ := hrel
      have hbs := hB.size
      have HM := Lib.hid hm
      clear hm
      by_cases hlt : j < na
      · have hi' : (j : Int) < (na : Int) := by omega
        have hjl : j < ags.length := by have := HA.out.1; omega
        obtain ⟨rfl, hc1, hc2, _⟩ := HA.out.2.1 (by have := HA.out.1; omega)
        unfold maxLen at hc2
        obtain ⟨k1, s1, xa1, xl1, na1, ca1, nl1, cl1, o1, sb, c0, c1, c2, c3', c4, hv1⟩ := (HA.out.2.2.1 j hjl).carry (keeps_of hB HA.out.2.2.2.2.1) (fun _ h => h) |>.open_
        have hsb := HA.out.2.2.2.2.1 _ sb
        have hga : ga < wr.heap.size := by omega
        obtain ⟨d, hd⟩ : ∃ d, tyDeep ags[j] = d := ⟨_, rfl⟩
        have hd9 : d ≤ 900000 := by rw [← hd]; exact HA.out.2.2.2.2.2.2 _ (List.getElem_mem hjl)
        have CD : Hid (∀ W, Below w.heap.size wr W → Calls Tryd.prog 30 #[.agg #[.int .i64 k1, .string s1, .slice xa1 na1 ca1, .slice xl1 nl1 cl1, .bool o1]] W fun e w' => e = .returned (.int .i64 d) ∧ Below w.heap.size wr w') := Lib.hid fun W hW => by
          have hws := hW.size
          have h9 := tySum_at hjl
          have h8 := HA.out.2.2.2.1
          refine (HA.out.2.2.2.2.2.1 S k1 s1 (.slice xa1 na1 ca1) (.slice xl1 nl1 cl1) o1 W ags[j] (by omega) (by omega) (fun b hb => by have := HA.out.2.2.2.2.1 b hb; omega) (hv1.carry (keeps_of hW HA.out.2.2.2.2.1) fun _ h => h)).mono ?_
          rintro e w' ⟨rfl, hB'⟩
          exact ⟨by rw [hd], hW.trans (hB'.mono (by omega))⟩
        have hmx : max m d = ((ags.map tyDeep).take (j + 1)).foldl max 0 := by rw [foldl_take (by simpa using hjl), HM.out]; simp [hd]
        have HX := Lib.hid hmx
        clear hv1 sb hd hmx
        by_cases hmd : (m : Int) < (d : Int)
        all_goals
          go_wp2_with (go_at_call 30; with_reducible refine (CD.out _ (by go_grown)).mono ?_; rintro e9 w9 ⟨rfl, hB9⟩)
          go_roundg (na - (j + 1))
          case measure => omega
          case rel => exact ⟨j + 1, max m d, rfl, hlt, by first | rfl | simp, by first | rw [Nat.max_eq_right (by omega)] | rw [Nat.max_eq_left (by omega)], HX.out, by omega, hB.trans hB9⟩
      · have hi' : ¬ (j : Int) < (na : Int) := by omega
        have hE : m + 1 = tyDeep (.mk k s ags lbs op) := by rw [HD.out, HM.out, List.take_of_length_le (by have := HA.out.1; simp; omega)]; omega
        have HE := Lib.hid hE
        clear hE
        go_wp2_with fail
        go_ret
        exact ⟨by rw [← HE.out]; first | rfl | (push_cast; rfl), hB⟩
end Go.Proofs.YtoopndgdaiblpaaDoor
