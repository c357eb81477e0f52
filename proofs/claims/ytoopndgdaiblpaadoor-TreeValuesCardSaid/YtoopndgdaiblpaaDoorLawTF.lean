/- trefoillaw02.TreeValues, walked, where what both parts are is true and false. -/
import Derived.Test.YtoopndgdaiblpaaDoorFnv
namespace Go.Proofs.YtoopndgdaiblpaaDoor
open Go.ChangeShapes Go.WideShapes Go.ChangeAt Go.RowKit

set_option maxHeartbeats 20000000 in
set_option maxRecDepth 100000 in
theorem values_TF (T : TypeId) (v : Value) (la lb : List Pt) (va vb : Value) (w : World) (hg : w.cell? ⟨0, 0, none⟩ = some (.iface T v)) (hgl : 0 < w.heap.size) (ha : PV w w.heap.size va la) (hb : PV w w.heap.size vb lb)
    (hla : (la.length : Int) ≤ 9223372036854775807) (hlb : (lb.length : Int) ≤ 9223372036854775807) (hp0 : valueB (ofL 2000 la).1 = true) (hq0 : valueB (ofL 2000 lb).1 = false) :
    Calls Tryd.prog 7 #[va, vb] w fun e w' => e = .returned (.bool true) ∧ Below w.heap.size w w' := by
  have HPQ := Lib.hid (And.intro hp0 hq0)
  clear hp0 hq0
  have HG := Lib.hid hg
  have HA := Lib.hid (And.intro ha hla)
  have HB := Lib.hid (And.intro hb hlb)
  clear hg ha hb hla hlb
  go_enter Tryd.func7, Tryd.ntmps7
  go_wp2_with fail
  refine (alive_any T v _ HG.out hgl).mono ?_
  rintro e w1 ⟨rfl, hB1⟩
  have s1 := hB1.size
  have PA1 := Lib.hid (HA.out.1.carry hB1)
  have PB1 := Lib.hid (HB.out.1.carry hB1)
  go_wp2_with fail
  refine (great_any w.heap.size la va w1 s1 HA.out.2 PA1.out).mono ?_
  rintro e w2 ⟨b1, rfl, hb1, hB2⟩
  have s2 := hB2.size
  cases b1 with
  | true =>
    go_wp2_with fail
    go_ret
    exact ⟨rfl, hB1.trans (hB2.mono s1)⟩
  | false =>
    have HL1 := Lib.hid (hb1 rfl)
    clear hb1
    have PB2 := Lib.hid (PB1.out.carry' hB2 s1)
    go_wp2_with fail
    refine (great_any w.heap.size lb vb w2 (by omega) HB.out.2 PB2.out).mono ?_
    rintro e w3 ⟨b2, rfl, hb2, hB3⟩
    have s3 := hB3.size
    cases b2 with
    | true =>
      go_wp2_with fail
      go_ret
      exact ⟨rfl, hB1.trans ((hB2.trans (hB3.mono s2)).mono s1)⟩
    | false =>
      have HL2 := Lib.hid (hb2 rfl)
      clear hb2
      have PA3 := Lib.hid ((PA1.out.carry' hB2 s1).carry' hB3 (by omega))
      have PB3 := Lib.hid (PB2.out.carry' hB3 (by omega))
      go_wp2_with fail
      refine (of_any w.heap.size 2000 la va w3 (by omega) (by have := HL1.out; omega) (by have := HL1.out; omega) PA3.out).mono ?_
      rintro e w4 ⟨a0, a1, a2, a3, a4, a5, a6, ra, rfl, hxa, hpa, hB4⟩
      obtain ⟨⟨x3, l3, e3, rfl⟩, ⟨x4, l4, e4, rfl⟩, ⟨x5, l5, e5, rfl⟩, ⟨x6, l6, e6, rfl⟩⟩ := hxa.shapes
      obtain ⟨k2, t2, n2, rfl, rfl, rfl⟩ := hxa.heads
      have HXA := Lib.hid hxa
      clear hxa hpa
      have s4 := hB4.size
      have PB4 := Lib.hid ((PB3.out.carry' hB4 (by omega)).carry' ((Below.refl w4.heap.size w4).alloc (Nat.le_refl _) (.cells #[.int .i64 k2, .string t2, .int .i64 n2, .slice x3 l3 e3, .slice x4 l4 e4, .slice x5 l5 e5, .slice x6 l6 e6] 33)) (by omega))
      have CO := Lib.hid (of_any w.heap.size 2000 lb vb (w4.alloc (.cells #[.int .i64 k2, .string t2, .int .i64 n2, .slice x3 l3 e3, .slice x4 l4 e4, .slice x5 l5 e5, .slice x6 l6 e6] 33)) (by simp; omega) (by have := HL2.out; omega) (by have := HL2.out; omega) PB4.out)
      go_wp2_with fail
      refine CO.out.mono ?_
      rintro e w5 ⟨b0, b1, b2, b3, b4, b5, b6, rb, rfl, hxb, hpb, hB5⟩
      obtain ⟨⟨y3, m3, f3, rfl⟩, ⟨y4, m4, f4, rfl⟩, ⟨y5, m5, f5, rfl⟩, ⟨y6, m6, f6, rfl⟩⟩ := hxb.shapes
      obtain ⟨k3, t3, n3, rfl, rfl, rfl⟩ := hxb.heads
      have HXB := Lib.hid hxb
      clear hxb hpb CO
      have s5 := hB5.size
      simp only [World.size_alloc] at s5
      go_wp2_with fail
      obtain ⟨W1, hW1⟩ : ∃ W1, w5.alloc (.cells #[.int .i64 k3, .string t3, .int .i64 n3, .slice y3 m3 f3, .slice y4 m4 f4, .slice y5 m5 f5, .slice y6 m6 f6] 33) = W1 := ⟨_, rfl⟩
      rw [hW1]
      have t1 : W1.heap.size = w5.heap.size + 1 := by rw [← hW1]; simp
      have A1 : W1.heap[w4.heap.size]? = some (.cells #[.int .i64 k2, .string t2, .int .i64 n2, .slice x3 l3 e3, .slice x4 l4 e4, .slice x5 l5 e5, .slice x6 l6 e6] 33) := by rw [← hW1, heap_old (by omega), hB5.block _ (by simp), heap_last rfl]
      have E1 : W1.heap[w5.heap.size]? = some (.cells #[.int .i64 k3, .string t3, .int .i64 n3, .slice y3 m3 f3, .slice y4 m4 f4, .slice y5 m5 f5, .slice y6 m6 f6] 33) := by rw [← hW1, heap_last rfl]
      have hw1 : Below w.heap.size w W1 := by
        rw [← hW1]
        exact (hB1.trans (((hB2.trans (hB3.mono s2)).mono s1))).trans ((((hB4.mono (by omega)).alloc (by omega) _).trans (hB5.mono (by simp; omega))).alloc (by omega) _)
      obtain ⟨ta, hta⟩ : ∃ ta, (ofL 2000 la).1 = ta := ⟨_, rfl⟩
      obtain ⟨tb, htb⟩ : ∃ tb, (ofL 2000 lb).1 = tb := ⟨_, rfl⟩
      have za : ndSize ta ≤ 400000 := by have := (ofL_fine 2000 la).2; have := HL1.out; rw [← hta]; omega
      have zb : ndSize tb ≤ 400000 := by have := (ofL_fine 2000 lb).2; have := HL2.out; rw [← htb]; omega
      have xa1 : isEx ta = true := by rw [← hta]; exact ofL_ex _ _
      have xb1 : isEx tb = true := by rw [← htb]; exact ofL_ex _ _
      have HXA2 := HXA.out
      have HXB2 := HXB.out
      rw [hta] at HXA2
      rw [htb] at HXB2
      have XA : Hid (∀ V, Below W1.heap.size W1 V → ExV V (fun b => b < V.heap.size) [.int .i64 k2, .string t2, .int .i64 n2, .slice x3 l3 e3, .slice x4 l4 e4, .slice x5 l5 e5, .slice x6 l6 e6] ta) := Lib.hid fun V hV => by
        have hs := hV.size
        refine HXA2.carry (fun b hb => ?_) (fun b hb => by have := hb.2; omega)
        rw [hV.block b (by have := hb.2; omega), ← hW1, heap_old (by have := hb.2; omega), hB5.block b (by have := hb.2; simp; omega), heap_old hb.2]
      have XB : Hid (∀ V, Below W1.heap.size W1 V → ExV V (fun b => b < V.heap.size) [.int .i64 k3, .string t3, .int .i64 n3, .slice y3 m3 f3, .slice y4 m4 f4, .slice y5 m5 f5, .slice y6 m6 f6] tb) := Lib.hid fun V hV => by
        have hs := hV.size
        refine HXB2.carry (fun b hb => ?_) (fun b hb => by have := hb.2; omega)
        rw [hV.block b (by have := hb.2; omega), ← hW1, heap_old hb.2]
      have SO : Hid (∀ V, Below W1.heap.size W1 V → V.cell? ⟨w4.heap.size, 0, none⟩ = some (.int .i64 k2) ∧ V.cell? ⟨w4.heap.size, 1, none⟩ = some (.string t2) ∧ V.cell? ⟨w4.heap.size, 2, none⟩ = some (.int .i64 n2) ∧ V.cell? ⟨w4.heap.size, 3, none⟩ = some (.slice x3 l3 e3) ∧ V.cell? ⟨w4.heap.size, 4, none⟩ = some (.slice x4 l4 e4) ∧ V.cell? ⟨w4.heap.size, 5, none⟩ = some (.slice x5 l5 e5) ∧ V.cell? ⟨w4.heap.size, 6, none⟩ = some (.slice x6 l6 e6) ∧ V.cell? ⟨w5.heap.size, 0, none⟩ = some (.int .i64 k3) ∧ V.cell? ⟨w5.heap.size, 1, none⟩ = some (.string t3) ∧ V.cell? ⟨w5.heap.size, 2, none⟩ = some (.int .i64 n3) ∧ V.cell? ⟨w5.heap.size, 3, none⟩ = some (.slice y3 m3 f3) ∧ V.cell? ⟨w5.heap.size, 4, none⟩ = some (.slice y4 m4 f4) ∧ V.cell? ⟨w5.heap.size, 5, none⟩ = some (.slice y5 m5 f5) ∧ V.cell? ⟨w5.heap.size, 6, none⟩ = some (.slice y6 m6 f6)) := Lib.hid fun V hV => by
        have a1 := (hV.block w4.heap.size (by omega)).trans A1
        have a2 := (hV.block w5.heap.size (by omega)).trans E1
        refine ⟨?_, ?_, ?_, ?_, ?_, ?_, ?_, ?_, ?_, ?_, ?_, ?_, ?_, ?_⟩ <;> first | (rw [Lib.cell_of_heap a1]; rfl) | (rw [Lib.cell_of_heap a2]; rfl)
      have hp : valueB ta = true := by rw [← hta]; exact HPQ.out.1
      have hq : valueB tb = false := by rw [← htb]; exact HPQ.out.2
      clear hW1 A1 E1 HXA2 HXB2 HXA HXB hta htb t1
      have HTA := Lib.hid (And.intro hp (And.intro xa1 za))
      have HTB := Lib.hid (And.intro hq (And.intro xb1 zb))
      clear hp hq xa1 xb1 za zb
      have C6 : Hid (∀ V gr, Below W1.heap.size W1 V → V.heap[gr]? = some (.cells #[.int .i64 k2, .string t2, .int .i64 n2, .slice x3 l3 e3, .slice x4 l4 e4, .slice x5 l5 e5, .slice x6 l6 e6] 33) → Calls Tryd.prog 22 #[.int .i64 6, .slice (some ⟨gr, 0, none⟩) 1 1] V fun e w' => e = .returned (.bool true) ∧ Below W1.heap.size W1 w') := Lib.hid fun V gr hV hr => by
        have hl := (Array.getElem?_eq_some_iff.1 hr).1
        refine (fn_val 6 _ [ta] gr 0 V (.inr ⟨1, rfl, by simp, by decide, hl⟩) (fun i hi => ?_) (fun x hx => by rw [List.mem_singleton.1 hx]; exact HTA.out.2.1) (by simp only [ndSum, List.map_cons, List.map_nil, List.sum_cons, List.sum_nil]; have := HTA.out.2.2; omega)).mono ?_
        · match i, hi with
          | 0, _ => exact (XA.out V hV).at_ hl (fun j u hj => by rw [Lib.cell_of_heap hr, Nat.zero_add]; simpa using hj)
        · rintro e w' ⟨rfl, hB⟩
          exact ⟨by rw [value_leaf (by omega)], hV.trans (hB.mono hV.size)⟩
      have C15 : Hid (∀ V gr, Below W1.heap.size W1 V → V.heap[gr]? = some (.cells #[.int .i64 k2, .string t2, .int .i64 n2, .slice x3 l3 e3, .slice x4 l4 e4, .slice x5 l5 e5, .slice x6 l6 e6] 33) → Calls Tryd.prog 22 #[.int .i64 15, .slice (some ⟨gr, 0, none⟩) 1 1] V fun e w' => e = .returned (.bool false) ∧ Below W1.heap.size W1 w') := Lib.hid fun V gr hV hr => by
        have hl := (Array.getElem?_eq_some_iff.1 hr).1
        refine (fn_val 15 _ [ta] gr 0 V (.inr ⟨1, rfl, by simp, by decide, hl⟩) (fun i hi => ?_) (fun x hx => by rw [List.mem_singleton.1 hx]; exact HTA.out.2.1) (by simp only [ndSum, List.map_cons, List.map_nil, List.sum_cons, List.sum_nil]; have := HTA.out.2.2; omega)).mono ?_
        · match i, hi with
          | 0, _ => exact (XA.out V hV).at_ hl (fun j u hj => by rw [Lib.cell_of_heap hr, Nat.zero_add]; simpa using hj)
        · rintro e w' ⟨rfl, hB⟩
          exact ⟨by rw [value_no (by omega) (by omega) (by omega)], hV.trans (hB.mono hV.size)⟩
      have C19 : Hid (∀ V gr, Below W1.heap.size W1 V → V.heap[gr]? = some (.cells #[.int .i64 k2, .string t2, .int .i64 n2, .slice x3 l3 e3, .slice x4 l4 e4, .slice x5 l5 e5, .slice x6 l6 e6] 33) → Calls Tryd.prog 22 #[.int .i64 19, .slice (some ⟨gr, 0, none⟩) 1 1] V fun e w' => e = .returned (.bool true) ∧ Below W1.heap.size W1 w') := Lib.hid fun V gr hV hr => by
        have hl := (Array.getElem?_eq_some_iff.1 hr).1
        refine (fn_val 19 _ [ta] gr 0 V (.inr ⟨1, rfl, by simp, by decide, hl⟩) (fun i hi => ?_) (fun x hx => by rw [List.mem_singleton.1 hx]; exact HTA.out.2.1) (by simp only [ndSum, List.map_cons, List.map_nil, List.sum_cons, List.sum_nil]; have := HTA.out.2.2; omega)).mono ?_
        · match i, hi with
          | 0, _ => exact (XA.out V hV).at_ hl (fun j u hj => by rw [Lib.cell_of_heap hr, Nat.zero_add]; simpa using hj)
        · rintro e w' ⟨rfl, hB⟩
          exact ⟨by rw [value_note, HTA.out.1], hV.trans (hB.mono hV.size)⟩
      have C7 : Hid (∀ V gr, Below W1.heap.size W1 V → V.heap[gr]? = some (.cells #[.int .i64 k2, .string t2, .int .i64 n2, .slice x3 l3 e3, .slice x4 l4 e4, .slice x5 l5 e5, .slice x6 l6 e6, .int .i64 k3, .string t3, .int .i64 n3, .slice y3 m3 f3, .slice y4 m4 f4, .slice y5 m5 f5, .slice y6 m6 f6] 33) → Calls Tryd.prog 22 #[.int .i64 7, .slice (some ⟨gr, 0, none⟩) 2 2] V fun e w' => e = .returned (.bool false) ∧ Below W1.heap.size W1 w') := Lib.hid fun V gr hV hr => by
        have hl := (Array.getElem?_eq_some_iff.1 hr).1
        refine (fn_val 7 _ [ta, tb] gr 0 V (.inr ⟨2, rfl, by simp, by decide, hl⟩) (fun i hi => ?_) (fun x hx => ?_) (by simp only [ndSum, List.map_cons, List.map_nil, List.sum_cons, List.sum_nil]; have := HTA.out.2.2; have := HTB.out.2.2; omega)).mono ?_
        · match i, hi with
          | 0, _ => exact (XA.out V hV).at_ hl (fun j u hj => by
              rw [Lib.cell_of_heap hr, Nat.zero_add]
              have hj7 : j < 7 := by have := (List.getElem?_eq_some_iff.1 hj).1; simpa using this
              rcases j with _ | _ | _ | _ | _ | _ | _ | j <;> first | exact hj | omega)
          | 1, _ => exact (XB.out V hV).at_ hl (fun j u hj => by
              rw [Lib.cell_of_heap hr]
              have hj7 : j < 7 := by have := (List.getElem?_eq_some_iff.1 hj).1; simpa using this
              rcases j with _ | _ | _ | _ | _ | _ | _ | j <;> first | exact hj | omega)
        · simp only [List.mem_cons, List.not_mem_nil, or_false] at hx
          rcases hx with rfl | rfl
          · exact HTA.out.2.1
          · exact HTB.out.2.1
        · rintro e w' ⟨rfl, hB⟩
          exact ⟨by rw [value_no (by omega) (by omega) (by omega)], hV.trans (hB.mono hV.size)⟩
      have C8 : Hid (∀ V gr, Below W1.heap.size W1 V → V.heap[gr]? = some (.cells #[.int .i64 k2, .string t2, .int .i64 n2, .slice x3 l3 e3, .slice x4 l4 e4, .slice x5 l5 e5, .slice x6 l6 e6, .int .i64 k3, .string t3, .int .i64 n3, .slice y3 m3 f3, .slice y4 m4 f4, .slice y5 m5 f5, .slice y6 m6 f6] 33) → Calls Tryd.prog 22 #[.int .i64 8, .slice (some ⟨gr, 0, none⟩) 2 2] V fun e w' => e = .returned (.bool false) ∧ Below W1.heap.size W1 w') := Lib.hid fun V gr hV hr => by
        have hl := (Array.getElem?_eq_some_iff.1 hr).1
        refine (fn_val 8 _ [ta, tb] gr 0 V (.inr ⟨2, rfl, by simp, by decide, hl⟩) (fun i hi => ?_) (fun x hx => ?_) (by simp only [ndSum, List.map_cons, List.map_nil, List.sum_cons, List.sum_nil]; have := HTA.out.2.2; have := HTB.out.2.2; omega)).mono ?_
        · match i, hi with
          | 0, _ => exact (XA.out V hV).at_ hl (fun j u hj => by
              rw [Lib.cell_of_heap hr, Nat.zero_add]
              have hj7 : j < 7 := by have := (List.getElem?_eq_some_iff.1 hj).1; simpa using this
              rcases j with _ | _ | _ | _ | _ | _ | _ | j <;> first | exact hj | omega)
          | 1, _ => exact (XB.out V hV).at_ hl (fun j u hj => by
              rw [Lib.cell_of_heap hr]
              have hj7 : j < 7 := by have := (List.getElem?_eq_some_iff.1 hj).1; simpa using this
              rcases j with _ | _ | _ | _ | _ | _ | _ | j <;> first | exact hj | omega)
        · simp only [List.mem_cons, List.not_mem_nil, or_false] at hx
          rcases hx with rfl | rfl
          · exact HTA.out.2.1
          · exact HTB.out.2.1
        · rintro e w' ⟨rfl, hB⟩
          exact ⟨by rw [value_no (by omega) (by omega) (by omega)], hV.trans (hB.mono hV.size)⟩
      have C10 : Hid (∀ V gr, Below W1.heap.size W1 V → V.heap[gr]? = some (.cells #[.int .i64 k2, .string t2, .int .i64 n2, .slice x3 l3 e3, .slice x4 l4 e4, .slice x5 l5 e5, .slice x6 l6 e6, .int .i64 k3, .string t3, .int .i64 n3, .slice y3 m3 f3, .slice y4 m4 f4, .slice y5 m5 f5, .slice y6 m6 f6] 33) → Calls Tryd.prog 22 #[.int .i64 10, .slice (some ⟨gr, 0, none⟩) 2 2] V fun e w' => e = .returned (.bool false) ∧ Below W1.heap.size W1 w') := Lib.hid fun V gr hV hr => by
        have hl := (Array.getElem?_eq_some_iff.1 hr).1
        refine (fn_val 10 _ [ta, tb] gr 0 V (.inr ⟨2, rfl, by simp, by decide, hl⟩) (fun i hi => ?_) (fun x hx => ?_) (by simp only [ndSum, List.map_cons, List.map_nil, List.sum_cons, List.sum_nil]; have := HTA.out.2.2; have := HTB.out.2.2; omega)).mono ?_
        · match i, hi with
          | 0, _ => exact (XA.out V hV).at_ hl (fun j u hj => by
              rw [Lib.cell_of_heap hr, Nat.zero_add]
              have hj7 : j < 7 := by have := (List.getElem?_eq_some_iff.1 hj).1; simpa using this
              rcases j with _ | _ | _ | _ | _ | _ | _ | j <;> first | exact hj | omega)
          | 1, _ => exact (XB.out V hV).at_ hl (fun j u hj => by
              rw [Lib.cell_of_heap hr]
              have hj7 : j < 7 := by have := (List.getElem?_eq_some_iff.1 hj).1; simpa using this
              rcases j with _ | _ | _ | _ | _ | _ | _ | j <;> first | exact hj | omega)
        · simp only [List.mem_cons, List.not_mem_nil, or_false] at hx
          rcases hx with rfl | rfl
          · exact HTA.out.2.1
          · exact HTB.out.2.1
        · rintro e w' ⟨rfl, hB⟩
          exact ⟨by rw [value_pair, HTA.out.1, HTB.out.1]; rfl, hV.trans (hB.mono hV.size)⟩
      have C14 : Hid (∀ V, Below W1.heap.size W1 V → Calls Tryd.prog 22 #[.int .i64 14, .slice none 0 0] V fun e w' => e = .returned (.bool false) ∧ Below W1.heap.size W1 w') := Lib.hid fun V hV => by
        refine (fn_val 14 _ [] 0 0 V (.inl ⟨rfl, rfl⟩) (fun i hi => absurd hi (Nat.not_lt_zero _)) (fun x hx => by cases hx) (by simp [ndSum])).mono ?_
        rintro e w' ⟨rfl, hB⟩
        exact ⟨by rw [value_no (by omega) (by omega) (by omega)], hV.trans (hB.mono hV.size)⟩
      have CA : Hid (∀ V, Below W1.heap.size W1 V → Calls Tryd.prog 21 #[.agg #[.int .i64 k2, .string t2, .int .i64 n2, .slice x3 l3 e3, .slice x4 l4 e4, .slice x5 l5 e5, .slice x6 l6 e6]] V fun e w' => e = .returned (.bool true) ∧ Below W1.heap.size W1 w') := Lib.hid fun V hV => by
        refine (val_any k2 t2 n2 _ _ _ _ V ta (by have := HTA.out.2.2; omega) (((XA.out V hV).carry (C := fun b => b < V.heap.size + 1) (fun b hb => heap_old hb) (fun b hb => by omega)).at_ (by omega) (fun j u hj => by rw [Lib.cell_of_heap (heap_last rfl), Nat.zero_add]; simpa using hj)) HTA.out.2.1).mono ?_
        rintro e w' ⟨rfl, hB⟩
        exact ⟨by rw [HTA.out.1], hV.trans (hB.mono hV.size)⟩
      have CB : Hid (∀ V, Below W1.heap.size W1 V → Calls Tryd.prog 21 #[.agg #[.int .i64 k3, .string t3, .int .i64 n3, .slice y3 m3 f3, .slice y4 m4 f4, .slice y5 m5 f5, .slice y6 m6 f6]] V fun e w' => e = .returned (.bool false) ∧ Below W1.heap.size W1 w') := Lib.hid fun V hV => by
        refine (val_any k3 t3 n3 _ _ _ _ V tb (by have := HTB.out.2.2; omega) (((XB.out V hV).carry (C := fun b => b < V.heap.size + 1) (fun b hb => heap_old hb) (fun b hb => by omega)).at_ (by omega) (fun j u hj => by rw [Lib.cell_of_heap (heap_last rfl), Nat.zero_add]; simpa using hj)) HTB.out.2.1).mono ?_
        rintro e w' ⟨rfl, hB⟩
        exact ⟨by rw [HTB.out.1], hV.trans (hB.mono hV.size)⟩
      clear XA XB HTA HTB
      all_goals
        have hBB := Below.refl W1.heap.size W1
        first
          | (go_region_held3 (fun V => V.cell? ⟨w4.heap.size, 0, none⟩ = some (.int .i64 k2) ∧ V.cell? ⟨w4.heap.size, 1, none⟩ = some (.string t2) ∧ V.cell? ⟨w4.heap.size, 2, none⟩ = some (.int .i64 n2) ∧ V.cell? ⟨w4.heap.size, 3, none⟩ = some (.slice x3 l3 e3) ∧ V.cell? ⟨w4.heap.size, 4, none⟩ = some (.slice x4 l4 e4) ∧ V.cell? ⟨w4.heap.size, 5, none⟩ = some (.slice x5 l5 e5) ∧ V.cell? ⟨w4.heap.size, 6, none⟩ = some (.slice x6 l6 e6) ∧ V.cell? ⟨w5.heap.size, 0, none⟩ = some (.int .i64 k3) ∧ V.cell? ⟨w5.heap.size, 1, none⟩ = some (.string t3) ∧ V.cell? ⟨w5.heap.size, 2, none⟩ = some (.int .i64 n3) ∧ V.cell? ⟨w5.heap.size, 3, none⟩ = some (.slice y3 m3 f3) ∧ V.cell? ⟨w5.heap.size, 4, none⟩ = some (.slice y4 m4 f4) ∧ V.cell? ⟨w5.heap.size, 5, none⟩ = some (.slice y5 m5 f5) ∧ V.cell? ⟨w5.heap.size, 6, none⟩ = some (.slice y6 m6 f6)) (first | assumption | exact SO.out _ (by first | exact hBB | exact hBB.drew | exact hBB.alloc hBB.size _ | exact (hBB.alloc hBB.size _).drew | exact hBB.drew.alloc hBB.size _))
             (first | (go_at_call 22; with_reducible refine (C6.out _ _ (by first | exact hBB | exact hBB.drew | exact hBB.alloc hBB.size _ | exact (hBB.alloc hBB.size _).drew | exact hBB.drew.alloc hBB.size _) (by first | exact heap_last rfl | exact heap_lastd rfl | exact heap_last (by simp) | exact heap_lastd (by simp))).mono ?_; rintro e9 w9 ⟨rfl, hBB⟩) | (go_at_call 22; with_reducible refine (C15.out _ _ (by first | exact hBB | exact hBB.drew | exact hBB.alloc hBB.size _ | exact (hBB.alloc hBB.size _).drew | exact hBB.drew.alloc hBB.size _) (by first | exact heap_last rfl | exact heap_lastd rfl | exact heap_last (by simp) | exact heap_lastd (by simp))).mono ?_; rintro e9 w9 ⟨rfl, hBB⟩) | (go_at_call 22; with_reducible refine (C19.out _ _ (by first | exact hBB | exact hBB.drew | exact hBB.alloc hBB.size _ | exact (hBB.alloc hBB.size _).drew | exact hBB.drew.alloc hBB.size _) (by first | exact heap_last rfl | exact heap_lastd rfl | exact heap_last (by simp) | exact heap_lastd (by simp))).mono ?_; rintro e9 w9 ⟨rfl, hBB⟩) | (go_at_call 22; with_reducible refine (C7.out _ _ (by first | exact hBB | exact hBB.drew | exact hBB.alloc hBB.size _ | exact (hBB.alloc hBB.size _).drew | exact hBB.drew.alloc hBB.size _) (by first | exact heap_last rfl | exact heap_lastd rfl | exact heap_last (by simp) | exact heap_lastd (by simp))).mono ?_; rintro e9 w9 ⟨rfl, hBB⟩) | (go_at_call 22; with_reducible refine (C8.out _ _ (by first | exact hBB | exact hBB.drew | exact hBB.alloc hBB.size _ | exact (hBB.alloc hBB.size _).drew | exact hBB.drew.alloc hBB.size _) (by first | exact heap_last rfl | exact heap_lastd rfl | exact heap_last (by simp) | exact heap_lastd (by simp))).mono ?_; rintro e9 w9 ⟨rfl, hBB⟩) | (go_at_call 22; with_reducible refine (C10.out _ _ (by first | exact hBB | exact hBB.drew | exact hBB.alloc hBB.size _ | exact (hBB.alloc hBB.size _).drew | exact hBB.drew.alloc hBB.size _) (by first | exact heap_last rfl | exact heap_lastd rfl | exact heap_last (by simp) | exact heap_lastd (by simp))).mono ?_; rintro e9 w9 ⟨rfl, hBB⟩) | (go_at_call 22; with_reducible refine (C14.out _ (by first | exact hBB | exact hBB.drew | exact hBB.alloc hBB.size _ | exact (hBB.alloc hBB.size _).drew | exact hBB.drew.alloc hBB.size _)).mono ?_; rintro e9 w9 ⟨rfl, hBB⟩) | (go_at_call 21; with_reducible refine (CA.out _ (by first | exact hBB | exact hBB.drew | exact hBB.alloc hBB.size _ | exact (hBB.alloc hBB.size _).drew | exact hBB.drew.alloc hBB.size _)).mono ?_; rintro e9 w9 ⟨rfl, hBB⟩) | (go_at_call 21; with_reducible refine (CB.out _ (by first | exact hBB | exact hBB.drew | exact hBB.alloc hBB.size _ | exact (hBB.alloc hBB.size _).drew | exact hBB.drew.alloc hBB.size _)).mono ?_; rintro e9 w9 ⟨rfl, hBB⟩)))
          | fail
        all_goals
          go_wp2_with fail
          go_ret
          exact ⟨rfl, hw1.trans (hBB.mono hw1.size)⟩
end Go.Proofs.YtoopndgdaiblpaaDoor
