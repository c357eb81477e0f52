/- trefoilref02.mayType, and CheckType, told at the types that there are here. -/
import Derived.Test.YtoopndgdaiblpaaDoorRTc
import Derived.Test.YtoopndgdaiblpaaDoorRNm
import Derived.WalkLawsBesides
namespace Go.Proofs.YtoopndgdaiblpaaDoor
open Go.ChangeShapes Go.WideShapes Go.ChangeAt Go.RowKit

noncomputable def mayB (t : Ty) : Bool := @decide (TyMay t) (Classical.propDecidable _)
theorem mayB_yes {t : Ty} (h : TyMay t) : mayB t = true := by simp [mayB, h]
theorem mayB_no {t : Ty} (h : ¬ TyMay t) : mayB t = false := by simp [mayB, h]
theorem may_args {k : Int} {s : ByteArray} {args : List Ty} {labels : List ByteArray} {op : Bool} (h : TyMay (.mk k s args labels op)) : ∀ x ∈ args, TyMay x := by cases h with | mk _ h => exact h

/-- mayType at types as values, no greater than so. -/
def RefMay (f : Nat) : Prop := ∀ (S : Nat → Prop) (k : Int) (s : ByteArray) (va vl : Value) (op : Bool) (w : World) (t : Ty), tySize t ≤ f → f ≤ 900000 → KT t → (∀ b, S b → b < w.heap.size) →
    TyV w S [.int .i64 k, .string s, va, vl, .bool op] t →
    Calls Tryd.prog 29 #[.agg #[.int .i64 k, .string s, va, vl, .bool op]] w fun e w' => e = .returned (.bool (mayB t)) ∧ Below w.heap.size w w'

set_option linter.unusedVariables false in
set_option maxHeartbeats 2000000 in
set_option maxRecDepth 100000 in
theorem may_int (f : Nat) (ih : RefMay f) (hf : f ≤ 900000) (S : Nat → Prop) (x3 x4 : Option Addr) (c3 c4 : Nat) (w : World) (ags : List Ty) (ga oa gl ol : Nat) (hna : ags.length = 0) (hsz : tySum ags ≤ f) (hka : ∀ x ∈ ags, KT x) (hS : ∀ b, S b → b < w.heap.size)
    (ha : Sl S (.slice x3 0 c3) ags.length ga oa) (hl : Sl S (.slice x4 0 c4) 0 gl ol) (hs : ∀ i (h : i < ags.length), TyAt w S ga (oa + i * 5) ags[i]) (hls : ∀ i (h : i < ([] : List ByteArray).length), w.cell? ⟨gl, ol + i, none⟩ = some (.string ([] : List ByteArray)[i])) :
    Calls Tryd.prog 29 #[.agg #[.int .i64 2, .string ⟨#[105, 110, 116]⟩, .slice x3 0 c3, .slice x4 0 c4, .bool false]] w fun e w' => e = .returned (.bool (mayB (.mk 2 ⟨#[105, 110, 116]⟩ ags [] false))) ∧ Below w.heap.size w w' := by
  have hsh : 0 < ags.length → x3 = some ⟨ga, oa, none⟩ ∧ ags.length ≤ c3 ∧ c3 ≤ maxLen := fun h => by
    rcases ha with ⟨h1, h2⟩ | ⟨cap, h1, h2, h3, _⟩
    · omega
    · simp only [Value.slice.injEq] at h1
      obtain ⟨rfl, _, rfl⟩ := h1
      exact ⟨rfl, h2, h3⟩
  have HA := Lib.hid (And.intro hna (And.intro hsh (And.intro hs (And.intro hsz (And.intro hS (And.intro ih hka))))))
  clear ha hl hs hls hsh hna hsz ih hS hka
  go_enter Tryd.func29, Tryd.ntmps29
  go_wp2_with fail
  obtain ⟨W1, hW1⟩ : ∃ W1, w.alloc (.cells #[.int .i64 2, .string ⟨#[105, 110, 116]⟩, .slice x3 0 c3, .slice x4 0 c4, .bool false] 37) = W1 := ⟨_, rfl⟩
  rw [hW1]
  have hs1 : W1.heap.size = w.heap.size + 1 := by rw [← hW1]; simp
  have hBw1 : Below w.heap.size w W1 := by rw [← hW1]; exact (Below.refl _ w).alloc (Nat.le_refl _) _
  have hbx : W1.heap[w.heap.size]? = some (.cells #[.int .i64 2, .string ⟨#[105, 110, 116]⟩, .slice x3 0 c3, .slice x4 0 c4, .bool false] 37) := by rw [← hW1]; exact heap_last rfl
  have HBX := Lib.hid hbx
  clear hW1 hbx
  go_loopg [11] 0 (fun gk i wr => ∃ j, gk = 0 - j ∧ j ≤ 0 ∧ i = .int .i64 j ∧ (∀ i (h : i < ags.length), i < j → TyMay ags[i]) ∧ Below (w.heap.size + 1) W1 wr)
  case atStart => exact ⟨0, rfl, Nat.zero_le _, rfl, fun _ _ h => absurd h (Nat.not_lt_zero _), Below.refl _ _⟩
  case round =>
    obtain ⟨j, rfl, hj, rfl, hm, hB⟩ := hrel
    have hbs := hB.size
    have hBw : Below w.heap.size w wr := hBw1.trans (hB.mono (by omega))
    have HM := Lib.hid hm
    clear hm
    have hbx := (hB.block w.heap.size (by omega)).trans HBX.out
    have b0 := Lib.cell_of_heap hbx 0
    have b1 := Lib.cell_of_heap hbx 1
    have b2 := Lib.cell_of_heap hbx 2
    have b3 := Lib.cell_of_heap hbx 3
    have b4 := Lib.cell_of_heap hbx 4
    simp only [List.getElem?_toArray, List.getElem?_cons_zero, List.getElem?_cons_succ] at b0 b1 b2 b3 b4
    clear hbx
    · obtain rfl : j = 0 := by omega
      have hall : ∀ x ∈ ags, TyMay x := fun x hx => by
        obtain ⟨i, hi, rfl⟩ := List.getElem_of_mem hx
        exact HM.out i hi (by have := HA.out.1; omega)
      have HR := Lib.hid (mayB_yes (t := .mk 2 ⟨#[105, 110, 116]⟩ ags [] false) (.mk ⟨_, _, _, _, _, rfl, by rw [HA.out.1]; simp [shapes]⟩ hall))
      clear hall
      go_wp2_with fail
      go_ret
      exact ⟨by rw [HR.out]; rfl, hBw⟩

set_option linter.unusedVariables false in
set_option maxHeartbeats 2000000 in
set_option maxRecDepth 100000 in
theorem may_a (f : Nat) (ih : RefMay f) (hf : f ≤ 900000) (S : Nat → Prop) (x3 x4 : Option Addr) (c3 c4 : Nat) (w : World) (ags : List Ty) (ga oa gl ol : Nat) (hna : ags.length = 0) (hsz : tySum ags ≤ f) (hka : ∀ x ∈ ags, KT x) (hS : ∀ b, S b → b < w.heap.size)
    (ha : Sl S (.slice x3 0 c3) ags.length ga oa) (hl : Sl S (.slice x4 0 c4) 0 gl ol) (hs : ∀ i (h : i < ags.length), TyAt w S ga (oa + i * 5) ags[i]) (hls : ∀ i (h : i < ([] : List ByteArray).length), w.cell? ⟨gl, ol + i, none⟩ = some (.string ([] : List ByteArray)[i])) :
    Calls Tryd.prog 29 #[.agg #[.int .i64 1, .string ⟨#[97]⟩, .slice x3 0 c3, .slice x4 0 c4, .bool false]] w fun e w' => e = .returned (.bool (mayB (.mk 1 ⟨#[97]⟩ ags [] false))) ∧ Below w.heap.size w w' := by
  have hsh : 0 < ags.length → x3 = some ⟨ga, oa, none⟩ ∧ ags.length ≤ c3 ∧ c3 ≤ maxLen := fun h => by
    rcases ha with ⟨h1, h2⟩ | ⟨cap, h1, h2, h3, _⟩
    · omega
    · simp only [Value.slice.injEq] at h1
      obtain ⟨rfl, _, rfl⟩ := h1
      exact ⟨rfl, h2, h3⟩
  have HA := Lib.hid (And.intro hna (And.intro hsh (And.intro hs (And.intro hsz (And.intro hS (And.intro ih hka))))))
  clear ha hl hs hls hsh hna hsz ih hS hka
  go_enter Tryd.func29, Tryd.ntmps29
  go_wp2_with fail
  obtain ⟨W1, hW1⟩ : ∃ W1, w.alloc (.cells #[.int .i64 1, .string ⟨#[97]⟩, .slice x3 0 c3, .slice x4 0 c4, .bool false] 37) = W1 := ⟨_, rfl⟩
  rw [hW1]
  have hs1 : W1.heap.size = w.heap.size + 1 := by rw [← hW1]; simp
  have hBw1 : Below w.heap.size w W1 := by rw [← hW1]; exact (Below.refl _ w).alloc (Nat.le_refl _) _
  have hbx : W1.heap[w.heap.size]? = some (.cells #[.int .i64 1, .string ⟨#[97]⟩, .slice x3 0 c3, .slice x4 0 c4, .bool false] 37) := by rw [← hW1]; exact heap_last rfl
  have HBX := Lib.hid hbx
  clear hW1 hbx
  go_loopg [11] 0 (fun gk i wr => ∃ j, gk = 0 - j ∧ j ≤ 0 ∧ i = .int .i64 j ∧ (∀ i (h : i < ags.length), i < j → TyMay ags[i]) ∧ Below (w.heap.size + 1) W1 wr)
  case atStart => exact ⟨0, rfl, Nat.zero_le _, rfl, fun _ _ h => absurd h (Nat.not_lt_zero _), Below.refl _ _⟩
  case round =>
    obtain ⟨j, rfl, hj, rfl, hm, hB⟩ := hrel
    have hbs := hB.size
    have hBw : Below w.heap.size w wr := hBw1.trans (hB.mono (by omega))
    have HM := Lib.hid hm
    clear hm
    have hbx := (hB.block w.heap.size (by omega)).trans HBX.out
    have b0 := Lib.cell_of_heap hbx 0
    have b1 := Lib.cell_of_heap hbx 1
    have b2 := Lib.cell_of_heap hbx 2
    have b3 := Lib.cell_of_heap hbx 3
    have b4 := Lib.cell_of_heap hbx 4
    simp only [List.getElem?_toArray, List.getElem?_cons_zero, List.getElem?_cons_succ] at b0 b1 b2 b3 b4
    clear hbx
    · obtain rfl : j = 0 := by omega
      have hall : ∀ x ∈ ags, TyMay x := fun x hx => by
        obtain ⟨i, hi, rfl⟩ := List.getElem_of_mem hx
        exact HM.out i hi (by have := HA.out.1; omega)
      have HR := Lib.hid (mayB_yes (t := .mk 1 ⟨#[97]⟩ ags [] false) (.mk ⟨_, _, _, _, _, rfl, by rw [HA.out.1]; simp [shapes]⟩ hall))
      clear hall
      go_wp2_with (go_at_call 38; refine (refIsWord_a _).mono ?_; rintro e w' ⟨rfl, rfl⟩)
      go_ret
      exact ⟨by rw [HR.out]; rfl, hBw⟩

set_option linter.unusedVariables false in
set_option maxHeartbeats 2000000 in
set_option maxRecDepth 100000 in
theorem may_arrow (f : Nat) (ih : RefMay f) (hf : f ≤ 900000) (S : Nat → Prop) (x3 x4 : Option Addr) (c3 c4 : Nat) (w : World) (ags : List Ty) (ga oa gl ol : Nat) (hna : ags.length = 2) (hsz : tySum ags ≤ f) (hka : ∀ x ∈ ags, KT x) (hS : ∀ b, S b → b < w.heap.size)
    (ha : Sl S (.slice x3 2 c3) ags.length ga oa) (hl : Sl S (.slice x4 0 c4) 0 gl ol) (hs : ∀ i (h : i < ags.length), TyAt w S ga (oa + i * 5) ags[i]) (hls : ∀ i (h : i < ([] : List ByteArray).length), w.cell? ⟨gl, ol + i, none⟩ = some (.string ([] : List ByteArray)[i])) :
    Calls Tryd.prog 29 #[.agg #[.int .i64 2, .string ⟨#[45, 62]⟩, .slice x3 2 c3, .slice x4 0 c4, .bool false]] w fun e w' => e = .returned (.bool (mayB (.mk 2 ⟨#[45, 62]⟩ ags [] false))) ∧ Below w.heap.size w w' := by
  have hsh : 0 < ags.length → x3 = some ⟨ga, oa, none⟩ ∧ ags.length ≤ c3 ∧ c3 ≤ maxLen := fun h => by
    rcases ha with ⟨h1, h2⟩ | ⟨cap, h1, h2, h3, _⟩
    · omega
    · simp only [Value.slice.injEq] at h1
      obtain ⟨rfl, _, rfl⟩ := h1
      exact ⟨rfl, h2, h3⟩
  have HA := Lib.hid (And.intro hna (And.intro hsh (And.intro hs (And.intro hsz (And.intro hS (And.intro ih hka))))))
  clear ha hl hs hls hsh hna hsz ih hS hka
  go_enter Tryd.func29, Tryd.ntmps29
  go_wp2_with fail
  obtain ⟨W1, hW1⟩ : ∃ W1, w.alloc (.cells #[.int .i64 2, .string ⟨#[45, 62]⟩, .slice x3 2 c3, .slice x4 0 c4, .bool false] 37) = W1 := ⟨_, rfl⟩
  rw [hW1]
  have hs1 : W1.heap.size = w.heap.size + 1 := by rw [← hW1]; simp
  have hBw1 : Below w.heap.size w W1 := by rw [← hW1]; exact (Below.refl _ w).alloc (Nat.le_refl _) _
  have hbx : W1.heap[w.heap.size]? = some (.cells #[.int .i64 2, .string ⟨#[45, 62]⟩, .slice x3 2 c3, .slice x4 0 c4, .bool false] 37) := by rw [← hW1]; exact heap_last rfl
  have HBX := Lib.hid hbx
  clear hW1 hbx
  go_loopg [11] 2 (fun gk i wr => ∃ j, gk = 2 - j ∧ j ≤ 2 ∧ i = .int .i64 j ∧ (∀ i (h : i < ags.length), i < j → TyMay ags[i]) ∧ Below (w.heap.size + 1) W1 wr)
  case atStart => exact ⟨0, rfl, Nat.zero_le _, rfl, fun _ _ h => absurd h (Nat.not_lt_zero _), Below.refl _ _⟩
  case round =>
    obtain ⟨j, rfl, hj, rfl, hm, hB⟩ := hrel
    have hbs := hB.size
    have hBw : Below w.heap.size w wr := hBw1.trans (hB.mono (by omega))
    have HM := Lib.hid hm
    clear hm
    have hbx := (hB.block w.heap.size (by omega)).trans HBX.out
    have b0 := Lib.cell_of_heap hbx 0
    have b1 := Lib.cell_of_heap hbx 1
    have b2 := Lib.cell_of_heap hbx 2
    have b3 := Lib.cell_of_heap hbx 3
    have b4 := Lib.cell_of_heap hbx 4
    simp only [List.getElem?_toArray, List.getElem?_cons_zero, List.getElem?_cons_succ] at b0 b1 b2 b3 b4
    clear hbx
    by_cases hlt : j < 2
    · have hi' : (j : Int) < (2 : Int) := by omega
      have hjl : j < ags.length := by have := HA.out.1; omega
      obtain ⟨rfl, hc1, hc2⟩ := HA.out.2.1 (by have := HA.out.1; omega)
      rw [HA.out.1] at hc1
      unfold maxLen at hc2
      obtain ⟨k1, s1, xa1, xl1, na1, ca1, nl1, cl1, o1, sb, c0, c1, c2, c3', c4', hv1⟩ := (HA.out.2.2.1 j hjl).carry (keeps_of hBw HA.out.2.2.2.2.1) (fun _ h => h) |>.open_
      have hsb := HA.out.2.2.2.2.1 _ sb
      have hga : ga < wr.heap.size := by omega
      have CD : Hid (∀ W, Below (w.heap.size + 1) wr W → Calls Tryd.prog 29 #[.agg #[.int .i64 k1, .string s1, .slice xa1 na1 ca1, .slice xl1 nl1 cl1, .bool o1]] W fun e w' => e = .returned (.bool (mayB ags[j])) ∧ Below (w.heap.size + 1) wr w') := Lib.hid fun W hW => by
        have hws := hW.size
        have h9 := tySum_at hjl
        have h8 := HA.out.2.2.2.1
        refine (HA.out.2.2.2.2.2.1 S k1 s1 (.slice xa1 na1 ca1) (.slice xl1 nl1 cl1) o1 W ags[j] (by omega) hf (HA.out.2.2.2.2.2.2 _ (List.getElem_mem hjl)) (fun b hb => by have := HA.out.2.2.2.2.1 b hb; omega) (hv1.carry (keeps_of (hW.mono (Nat.le_succ _)) HA.out.2.2.2.2.1) fun _ h => h)).mono ?_
        rintro e w' ⟨rfl, hB'⟩
        exact ⟨rfl, hW.trans (hB'.mono (by omega))⟩
      clear hv1 sb
      by_cases hmj : TyMay ags[j]
      · rw [mayB_yes hmj] at CD
        have HJ := Lib.hid hmj
        clear hmj
        go_wp2_with (go_at_call 29; with_reducible refine (CD.out _ ((Below.refl _ _).alloc (by omega) _)).mono ?_; rintro e9 w9 ⟨rfl, hB9⟩)
        go_roundg (2 - (j + 1))
        case measure => omega
        case rel => exact ⟨j + 1, rfl, hlt, by first | rfl | simp, fun i h hi => by
          rcases Nat.lt_or_ge i j with h2 | h2
          · exact HM.out i h h2
          · obtain rfl : i = j := by omega
            exact HJ.out, hB.trans hB9⟩
      · rw [mayB_no hmj] at CD
        have HJ := Lib.hid (mayB_no (t := .mk 2 ⟨#[45, 62]⟩ ags [] false) fun h => hmj (may_args h _ (List.getElem_mem hjl)))
        clear hmj
        go_wp2_with (go_at_call 29; with_reducible refine (CD.out _ ((Below.refl _ _).alloc (by omega) _)).mono ?_; rintro e9 w9 ⟨rfl, hB9⟩)
        go_ret
        exact ⟨by rw [HJ.out]; rfl, hBw.trans (hB9.mono (by omega))⟩
    · have hi' : ¬ (j : Int) < (2 : Int) := by omega
      obtain rfl : j = 2 := by omega
      have hall : ∀ x ∈ ags, TyMay x := fun x hx => by
        obtain ⟨i, hi, rfl⟩ := List.getElem_of_mem hx
        exact HM.out i hi (by have := HA.out.1; omega)
      have HR := Lib.hid (mayB_yes (t := .mk 2 ⟨#[45, 62]⟩ ags [] false) (.mk ⟨_, _, _, _, _, rfl, by rw [HA.out.1]; simp [shapes]⟩ hall))
      clear hall
      go_wp2_with fail
      go_ret
      exact ⟨by rw [HR.out]; rfl, hBw⟩

set_option linter.unusedVariables false in
set_option maxHeartbeats 2000000 in
set_option maxRecDepth 100000 in
theorem may_mn (f : Nat) (ih : RefMay f) (hf : f ≤ 900000) (S : Nat → Prop) (x3 x4 : Option Addr) (c3 c4 : Nat) (w : World) (ags : List Ty) (ga oa gl ol : Nat) (hna : ags.length = 2) (hsz : tySum ags ≤ f) (hka : ∀ x ∈ ags, KT x) (hS : ∀ b, S b → b < w.heap.size)
    (ha : Sl S (.slice x3 2 c3) ags.length ga oa) (hl : Sl S (.slice x4 2 c4) 2 gl ol) (hs : ∀ i (h : i < ags.length), TyAt w S ga (oa + i * 5) ags[i]) (hls : ∀ i (h : i < ([⟨#[109]⟩, ⟨#[110]⟩] : List ByteArray).length), w.cell? ⟨gl, ol + i, none⟩ = some (.string ([⟨#[109]⟩, ⟨#[110]⟩] : List ByteArray)[i])) :
    Calls Tryd.prog 29 #[.agg #[.int .i64 3, .string ⟨#[]⟩, .slice x3 2 c3, .slice x4 2 c4, .bool false]] w fun e w' => e = .returned (.bool (mayB (.mk 3 ⟨#[]⟩ ags [⟨#[109]⟩, ⟨#[110]⟩] false))) ∧ Below w.heap.size w w' := by
  have hsh : 0 < ags.length → x3 = some ⟨ga, oa, none⟩ ∧ ags.length ≤ c3 ∧ c3 ≤ maxLen := fun h => by
    rcases ha with ⟨h1, h2⟩ | ⟨cap, h1, h2, h3, _⟩
    · omega
    · simp only [Value.slice.injEq] at h1
      obtain ⟨rfl, _, rfl⟩ := h1
      exact ⟨rfl, h2, h3⟩
  have hlh : x4 = some ⟨gl, ol, none⟩ ∧ 2 ≤ c4 ∧ c4 ≤ maxLen ∧ S gl := by
    rcases hl with ⟨h1, h2⟩ | ⟨cap, h1, h2, h3, h4⟩
    · omega
    · simp only [Value.slice.injEq] at h1
      obtain ⟨rfl, _, rfl⟩ := h1
      exact ⟨rfl, h2, h3, h4⟩
  obtain ⟨rfl, hl1, hl2, hl3⟩ := hlh
  have hgl := hS _ hl3
  unfold maxLen at hl2
  have l0 : w.cell? ⟨gl, ol, none⟩ = some (.string ⟨#[109]⟩) := hls 0 (by decide)
  have l1 : w.cell? ⟨gl, ol + 1, none⟩ = some (.string ⟨#[110]⟩) := hls 1 (by decide)
  have HA := Lib.hid (And.intro hna (And.intro hsh (And.intro hs (And.intro hsz (And.intro hS (And.intro ih hka))))))
  clear ha hl hs hls hsh hna hsz ih hS hka
  go_enter Tryd.func29, Tryd.ntmps29
  go_wp2_with fail
  obtain ⟨W1, hW1⟩ : ∃ W1, w.alloc (.cells #[.int .i64 3, .string ⟨#[]⟩, .slice x3 2 c3, .slice (some ⟨gl, ol, none⟩) 2 c4, .bool false] 37) = W1 := ⟨_, rfl⟩
  rw [hW1]
  have hs1 : W1.heap.size = w.heap.size + 1 := by rw [← hW1]; simp
  have hBw1 : Below w.heap.size w W1 := by rw [← hW1]; exact (Below.refl _ w).alloc (Nat.le_refl _) _
  have hbx : W1.heap[w.heap.size]? = some (.cells #[.int .i64 3, .string ⟨#[]⟩, .slice x3 2 c3, .slice (some ⟨gl, ol, none⟩) 2 c4, .bool false] 37) := by rw [← hW1]; exact heap_last rfl
  have HBX := Lib.hid hbx
  clear hW1 hbx
  go_loopg [11] 2 (fun gk i wr => ∃ j, gk = 2 - j ∧ j ≤ 2 ∧ i = .int .i64 j ∧ (∀ i (h : i < ags.length), i < j → TyMay ags[i]) ∧ Below (w.heap.size + 1) W1 wr)
  case atStart => exact ⟨0, rfl, Nat.zero_le _, rfl, fun _ _ h => absurd h (Nat.not_lt_zero _), Below.refl _ _⟩
  case round =>
    obtain ⟨j, rfl, hj, rfl, hm, hB⟩ := hrel
    have hbs := hB.size
    have hBw : Below w.heap.size w wr := hBw1.trans (hB.mono (by omega))
    have HM := Lib.hid hm
    clear hm
    have hbx := (hB.block w.heap.size (by omega)).trans HBX.out
    have b0 := Lib.cell_of_heap hbx 0
    have b1 := Lib.cell_of_heap hbx 1
    have b2 := Lib.cell_of_heap hbx 2
    have b3 := Lib.cell_of_heap hbx 3
    have b4 := Lib.cell_of_heap hbx 4
    simp only [List.getElem?_toArray, List.getElem?_cons_zero, List.getElem?_cons_succ] at b0 b1 b2 b3 b4
    clear hbx
    by_cases hlt : j < 2
    · have hi' : (j : Int) < (2 : Int) := by omega
      have hjl : j < ags.length := by have := HA.out.1; omega
      obtain ⟨rfl, hc1, hc2⟩ := HA.out.2.1 (by have := HA.out.1; omega)
      rw [HA.out.1] at hc1
      unfold maxLen at hc2
      obtain ⟨k1, s1, xa1, xl1, na1, ca1, nl1, cl1, o1, sb, c0, c1, c2, c3', c4', hv1⟩ := (HA.out.2.2.1 j hjl).carry (keeps_of hBw HA.out.2.2.2.2.1) (fun _ h => h) |>.open_
      have hsb := HA.out.2.2.2.2.1 _ sb
      have hga : ga < wr.heap.size := by omega
      have CD : Hid (∀ W, Below (w.heap.size + 1) wr W → Calls Tryd.prog 29 #[.agg #[.int .i64 k1, .string s1, .slice xa1 na1 ca1, .slice xl1 nl1 cl1, .bool o1]] W fun e w' => e = .returned (.bool (mayB ags[j])) ∧ Below (w.heap.size + 1) wr w') := Lib.hid fun W hW => by
        have hws := hW.size
        have h9 := tySum_at hjl
        have h8 := HA.out.2.2.2.1
        refine (HA.out.2.2.2.2.2.1 S k1 s1 (.slice xa1 na1 ca1) (.slice xl1 nl1 cl1) o1 W ags[j] (by omega) hf (HA.out.2.2.2.2.2.2 _ (List.getElem_mem hjl)) (fun b hb => by have := HA.out.2.2.2.2.1 b hb; omega) (hv1.carry (keeps_of (hW.mono (Nat.le_succ _)) HA.out.2.2.2.2.1) fun _ h => h)).mono ?_
        rintro e w' ⟨rfl, hB'⟩
        exact ⟨rfl, hW.trans (hB'.mono (by omega))⟩
      clear hv1 sb
      by_cases hmj : TyMay ags[j]
      · rw [mayB_yes hmj] at CD
        have HJ := Lib.hid hmj
        clear hmj
        go_wp2_with (go_at_call 29; with_reducible refine (CD.out _ ((Below.refl _ _).alloc (by omega) _)).mono ?_; rintro e9 w9 ⟨rfl, hB9⟩)
        go_roundg (2 - (j + 1))
        case measure => omega
        case rel => exact ⟨j + 1, rfl, hlt, by first | rfl | simp, fun i h hi => by
          rcases Nat.lt_or_ge i j with h2 | h2
          · exact HM.out i h h2
          · obtain rfl : i = j := by omega
            exact HJ.out, hB.trans hB9⟩
      · rw [mayB_no hmj] at CD
        have HJ := Lib.hid (mayB_no (t := .mk 3 ⟨#[]⟩ ags [⟨#[109]⟩, ⟨#[110]⟩] false) fun h => hmj (may_args h _ (List.getElem_mem hjl)))
        clear hmj
        go_wp2_with (go_at_call 29; with_reducible refine (CD.out _ ((Below.refl _ _).alloc (by omega) _)).mono ?_; rintro e9 w9 ⟨rfl, hB9⟩)
        go_ret
        exact ⟨by rw [HJ.out]; rfl, hBw.trans (hB9.mono (by omega))⟩
    · have hi' : ¬ (j : Int) < (2 : Int) := by omega
      obtain rfl : j = 2 := by omega
      have hall : ∀ x ∈ ags, TyMay x := fun x hx => by
        obtain ⟨i, hi, rfl⟩ := List.getElem_of_mem hx
        exact HM.out i hi (by have := HA.out.1; omega)
      have HR := Lib.hid (mayB_yes (t := .mk 3 ⟨#[]⟩ ags [⟨#[109]⟩, ⟨#[110]⟩] false) (.mk ⟨_, _, _, _, _, rfl, by rw [HA.out.1]; simp [shapes]⟩ hall))
      clear hall
      have m0 := (hBw.cell (p := ⟨gl, ol, none⟩) hgl).trans l0
      have m1 := (hBw.cell (p := ⟨gl, ol + 1, none⟩) hgl).trans l1
      obtain ⟨wz, rfl⟩ : ∃ wz, wz = wr := ⟨_, rfl⟩
      go_wp2_with fail
      go_loopg [93] 2 (fun gk i wr => ∃ j, gk = 2 - j ∧ j ≤ 2 ∧ i = .int .i64 j ∧ wr = wz)
      case atStart => exact ⟨0, rfl, Nat.zero_le _, rfl, rfl⟩
      case round =>
        obtain ⟨j, rfl, hj, rfl, rfl⟩ := hrel
        have hj2 : j = 0 ∨ j = 1 ∨ j = 2 := by omega
        rcases hj2 with rfl | rfl | rfl
        · go_wp2_with (go_at_call 39; refine (refName_at 109 _ (by decide)).mono ?_; rintro e w' ⟨rfl, rfl⟩)
          go_roundg 1
          case measure => omega
          case rel => exact ⟨1, rfl, by omega, by first | rfl | simp, rfl⟩
        · have zlt : Op.bytesLess (⟨#[109]⟩ : ByteArray).toList (⟨#[110]⟩ : ByteArray).toList = true := by rw [Lib.toList_data, Lib.toList_data]; decide
          go_wp2_with (go_at_call 39; refine (refName_at 110 _ (by decide)).mono ?_; rintro e w' ⟨rfl, rfl⟩)
          go_roundg 0
          case measure => omega
          case rel => exact ⟨2, rfl, by omega, by first | rfl | simp, rfl⟩
        · go_wp2_with fail
          go_ret
          exact ⟨by rw [HR.out]; rfl, hBw⟩

set_option linter.unusedVariables false in
set_option maxHeartbeats 2000000 in
set_option maxRecDepth 100000 in
theorem may_as (f : Nat) (ih : RefMay f) (hf : f ≤ 900000) (S : Nat → Prop) (x3 x4 : Option Addr) (c3 c4 : Nat) (w : World) (ags : List Ty) (ga oa gl ol : Nat) (hna : ags.length = 1) (hsz : tySum ags ≤ f) (hka : ∀ x ∈ ags, KT x) (hS : ∀ b, S b → b < w.heap.size)
    (ha : Sl S (.slice x3 1 c3) ags.length ga oa) (hl : Sl S (.slice x4 0 c4) 0 gl ol) (hs : ∀ i (h : i < ags.length), TyAt w S ga (oa + i * 5) ags[i]) (hls : ∀ i (h : i < ([] : List ByteArray).length), w.cell? ⟨gl, ol + i, none⟩ = some (.string ([] : List ByteArray)[i])) :
    Calls Tryd.prog 29 #[.agg #[.int .i64 4, .string ⟨#[97]⟩, .slice x3 1 c3, .slice x4 0 c4, .bool false]] w fun e w' => e = .returned (.bool (mayB (.mk 4 ⟨#[97]⟩ ags [] false))) ∧ Below w.heap.size w w' := by
  have hsh : 0 < ags.length → x3 = some ⟨ga, oa, none⟩ ∧ ags.length ≤ c3 ∧ c3 ≤ maxLen := fun h => by
    rcases ha with ⟨h1, h2⟩ | ⟨cap, h1, h2, h3, _⟩
    · omega
    · simp only [Value.slice.injEq] at h1
      obtain ⟨rfl, _, rfl⟩ := h1
      exact ⟨rfl, h2, h3⟩
  have HA := Lib.hid (And.intro hna (And.intro hsh (And.intro hs (And.intro hsz (And.intro hS (And.intro ih hka))))))
  clear ha hl hs hls hsh hna hsz ih hS hka
  go_enter Tryd.func29, Tryd.ntmps29
  go_wp2_with fail
  obtain ⟨W1, hW1⟩ : ∃ W1, w.alloc (.cells #[.int .i64 4, .string ⟨#[97]⟩, .slice x3 1 c3, .slice x4 0 c4, .bool false] 37) = W1 := ⟨_, rfl⟩
  rw [hW1]
  have hs1 : W1.heap.size = w.heap.size + 1 := by rw [← hW1]; simp
  have hBw1 : Below w.heap.size w W1 := by rw [← hW1]; exact (Below.refl _ w).alloc (Nat.le_refl _) _
  have hbx : W1.heap[w.heap.size]? = some (.cells #[.int .i64 4, .string ⟨#[97]⟩, .slice x3 1 c3, .slice x4 0 c4, .bool false] 37) := by rw [← hW1]; exact heap_last rfl
  have HBX := Lib.hid hbx
  clear hW1 hbx
  go_loopg [11] 1 (fun gk i wr => ∃ j, gk = 1 - j ∧ j ≤ 1 ∧ i = .int .i64 j ∧ (∀ i (h : i < ags.length), i < j → TyMay ags[i]) ∧ Below (w.heap.size + 1) W1 wr)
  case atStart => exact ⟨0, rfl, Nat.zero_le _, rfl, fun _ _ h => absurd h (Nat.not_lt_zero _), Below.refl _ _⟩
  case round =>
    obtain ⟨j, rfl, hj, rfl, hm, hB⟩ := hrel
    have hbs := hB.size
    have hBw : Below w.heap.size w wr := hBw1.trans (hB.mono (by omega))
    have HM := Lib.hid hm
    clear hm
    have hbx := (hB.block w.heap.size (by omega)).trans HBX.out
    have b0 := Lib.cell_of_heap hbx 0
    have b1 := Lib.cell_of_heap hbx 1
    have b2 := Lib.cell_of_heap hbx 2
    have b3 := Lib.cell_of_heap hbx 3
    have b4 := Lib.cell_of_heap hbx 4
    simp only [List.getElem?_toArray, List.getElem?_cons_zero, List.getElem?_cons_succ] at b0 b1 b2 b3 b4
    clear hbx
    by_cases hlt : j < 1
    · have hi' : (j : Int) < (1 : Int) := by omega
      have hjl : j < ags.length := by have := HA.out.1; omega
      obtain ⟨rfl, hc1, hc2⟩ := HA.out.2.1 (by have := HA.out.1; omega)
      rw [HA.out.1] at hc1
      unfold maxLen at hc2
      obtain ⟨k1, s1, xa1, xl1, na1, ca1, nl1, cl1, o1, sb, c0, c1, c2, c3', c4', hv1⟩ := (HA.out.2.2.1 j hjl).carry (keeps_of hBw HA.out.2.2.2.2.1) (fun _ h => h) |>.open_
      have hsb := HA.out.2.2.2.2.1 _ sb
      have hga : ga < wr.heap.size := by omega
      have CD : Hid (∀ W, Below (w.heap.size + 1) wr W → Calls Tryd.prog 29 #[.agg #[.int .i64 k1, .string s1, .slice xa1 na1 ca1, .slice xl1 nl1 cl1, .bool o1]] W fun e w' => e = .returned (.bool (mayB ags[j])) ∧ Below (w.heap.size + 1) wr w') := Lib.hid fun W hW => by
        have hws := hW.size
        have h9 := tySum_at hjl
        have h8 := HA.out.2.2.2.1
        refine (HA.out.2.2.2.2.2.1 S k1 s1 (.slice xa1 na1 ca1) (.slice xl1 nl1 cl1) o1 W ags[j] (by omega) hf (HA.out.2.2.2.2.2.2 _ (List.getElem_mem hjl)) (fun b hb => by have := HA.out.2.2.2.2.1 b hb; omega) (hv1.carry (keeps_of (hW.mono (Nat.le_succ _)) HA.out.2.2.2.2.1) fun _ h => h)).mono ?_
        rintro e w' ⟨rfl, hB'⟩
        exact ⟨rfl, hW.trans (hB'.mono (by omega))⟩
      clear hv1 sb
      by_cases hmj : TyMay ags[j]
      · rw [mayB_yes hmj] at CD
        have HJ := Lib.hid hmj
        clear hmj
        go_wp2_with (go_at_call 29; with_reducible refine (CD.out _ ((Below.refl _ _).alloc (by omega) _)).mono ?_; rintro e9 w9 ⟨rfl, hB9⟩)
        go_roundg (1 - (j + 1))
        case measure => omega
        case rel => exact ⟨j + 1, rfl, hlt, by first | rfl | simp, fun i h hi => by
          rcases Nat.lt_or_ge i j with h2 | h2
          · exact HM.out i h h2
          · obtain rfl : i = j := by omega
            exact HJ.out, hB.trans hB9⟩
      · rw [mayB_no hmj] at CD
        have HJ := Lib.hid (mayB_no (t := .mk 4 ⟨#[97]⟩ ags [] false) fun h => hmj (may_args h _ (List.getElem_mem hjl)))
        clear hmj
        go_wp2_with (go_at_call 29; with_reducible refine (CD.out _ ((Below.refl _ _).alloc (by omega) _)).mono ?_; rintro e9 w9 ⟨rfl, hB9⟩)
        go_ret
        exact ⟨by rw [HJ.out]; rfl, hBw.trans (hB9.mono (by omega))⟩
    · have hi' : ¬ (j : Int) < (1 : Int) := by omega
      obtain rfl : j = 1 := by omega
      have hall : ∀ x ∈ ags, TyMay x := fun x hx => by
        obtain ⟨i, hi, rfl⟩ := List.getElem_of_mem hx
        exact HM.out i hi (by have := HA.out.1; omega)
      have HR := Lib.hid (mayB_yes (t := .mk 4 ⟨#[97]⟩ ags [] false) (.mk ⟨_, _, _, _, _, rfl, by rw [HA.out.1]; simp [shapes]⟩ hall))
      clear hall
      go_wp2_with (go_at_call 38; refine (refIsWord_a _).mono ?_; rintro e w' ⟨rfl, rfl⟩)
      go_ret
      exact ⟨by rw [HR.out]; rfl, hBw⟩

set_option linter.unusedVariables false in
set_option maxHeartbeats 2000000 in
set_option maxRecDepth 100000 in
theorem may_mo (f : Nat) (ih : RefMay f) (hf : f ≤ 900000) (S : Nat → Prop) (x3 x4 : Option Addr) (c3 c4 : Nat) (w : World) (ags : List Ty) (ga oa gl ol : Nat) (hna : ags.length = 1) (hsz : tySum ags ≤ f) (hka : ∀ x ∈ ags, KT x) (hS : ∀ b, S b → b < w.heap.size)
    (ha : Sl S (.slice x3 1 c3) ags.length ga oa) (hl : Sl S (.slice x4 1 c4) 1 gl ol) (hs : ∀ i (h : i < ags.length), TyAt w S ga (oa + i * 5) ags[i]) (hls : ∀ i (h : i < ([⟨#[109]⟩] : List ByteArray).length), w.cell? ⟨gl, ol + i, none⟩ = some (.string ([⟨#[109]⟩] : List ByteArray)[i])) :
    Calls Tryd.prog 29 #[.agg #[.int .i64 3, .string ⟨#[]⟩, .slice x3 1 c3, .slice x4 1 c4, .bool true]] w fun e w' => e = .returned (.bool (mayB (.mk 3 ⟨#[]⟩ ags [⟨#[109]⟩] true))) ∧ Below w.heap.size w w' := by
  have hsh : 0 < ags.length → x3 = some ⟨ga, oa, none⟩ ∧ ags.length ≤ c3 ∧ c3 ≤ maxLen := fun h => by
    rcases ha with ⟨h1, h2⟩ | ⟨cap, h1, h2, h3, _⟩
    · omega
    · simp only [Value.slice.injEq] at h1
      obtain ⟨rfl, _, rfl⟩ := h1
      exact ⟨rfl, h2, h3⟩
  have hlh : x4 = some ⟨gl, ol, none⟩ ∧ 1 ≤ c4 ∧ c4 ≤ maxLen ∧ S gl := by
    rcases hl with ⟨h1, h2⟩ | ⟨cap, h1, h2, h3, h4⟩
    · omega
    · simp only [Value.slice.injEq] at h1
      obtain ⟨rfl, _, rfl⟩ := h1
      exact ⟨rfl, h2, h3, h4⟩
  obtain ⟨rfl, hl1, hl2, hl3⟩ := hlh
  have hgl := hS _ hl3
  unfold maxLen at hl2
  have l0 : w.cell? ⟨gl, ol, none⟩ = some (.string ⟨#[109]⟩) := hls 0 (by decide)
  have HA := Lib.hid (And.intro hna (And.intro hsh (And.intro hs (And.intro hsz (And.intro hS (And.intro ih hka))))))
  clear ha hl hs hls hsh hna hsz ih hS hka
  go_enter Tryd.func29, Tryd.ntmps29
  go_wp2_with fail
  obtain ⟨W1, hW1⟩ : ∃ W1, w.alloc (.cells #[.int .i64 3, .string ⟨#[]⟩, .slice x3 1 c3, .slice (some ⟨gl, ol, none⟩) 1 c4, .bool true] 37) = W1 := ⟨_, rfl⟩
  rw [hW1]
  have hs1 : W1.heap.size = w.heap.size + 1 := by rw [← hW1]; simp
  have hBw1 : Below w.heap.size w W1 := by rw [← hW1]; exact (Below.refl _ w).alloc (Nat.le_refl _) _
  have hbx : W1.heap[w.heap.size]? = some (.cells #[.int .i64 3, .string ⟨#[]⟩, .slice x3 1 c3, .slice (some ⟨gl, ol, none⟩) 1 c4, .bool true] 37) := by rw [← hW1]; exact heap_last rfl
  have HBX := Lib.hid hbx
  clear hW1 hbx
  go_loopg [11] 1 (fun gk i wr => ∃ j, gk = 1 - j ∧ j ≤ 1 ∧ i = .int .i64 j ∧ (∀ i (h : i < ags.length), i < j → TyMay ags[i]) ∧ Below (w.heap.size + 1) W1 wr)
  case atStart => exact ⟨0, rfl, Nat.zero_le _, rfl, fun _ _ h => absurd h (Nat.not_lt_zero _), Below.refl _ _⟩
  case round =>
    obtain ⟨j, rfl, hj, rfl, hm, hB⟩ := hrel
    have hbs := hB.size
    have hBw : Below w.heap.size w wr := hBw1.trans (hB.mono (by omega))
    have HM := Lib.hid hm
    clear hm
    have hbx := (hB.block w.heap.size (by omega)).trans HBX.out
    have b0 := Lib.cell_of_heap hbx 0
    have b1 := Lib.cell_of_heap hbx 1
    have b2 := Lib.cell_of_heap hbx 2
    have b3 := Lib.cell_of_heap hbx 3
    have b4 := Lib.cell_of_heap hbx 4
    simp only [List.getElem?_toArray, List.getElem?_cons_zero, List.getElem?_cons_succ] at b0 b1 b2 b3 b4
    clear hbx
    by_cases hlt : j < 1
    · have hi' : (j : Int) < (1 : Int) := by omega
      have hjl : j < ags.length := by have := HA.out.1; omega
      obtain ⟨rfl, hc1, hc2⟩ := HA.out.2.1 (by have := HA.out.1; omega)
      rw [HA.out.1] at hc1
      unfold maxLen at hc2
      obtain ⟨k1, s1, xa1, xl1, na1, ca1, nl1, cl1, o1, sb, c0, c1, c2, c3', c4', hv1⟩ := (HA.out.2.2.1 j hjl).carry (keeps_of hBw HA.out.2.2.2.2.1) (fun _ h => h) |>.open_
      have hsb := HA.out.2.2.2.2.1 _ sb
      have hga : ga < wr.heap.size := by omega
      have CD : Hid (∀ W, Below (w.heap.size + 1) wr W → Calls Tryd.prog 29 #[.agg #[.int .i64 k1, .string s1, .slice xa1 na1 ca1, .slice xl1 nl1 cl1, .bool o1]] W fun e w' => e = .returned (.bool (mayB ags[j])) ∧ Below (w.heap.size + 1) wr w') := Lib.hid fun W hW => by
        have hws := hW.size
        have h9 := tySum_at hjl
        have h8 := HA.out.2.2.2.1
        refine (HA.out.2.2.2.2.2.1 S k1 s1 (.slice xa1 na1 ca1) (.slice xl1 nl1 cl1) o1 W ags[j] (by omega) hf (HA.out.2.2.2.2.2.2 _ (List.getElem_mem hjl)) (fun b hb => by have := HA.out.2.2.2.2.1 b hb; omega) (hv1.carry (keeps_of (hW.mono (Nat.le_succ _)) HA.out.2.2.2.2.1) fun _ h => h)).mono ?_
        rintro e w' ⟨rfl, hB'⟩
        exact ⟨rfl, hW.trans (hB'.mono (by omega))⟩
      clear hv1 sb
      by_cases hmj : TyMay ags[j]
      · rw [mayB_yes hmj] at CD
        have HJ := Lib.hid hmj
        clear hmj
        go_wp2_with (go_at_call 29; with_reducible refine (CD.out _ ((Below.refl _ _).alloc (by omega) _)).mono ?_; rintro e9 w9 ⟨rfl, hB9⟩)
        go_roundg (1 - (j + 1))
        case measure => omega
        case rel => exact ⟨j + 1, rfl, hlt, by first | rfl | simp, fun i h hi => by
          rcases Nat.lt_or_ge i j with h2 | h2
          · exact HM.out i h h2
          · obtain rfl : i = j := by omega
            exact HJ.out, hB.trans hB9⟩
      · rw [mayB_no hmj] at CD
        have HJ := Lib.hid (mayB_no (t := .mk 3 ⟨#[]⟩ ags [⟨#[109]⟩] true) fun h => hmj (may_args h _ (List.getElem_mem hjl)))
        clear hmj
        go_wp2_with (go_at_call 29; with_reducible refine (CD.out _ ((Below.refl _ _).alloc (by omega) _)).mono ?_; rintro e9 w9 ⟨rfl, hB9⟩)
        go_ret
        exact ⟨by rw [HJ.out]; rfl, hBw.trans (hB9.mono (by omega))⟩
    · have hi' : ¬ (j : Int) < (1 : Int) := by omega
      obtain rfl : j = 1 := by omega
      have hall : ∀ x ∈ ags, TyMay x := fun x hx => by
        obtain ⟨i, hi, rfl⟩ := List.getElem_of_mem hx
        exact HM.out i hi (by have := HA.out.1; omega)
      have HR := Lib.hid (mayB_yes (t := .mk 3 ⟨#[]⟩ ags [⟨#[109]⟩] true) (.mk ⟨_, _, _, _, _, rfl, by rw [HA.out.1]; simp [shapes]⟩ hall))
      clear hall
      have m0 := (hBw.cell (p := ⟨gl, ol, none⟩) hgl).trans l0
      obtain ⟨wz, rfl⟩ : ∃ wz, wz = wr := ⟨_, rfl⟩
      go_wp2_with fail
      go_loopg [93] 1 (fun gk i wr => ∃ j, gk = 1 - j ∧ j ≤ 1 ∧ i = .int .i64 j ∧ wr = wz)
      case atStart => exact ⟨0, rfl, Nat.zero_le _, rfl, rfl⟩
      case round =>
        obtain ⟨j, rfl, hj, rfl, rfl⟩ := hrel
        have hj2 : j = 0 ∨ j = 1 := by omega
        rcases hj2 with rfl | rfl
        · go_wp2_with (go_at_call 39; refine (refName_at 109 _ (by decide)).mono ?_; rintro e w' ⟨rfl, rfl⟩)
          go_roundg 0
          case measure => omega
          case rel => exact ⟨1, rfl, by omega, by first | rfl | simp, rfl⟩
        · go_wp2_with fail
          go_ret
          exact ⟨by rw [HR.out]; rfl, hBw⟩

set_option linter.unusedVariables false in
set_option maxHeartbeats 2000000 in
set_option maxRecDepth 100000 in
theorem may_m (f : Nat) (ih : RefMay f) (hf : f ≤ 900000) (S : Nat → Prop) (x3 x4 : Option Addr) (c3 c4 : Nat) (w : World) (ags : List Ty) (ga oa gl ol : Nat) (hna : ags.length = 1) (hsz : tySum ags ≤ f) (hka : ∀ x ∈ ags, KT x) (hS : ∀ b, S b → b < w.heap.size)
    (ha : Sl S (.slice x3 1 c3) ags.length ga oa) (hl : Sl S (.slice x4 1 c4) 1 gl ol) (hs : ∀ i (h : i < ags.length), TyAt w S ga (oa + i * 5) ags[i]) (hls : ∀ i (h : i < ([⟨#[109]⟩] : List ByteArray).length), w.cell? ⟨gl, ol + i, none⟩ = some (.string ([⟨#[109]⟩] : List ByteArray)[i])) :
    Calls Tryd.prog 29 #[.agg #[.int .i64 3, .string ⟨#[]⟩, .slice x3 1 c3, .slice x4 1 c4, .bool false]] w fun e w' => e = .returned (.bool (mayB (.mk 3 ⟨#[]⟩ ags [⟨#[109]⟩] false))) ∧ Below w.heap.size w w' := by
  have hsh : 0 < ags.length → x3 = some ⟨ga, oa, none⟩ ∧ ags.length ≤ c3 ∧ c3 ≤ maxLen := fun h => by
    rcases ha with ⟨h1, h2⟩ | ⟨cap, h1, h2, h3, _⟩
    · omega
    · simp only [Value.slice.injEq] at h1
      obtain ⟨rfl, _, rfl⟩ := h1
      exact ⟨rfl, h2, h3⟩
  have hlh : x4 = some ⟨gl, ol, none⟩ ∧ 1 ≤ c4 ∧ c4 ≤ maxLen ∧ S gl := by
    rcases hl with ⟨h1, h2⟩ | ⟨cap, h1, h2, h3, h4⟩
    · omega
    · simp only [Value.slice.injEq] at h1
      obtain ⟨rfl, _, rfl⟩ := h1
      exact ⟨rfl, h2, h3, h4⟩
  obtain ⟨rfl, hl1, hl2, hl3⟩ := hlh
  have hgl := hS _ hl3
  unfold maxLen at hl2
  have l0 : w.cell? ⟨gl, ol, none⟩ = some (.string ⟨#[109]⟩) := hls 0 (by decide)
  have HA := Lib.hid (And.intro hna (And.intro hsh (And.intro hs (And.intro hsz (And.intro hS (And.intro ih hka))))))
  clear ha hl hs hls hsh hna hsz ih hS hka
  go_enter Tryd.func29, Tryd.ntmps29
  go_wp2_with fail
  obtain ⟨W1, hW1⟩ : ∃ W1, w.alloc (.cells #[.int .i64 3, .string ⟨#[]⟩, .slice x3 1 c3, .slice (some ⟨gl, ol, none⟩) 1 c4, .bool false] 37) = W1 := ⟨_, rfl⟩
  rw [hW1]
  have hs1 : W1.heap.size = w.heap.size + 1 := by rw [← hW1]; simp
  have hBw1 : Below w.heap.size w W1 := by rw [← hW1]; exact (Below.refl _ w).alloc (Nat.le_refl _) _
  have hbx : W1.heap[w.heap.size]? = some (.cells #[.int .i64 3, .string ⟨#[]⟩, .slice x3 1 c3, .slice (some ⟨gl, ol, none⟩) 1 c4, .bool false] 37) := by rw [← hW1]; exact heap_last rfl
  have HBX := Lib.hid hbx
  clear hW1 hbx
  go_loopg [11] 1 (fun gk i wr => ∃ j, gk = 1 - j ∧ j ≤ 1 ∧ i = .int .i64 j ∧ (∀ i (h : i < ags.length), i < j → TyMay ags[i]) ∧ Below (w.heap.size + 1) W1 wr)
  case atStart => exact ⟨0, rfl, Nat.zero_le _, rfl, fun _ _ h => absurd h (Nat.not_lt_zero _), Below.refl _ _⟩
  case round =>
    obtain ⟨j, rfl, hj, rfl, hm, hB⟩ := hrel
    have hbs := hB.size
    have hBw : Below w.heap.size w wr := hBw1.trans (hB.mono (by omega))
    have HM := Lib.hid hm
    clear hm
    have hbx := (hB.block w.heap.size (by omega)).trans HBX.out
    have b0 := Lib.cell_of_heap hbx 0
    have b1 := Lib.cell_of_heap hbx 1
    have b2 := Lib.cell_of_heap hbx 2
    have b3 := Lib.cell_of_heap hbx 3
    have b4 := Lib.cell_of_heap hbx 4
    simp only [List.getElem?_toArray, List.getElem?_cons_zero, List.getElem?_cons_succ] at b0 b1 b2 b3 b4
    clear hbx
    by_cases hlt : j < 1
    · have hi' : (j : Int) < (1 : Int) := by omega
      have hjl : j < ags.length := by have := HA.out.1; omega
      obtain ⟨rfl, hc1, hc2⟩ := HA.out.2.1 (by have := HA.out.1; omega)
      rw [HA.out.1] at hc1
      unfold maxLen at hc2
      obtain ⟨k1, s1, xa1, xl1, na1, ca1, nl1, cl1, o1, sb, c0, c1, c2, c3', c4', hv1⟩ := (HA.out.2.2.1 j hjl).carry (keeps_of hBw HA.out.2.2.2.2.1) (fun _ h => h) |>.open_
      have hsb := HA.out.2.2.2.2.1 _ sb
      have hga : ga < wr.heap.size := by omega
      have CD : Hid (∀ W, Below (w.heap.size + 1) wr W → Calls Tryd.prog 29 #[.agg #[.int .i64 k1, .string s1, .slice xa1 na1 ca1, .slice xl1 nl1 cl1, .bool o1]] W fun e w' => e = .returned (.bool (mayB ags[j])) ∧ Below (w.heap.size + 1) wr w') := Lib.hid fun W hW => by
        have hws := hW.size
        have h9 := tySum_at hjl
        have h8 := HA.out.2.2.2.1
        refine (HA.out.2.2.2.2.2.1 S k1 s1 (.slice xa1 na1 ca1) (.slice xl1 nl1 cl1) o1 W ags[j] (by omega) hf (HA.out.2.2.2.2.2.2 _ (List.getElem_mem hjl)) (fun b hb => by have := HA.out.2.2.2.2.1 b hb; omega) (hv1.carry (keeps_of (hW.mono (Nat.le_succ _)) HA.out.2.2.2.2.1) fun _ h => h)).mono ?_
        rintro e w' ⟨rfl, hB'⟩
        exact ⟨rfl, hW.trans (hB'.mono (by omega))⟩
      clear hv1 sb
      by_cases hmj : TyMay ags[j]
      · rw [mayB_yes hmj] at CD
        have HJ := Lib.hid hmj
        clear hmj
        go_wp2_with (go_at_call 29; with_reducible refine (CD.out _ ((Below.refl _ _).alloc (by omega) _)).mono ?_; rintro e9 w9 ⟨rfl, hB9⟩)
        go_roundg (1 - (j + 1))
        case measure => omega
        case rel => exact ⟨j + 1, rfl, hlt, by first | rfl | simp, fun i h hi => by
          rcases Nat.lt_or_ge i j with h2 | h2
          · exact HM.out i h h2
          · obtain rfl : i = j := by omega
            exact HJ.out, hB.trans hB9⟩
      · rw [mayB_no hmj] at CD
        have HJ := Lib.hid (mayB_no (t := .mk 3 ⟨#[]⟩ ags [⟨#[109]⟩] false) fun h => hmj (may_args h _ (List.getElem_mem hjl)))
        clear hmj
        go_wp2_with (go_at_call 29; with_reducible refine (CD.out _ ((Below.refl _ _).alloc (by omega) _)).mono ?_; rintro e9 w9 ⟨rfl, hB9⟩)
        go_ret
        exact ⟨by rw [HJ.out]; rfl, hBw.trans (hB9.mono (by omega))⟩
    · have hi' : ¬ (j : Int) < (1 : Int) := by omega
      obtain rfl : j = 1 := by omega
      have hall : ∀ x ∈ ags, TyMay x := fun x hx => by
        obtain ⟨i, hi, rfl⟩ := List.getElem_of_mem hx
        exact HM.out i hi (by have := HA.out.1; omega)
      have HR := Lib.hid (mayB_yes (t := .mk 3 ⟨#[]⟩ ags [⟨#[109]⟩] false) (.mk ⟨_, _, _, _, _, rfl, by rw [HA.out.1]; simp [shapes]⟩ hall))
      clear hall
      have m0 := (hBw.cell (p := ⟨gl, ol, none⟩) hgl).trans l0
      obtain ⟨wz, rfl⟩ : ∃ wz, wz = wr := ⟨_, rfl⟩
      go_wp2_with fail
      go_loopg [93] 1 (fun gk i wr => ∃ j, gk = 1 - j ∧ j ≤ 1 ∧ i = .int .i64 j ∧ wr = wz)
      case atStart => exact ⟨0, rfl, Nat.zero_le _, rfl, rfl⟩
      case round =>
        obtain ⟨j, rfl, hj, rfl, rfl⟩ := hrel
        have hj2 : j = 0 ∨ j = 1 := by omega
        rcases hj2 with rfl | rfl
        · go_wp2_with (go_at_call 39; refine (refName_at 109 _ (by decide)).mono ?_; rintro e w' ⟨rfl, rfl⟩)
          go_roundg 0
          case measure => omega
          case rel => exact ⟨1, rfl, by omega, by first | rfl | simp, rfl⟩
        · go_wp2_with fail
          go_ret
          exact ⟨by rw [HR.out]; rfl, hBw⟩

set_option linter.unusedVariables false in
set_option maxHeartbeats 2000000 in
set_option maxRecDepth 100000 in
theorem may_e (f : Nat) (ih : RefMay f) (hf : f ≤ 900000) (S : Nat → Prop) (x3 x4 : Option Addr) (c3 c4 : Nat) (w : World) (ags : List Ty) (ga oa gl ol : Nat) (hna : ags.length = 0) (hsz : tySum ags ≤ f) (hka : ∀ x ∈ ags, KT x) (hS : ∀ b, S b → b < w.heap.size)
    (ha : Sl S (.slice x3 0 c3) ags.length ga oa) (hl : Sl S (.slice x4 0 c4) 0 gl ol) (hs : ∀ i (h : i < ags.length), TyAt w S ga (oa + i * 5) ags[i]) (hls : ∀ i (h : i < ([] : List ByteArray).length), w.cell? ⟨gl, ol + i, none⟩ = some (.string ([] : List ByteArray)[i])) :
    Calls Tryd.prog 29 #[.agg #[.int .i64 3, .string ⟨#[]⟩, .slice x3 0 c3, .slice x4 0 c4, .bool true]] w fun e w' => e = .returned (.bool (mayB (.mk 3 ⟨#[]⟩ ags [] true))) ∧ Below w.heap.size w w' := by
  have hsh : 0 < ags.length → x3 = some ⟨ga, oa, none⟩ ∧ ags.length ≤ c3 ∧ c3 ≤ maxLen := fun h => by
    rcases ha with ⟨h1, h2⟩ | ⟨cap, h1, h2, h3, _⟩
    · omega
    · simp only [Value.slice.injEq] at h1
      obtain ⟨rfl, _, rfl⟩ := h1
      exact ⟨rfl, h2, h3⟩
  have HA := Lib.hid (And.intro hna (And.intro hsh (And.intro hs (And.intro hsz (And.intro hS (And.intro ih hka))))))
  clear ha hl hs hls hsh hna hsz ih hS hka
  go_enter Tryd.func29, Tryd.ntmps29
  go_wp2_with fail
  obtain ⟨W1, hW1⟩ : ∃ W1, w.alloc (.cells #[.int .i64 3, .string ⟨#[]⟩, .slice x3 0 c3, .slice x4 0 c4, .bool true] 37) = W1 := ⟨_, rfl⟩
  rw [hW1]
  have hs1 : W1.heap.size = w.heap.size + 1 := by rw [← hW1]; simp
  have hBw1 : Below w.heap.size w W1 := by rw [← hW1]; exact (Below.refl _ w).alloc (Nat.le_refl _) _
  have hbx : W1.heap[w.heap.size]? = some (.cells #[.int .i64 3, .string ⟨#[]⟩, .slice x3 0 c3, .slice x4 0 c4, .bool true] 37) := by rw [← hW1]; exact heap_last rfl
  have HBX := Lib.hid hbx
  clear hW1 hbx
  go_loopg [11] 0 (fun gk i wr => ∃ j, gk = 0 - j ∧ j ≤ 0 ∧ i = .int .i64 j ∧ (∀ i (h : i < ags.length), i < j → TyMay ags[i]) ∧ Below (w.heap.size + 1) W1 wr)
  case atStart => exact ⟨0, rfl, Nat.zero_le _, rfl, fun _ _ h => absurd h (Nat.not_lt_zero _), Below.refl _ _⟩
  case round =>
    obtain ⟨j, rfl, hj, rfl, hm, hB⟩ := hrel
    have hbs := hB.size
    have hBw : Below w.heap.size w wr := hBw1.trans (hB.mono (by omega))
    have HM := Lib.hid hm
    clear hm
    have hbx := (hB.block w.heap.size (by omega)).trans HBX.out
    have b0 := Lib.cell_of_heap hbx 0
    have b1 := Lib.cell_of_heap hbx 1
    have b2 := Lib.cell_of_heap hbx 2
    have b3 := Lib.cell_of_heap hbx 3
    have b4 := Lib.cell_of_heap hbx 4
    simp only [List.getElem?_toArray, List.getElem?_cons_zero, List.getElem?_cons_succ] at b0 b1 b2 b3 b4
    clear hbx
    · obtain rfl : j = 0 := by omega
      have hall : ∀ x ∈ ags, TyMay x := fun x hx => by
        obtain ⟨i, hi, rfl⟩ := List.getElem_of_mem hx
        exact HM.out i hi (by have := HA.out.1; omega)
      have HR := Lib.hid (mayB_yes (t := .mk 3 ⟨#[]⟩ ags [] true) (.mk ⟨_, _, _, _, _, rfl, by rw [HA.out.1]; simp [shapes]⟩ hall))
      clear hall
      obtain ⟨wz, rfl⟩ : ∃ wz, wz = wr := ⟨_, rfl⟩
      go_wp2_with fail
      go_loopw [93] (fun i wr => i = .int .i64 0 ∧ wr = wz) (fun _ _ => 0)
      case atStart => exact ⟨rfl, rfl⟩
      case round =>
        obtain ⟨rfl, rfl⟩ := hrel
        go_wp2_with fail
        go_ret
        exact ⟨by rw [HR.out]; rfl, hBw⟩

set_option linter.unusedVariables false in
set_option maxHeartbeats 2000000 in
set_option maxRecDepth 100000 in
theorem may_nm (f : Nat) (ih : RefMay f) (hf : f ≤ 900000) (S : Nat → Prop) (x3 x4 : Option Addr) (c3 c4 : Nat) (w : World) (ags : List Ty) (ga oa gl ol : Nat) (hna : ags.length = 2) (hsz : tySum ags ≤ f) (hka : ∀ x ∈ ags, KT x) (hS : ∀ b, S b → b < w.heap.size)
    (ha : Sl S (.slice x3 2 c3) ags.length ga oa) (hl : Sl S (.slice x4 2 c4) 2 gl ol) (hs : ∀ i (h : i < ags.length), TyAt w S ga (oa + i * 5) ags[i]) (hls : ∀ i (h : i < ([⟨#[110]⟩, ⟨#[109]⟩] : List ByteArray).length), w.cell? ⟨gl, ol + i, none⟩ = some (.string ([⟨#[110]⟩, ⟨#[109]⟩] : List ByteArray)[i])) :
    Calls Tryd.prog 29 #[.agg #[.int .i64 3, .string ⟨#[]⟩, .slice x3 2 c3, .slice x4 2 c4, .bool false]] w fun e w' => e = .returned (.bool (mayB (.mk 3 ⟨#[]⟩ ags [⟨#[110]⟩, ⟨#[109]⟩] false))) ∧ Below w.heap.size w w' := by
  have hsh : 0 < ags.length → x3 = some ⟨ga, oa, none⟩ ∧ ags.length ≤ c3 ∧ c3 ≤ maxLen := fun h => by
    rcases ha with ⟨h1, h2⟩ | ⟨cap, h1, h2, h3, _⟩
    · omega
    · simp only [Value.slice.injEq] at h1
      obtain ⟨rfl, _, rfl⟩ := h1
      exact ⟨rfl, h2, h3⟩
  have hlh : x4 = some ⟨gl, ol, none⟩ ∧ 2 ≤ c4 ∧ c4 ≤ maxLen ∧ S gl := by
    rcases hl with ⟨h1, h2⟩ | ⟨cap, h1, h2, h3, h4⟩
    · omega
    · simp only [Value.slice.injEq] at h1
      obtain ⟨rfl, _, rfl⟩ := h1
      exact ⟨rfl, h2, h3, h4⟩
  obtain ⟨rfl, hl1, hl2, hl3⟩ := hlh
  have hgl := hS _ hl3
  unfold maxLen at hl2
  have l0 : w.cell? ⟨gl, ol, none⟩ = some (.string ⟨#[110]⟩) := hls 0 (by decide)
  have l1 : w.cell? ⟨gl, ol + 1, none⟩ = some (.string ⟨#[109]⟩) := hls 1 (by decide)
  have HA := Lib.hid (And.intro hna (And.intro hsh (And.intro hs (And.intro hsz (And.intro hS (And.intro ih hka))))))
  clear ha hl hs hls hsh hna hsz ih hS hka
  go_enter Tryd.func29, Tryd.ntmps29
  go_wp2_with fail
  obtain ⟨W1, hW1⟩ : ∃ W1, w.alloc (.cells #[.int .i64 3, .string ⟨#[]⟩, .slice x3 2 c3, .slice (some ⟨gl, ol, none⟩) 2 c4, .bool false] 37) = W1 := ⟨_, rfl⟩
  rw [hW1]
  have hs1 : W1.heap.size = w.heap.size + 1 := by rw [← hW1]; simp
  have hBw1 : Below w.heap.size w W1 := by rw [← hW1]; exact (Below.refl _ w).alloc (Nat.le_refl _) _
  have hbx : W1.heap[w.heap.size]? = some (.cells #[.int .i64 3, .string ⟨#[]⟩, .slice x3 2 c3, .slice (some ⟨gl, ol, none⟩) 2 c4, .bool false] 37) := by rw [← hW1]; exact heap_last rfl
  have HBX := Lib.hid hbx
  clear hW1 hbx
  go_loopg [11] 2 (fun gk i wr => ∃ j, gk = 2 - j ∧ j ≤ 2 ∧ i = .int .i64 j ∧ (∀ i (h : i < ags.length), i < j → TyMay ags[i]) ∧ Below (w.heap.size + 1) W1 wr)
  case atStart => exact ⟨0, rfl, Nat.zero_le _, rfl, fun _ _ h => absurd h (Nat.not_lt_zero _), Below.refl _ _⟩
  case round =>
    obtain ⟨j, rfl, hj, rfl, hm, hB⟩ := hrel
    have hbs := hB.size
    have hBw : Below w.heap.size w wr := hBw1.trans (hB.mono (by omega))
    have HM := Lib.hid hm
    clear hm
    have hbx := (hB.block w.heap.size (by omega)).trans HBX.out
    have b0 := Lib.cell_of_heap hbx 0
    have b1 := Lib.cell_of_heap hbx 1
    have b2 := Lib.cell_of_heap hbx 2
    have b3 := Lib.cell_of_heap hbx 3
    have b4 := Lib.cell_of_heap hbx 4
    simp only [List.getElem?_toArray, List.getElem?_cons_zero, List.getElem?_cons_succ] at b0 b1 b2 b3 b4
    clear hbx
    by_cases hlt : j < 2
    · have hi' : (j : Int) < (2 : Int) := by omega
      have hjl : j < ags.length := by have := HA.out.1; omega
      obtain ⟨rfl, hc1, hc2⟩ := HA.out.2.1 (by have := HA.out.1; omega)
      rw [HA.out.1] at hc1
      unfold maxLen at hc2
      obtain ⟨k1, s1, xa1, xl1, na1, ca1, nl1, cl1, o1, sb, c0, c1, c2, c3', c4', hv1⟩ := (HA.out.2.2.1 j hjl).carry (keeps_of hBw HA.out.2.2.2.2.1) (fun _ h => h) |>.open_
      have hsb := HA.out.2.2.2.2.1 _ sb
      have hga : ga < wr.heap.size := by omega
      have CD : Hid (∀ W, Below (w.heap.size + 1) wr W → Calls Tryd.prog 29 #[.agg #[.int .i64 k1, .string s1, .slice xa1 na1 ca1, .slice xl1 nl1 cl1, .bool o1]] W fun e w' => e = .returned (.bool (mayB ags[j])) ∧ Below (w.heap.size + 1) wr w') := Lib.hid fun W hW => by
        have hws := hW.size
        have h9 := tySum_at hjl
        have h8 := HA.out.2.2.2.1
        refine (HA.out.2.2.2.2.2.1 S k1 s1 (.slice xa1 na1 ca1) (.slice xl1 nl1 cl1) o1 W ags[j] (by omega) hf (HA.out.2.2.2.2.2.2 _ (List.getElem_mem hjl)) (fun b hb => by have := HA.out.2.2.2.2.1 b hb; omega) (hv1.carry (keeps_of (hW.mono (Nat.le_succ _)) HA.out.2.2.2.2.1) fun _ h => h)).mono ?_
        rintro e w' ⟨rfl, hB'⟩
        exact ⟨rfl, hW.trans (hB'.mono (by omega))⟩
      clear hv1 sb
      by_cases hmj : TyMay ags[j]
      · rw [mayB_yes hmj] at CD
        have HJ := Lib.hid hmj
        clear hmj
        go_wp2_with (go_at_call 29; with_reducible refine (CD.out _ ((Below.refl _ _).alloc (by omega) _)).mono ?_; rintro e9 w9 ⟨rfl, hB9⟩)
        go_roundg (2 - (j + 1))
        case measure => omega
        case rel => exact ⟨j + 1, rfl, hlt, by first | rfl | simp, fun i h hi => by
          rcases Nat.lt_or_ge i j with h2 | h2
          · exact HM.out i h h2
          · obtain rfl : i = j := by omega
            exact HJ.out, hB.trans hB9⟩
      · rw [mayB_no hmj] at CD
        have HJ := Lib.hid (mayB_no (t := .mk 3 ⟨#[]⟩ ags [⟨#[110]⟩, ⟨#[109]⟩] false) fun h => hmj (may_args h _ (List.getElem_mem hjl)))
        clear hmj
        go_wp2_with (go_at_call 29; with_reducible refine (CD.out _ ((Below.refl _ _).alloc (by omega) _)).mono ?_; rintro e9 w9 ⟨rfl, hB9⟩)
        go_ret
        exact ⟨by rw [HJ.out]; rfl, hBw.trans (hB9.mono (by omega))⟩
    · have hi' : ¬ (j : Int) < (2 : Int) := by omega
      obtain rfl : j = 2 := by omega
      have hall : ∀ x ∈ ags, TyMay x := fun x hx => by
        obtain ⟨i, hi, rfl⟩ := List.getElem_of_mem hx
        exact HM.out i hi (by have := HA.out.1; omega)
      have HR := Lib.hid (mayB_no (t := .mk 3 ⟨#[]⟩ ags [⟨#[110]⟩, ⟨#[109]⟩] false) fun h => shaped_no (may_head h) ⟨_, _, _, _, _, rfl, by rw [HA.out.1]; simp [shapes]⟩)
      clear hall
      have m0 := (hBw.cell (p := ⟨gl, ol, none⟩) hgl).trans l0
      have m1 := (hBw.cell (p := ⟨gl, ol + 1, none⟩) hgl).trans l1
      obtain ⟨wz, rfl⟩ : ∃ wz, wz = wr := ⟨_, rfl⟩
      go_wp2_with fail
      go_loopg [93] 2 (fun gk i wr => ∃ j, gk = 2 - j ∧ j ≤ 1 ∧ i = .int .i64 j ∧ wr = wz)
      case atStart => exact ⟨0, rfl, Nat.zero_le _, rfl, rfl⟩
      case round =>
        obtain ⟨j, rfl, hj, rfl, rfl⟩ := hrel
        have hj2 : j = 0 ∨ j = 1 := by omega
        rcases hj2 with rfl | rfl
        · go_wp2_with (go_at_call 39; refine (refName_at 110 _ (by decide)).mono ?_; rintro e w' ⟨rfl, rfl⟩)
          go_roundg 1
          case measure => omega
          case rel => exact ⟨1, rfl, by omega, by first | rfl | simp, rfl⟩
        · have zlt : Op.bytesLess (⟨#[110]⟩ : ByteArray).toList (⟨#[109]⟩ : ByteArray).toList = false := by rw [Lib.toList_data, Lib.toList_data]; decide
          go_wp2_with (go_at_call 39; refine (refName_at 109 _ (by decide)).mono ?_; rintro e w' ⟨rfl, rfl⟩)
          go_ret
          exact ⟨by rw [HR.out]; rfl, hBw⟩

set_option linter.unusedVariables false in
set_option maxHeartbeats 2000000 in
set_option maxRecDepth 100000 in
theorem may_star (f : Nat) (ih : RefMay f) (hf : f ≤ 900000) (S : Nat → Prop) (x3 x4 : Option Addr) (c3 c4 : Nat) (w : World) (ags : List Ty) (ga oa gl ol : Nat) (hna : ags.length = 1) (hsz : tySum ags ≤ f) (hka : ∀ x ∈ ags, KT x) (hS : ∀ b, S b → b < w.heap.size)
    (ha : Sl S (.slice x3 1 c3) ags.length ga oa) (hl : Sl S (.slice x4 0 c4) 0 gl ol) (hs : ∀ i (h : i < ags.length), TyAt w S ga (oa + i * 5) ags[i]) (hls : ∀ i (h : i < ([] : List ByteArray).length), w.cell? ⟨gl, ol + i, none⟩ = some (.string ([] : List ByteArray)[i])) :
    Calls Tryd.prog 29 #[.agg #[.int .i64 2, .string ⟨#[42]⟩, .slice x3 1 c3, .slice x4 0 c4, .bool false]] w fun e w' => e = .returned (.bool (mayB (.mk 2 ⟨#[42]⟩ ags [] false))) ∧ Below w.heap.size w w' := by
  have hsh : 0 < ags.length → x3 = some ⟨ga, oa, none⟩ ∧ ags.length ≤ c3 ∧ c3 ≤ maxLen := fun h => by
    rcases ha with ⟨h1, h2⟩ | ⟨cap, h1, h2, h3, _⟩
    · omega
    · simp only [Value.slice.injEq] at h1
      obtain ⟨rfl, _, rfl⟩ := h1
      exact ⟨rfl, h2, h3⟩
  have HA := Lib.hid (And.intro hna (And.intro hsh (And.intro hs (And.intro hsz (And.intro hS (And.intro ih hka))))))
  clear ha hl hs hls hsh hna hsz ih hS hka
  go_enter Tryd.func29, Tryd.ntmps29
  go_wp2_with fail
  obtain ⟨W1, hW1⟩ : ∃ W1, w.alloc (.cells #[.int .i64 2, .string ⟨#[42]⟩, .slice x3 1 c3, .slice x4 0 c4, .bool false] 37) = W1 := ⟨_, rfl⟩
  rw [hW1]
  have hs1 : W1.heap.size = w.heap.size + 1 := by rw [← hW1]; simp
  have hBw1 : Below w.heap.size w W1 := by rw [← hW1]; exact (Below.refl _ w).alloc (Nat.le_refl _) _
  have hbx : W1.heap[w.heap.size]? = some (.cells #[.int .i64 2, .string ⟨#[42]⟩, .slice x3 1 c3, .slice x4 0 c4, .bool false] 37) := by rw [← hW1]; exact heap_last rfl
  have HBX := Lib.hid hbx
  clear hW1 hbx
  go_loopg [11] 1 (fun gk i wr => ∃ j, gk = 1 - j ∧ j ≤ 1 ∧ i = .int .i64 j ∧ (∀ i (h : i < ags.length), i < j → TyMay ags[i]) ∧ Below (w.heap.size + 1) W1 wr)
  case atStart => exact ⟨0, rfl, Nat.zero_le _, rfl, fun _ _ h => absurd h (Nat.not_lt_zero _), Below.refl _ _⟩
  case round =>
    obtain ⟨j, rfl, hj, rfl, hm, hB⟩ := hrel
    have hbs := hB.size
    have hBw : Below w.heap.size w wr := hBw1.trans (hB.mono (by omega))
    have HM := Lib.hid hm
    clear hm
    have hbx := (hB.block w.heap.size (by omega)).trans HBX.out
    have b0 := Lib.cell_of_heap hbx 0
    have b1 := Lib.cell_of_heap hbx 1
    have b2 := Lib.cell_of_heap hbx 2
    have b3 := Lib.cell_of_heap hbx 3
    have b4 := Lib.cell_of_heap hbx 4
    simp only [List.getElem?_toArray, List.getElem?_cons_zero, List.getElem?_cons_succ] at b0 b1 b2 b3 b4
    clear hbx
    by_cases hlt : j < 1
    · have hi' : (j : Int) < (1 : Int) := by omega
      have hjl : j < ags.length := by have := HA.out.1; omega
      obtain ⟨rfl, hc1, hc2⟩ := HA.out.2.1 (by have := HA.out.1; omega)
      rw [HA.out.1] at hc1
      unfold maxLen at hc2
      obtain ⟨k1, s1, xa1, xl1, na1, ca1, nl1, cl1, o1, sb, c0, c1, c2, c3', c4', hv1⟩ := (HA.out.2.2.1 j hjl).carry (keeps_of hBw HA.out.2.2.2.2.1) (fun _ h => h) |>.open_
      have hsb := HA.out.2.2.2.2.1 _ sb
      have hga : ga < wr.heap.size := by omega
      have CD : Hid (∀ W, Below (w.heap.size + 1) wr W → Calls Tryd.prog 29 #[.agg #[.int .i64 k1, .string s1, .slice xa1 na1 ca1, .slice xl1 nl1 cl1, .bool o1]] W fun e w' => e = .returned (.bool (mayB ags[j])) ∧ Below (w.heap.size + 1) wr w') := Lib.hid fun W hW => by
        have hws := hW.size
        have h9 := tySum_at hjl
        have h8 := HA.out.2.2.2.1
        refine (HA.out.2.2.2.2.2.1 S k1 s1 (.slice xa1 na1 ca1) (.slice xl1 nl1 cl1) o1 W ags[j] (by omega) hf (HA.out.2.2.2.2.2.2 _ (List.getElem_mem hjl)) (fun b hb => by have := HA.out.2.2.2.2.1 b hb; omega) (hv1.carry (keeps_of (hW.mono (Nat.le_succ _)) HA.out.2.2.2.2.1) fun _ h => h)).mono ?_
        rintro e w' ⟨rfl, hB'⟩
        exact ⟨rfl, hW.trans (hB'.mono (by omega))⟩
      clear hv1 sb
      by_cases hmj : TyMay ags[j]
      · rw [mayB_yes hmj] at CD
        have HJ := Lib.hid hmj
        clear hmj
        go_wp2_with (go_at_call 29; with_reducible refine (CD.out _ ((Below.refl _ _).alloc (by omega) _)).mono ?_; rintro e9 w9 ⟨rfl, hB9⟩)
        go_roundg (1 - (j + 1))
        case measure => omega
        case rel => exact ⟨j + 1, rfl, hlt, by first | rfl | simp, fun i h hi => by
          rcases Nat.lt_or_ge i j with h2 | h2
          · exact HM.out i h h2
          · obtain rfl : i = j := by omega
            exact HJ.out, hB.trans hB9⟩
      · rw [mayB_no hmj] at CD
        have HJ := Lib.hid (mayB_no (t := .mk 2 ⟨#[42]⟩ ags [] false) fun h => hmj (may_args h _ (List.getElem_mem hjl)))
        clear hmj
        go_wp2_with (go_at_call 29; with_reducible refine (CD.out _ ((Below.refl _ _).alloc (by omega) _)).mono ?_; rintro e9 w9 ⟨rfl, hB9⟩)
        go_ret
        exact ⟨by rw [HJ.out]; rfl, hBw.trans (hB9.mono (by omega))⟩
    · have hi' : ¬ (j : Int) < (1 : Int) := by omega
      obtain rfl : j = 1 := by omega
      have hall : ∀ x ∈ ags, TyMay x := fun x hx => by
        obtain ⟨i, hi, rfl⟩ := List.getElem_of_mem hx
        exact HM.out i hi (by have := HA.out.1; omega)
      have HR := Lib.hid (mayB_no (t := .mk 2 ⟨#[42]⟩ ags [] false) fun h => shaped_no (may_head h) ⟨_, _, _, _, _, rfl, by rw [HA.out.1]; simp [shapes]⟩)
      clear hall
      go_wp2_with fail
      go_ret
      exact ⟨by rw [HR.out]; rfl, hBw⟩


/-- mayType, at the types that there are. -/
theorem refMay : ∀ f, RefMay f
  | 0 => fun _ _ _ _ _ _ _ t h => by have := tySize_pos t; omega
  | f + 1 => fun S k s va vl op w t hsz hf hk hS ht => by
    have ih := refMay f
    obtain ⟨_, _, _, _, _, ags, lbs, ga, oa, gl, ol, e1, rfl, ha, hl, hs, hls⟩ := ht
    simp only [List.cons.injEq, Value.int.injEq, Value.string.injEq, Value.bool.injEq, true_and, and_true] at e1
    obtain ⟨rfl, rfl, rfl, rfl, rfl⟩ := e1
    obtain ⟨x3, c3, rfl, _⟩ := ha.shape
    obtain ⟨x4, c4, rfl, _⟩ := hl.shape
    rw [tySize_mk] at hsz
    cases hk with
    | mk r hsp hka =>
    obtain ⟨_, _, _, _, _, e, hm⟩ := hsp
    cases e
    obtain ⟨n, hn⟩ : ∃ n, ags.length = n := ⟨_, rfl⟩
    rw [hn] at hm
    simp only [shapes, List.mem_cons, Prod.mk.injEq, List.not_mem_nil, or_false] at hm
    rcases hm with ⟨rfl, rfl, hq, rfl, rfl, rfl⟩ | ⟨rfl, rfl, hq, rfl, rfl, rfl⟩ | ⟨rfl, rfl, hq, rfl, rfl, rfl⟩ | ⟨rfl, rfl, hq, rfl, rfl, rfl⟩ | ⟨rfl, rfl, hq, rfl, rfl, rfl⟩ | ⟨rfl, rfl, hq, rfl, rfl, rfl⟩ | ⟨rfl, rfl, hq, rfl, rfl, rfl⟩ | ⟨rfl, rfl, hq, rfl, rfl, rfl⟩ | ⟨rfl, rfl, hq, rfl, rfl, rfl⟩ | ⟨rfl, rfl, hq, rfl, rfl, rfl⟩
    · have hn2 := hn.trans hq
      rw [hn2]; rw [hn2] at ha
      exact may_int f ih (by omega) S x3 x4 c3 c4 w ags ga oa gl ol hn2 (by omega) hka hS (by rw [hn2]; exact ha) hl hs hls
    · have hn2 := hn.trans hq
      rw [hn2]; rw [hn2] at ha
      exact may_a f ih (by omega) S x3 x4 c3 c4 w ags ga oa gl ol hn2 (by omega) hka hS (by rw [hn2]; exact ha) hl hs hls
    · have hn2 := hn.trans hq
      rw [hn2]; rw [hn2] at ha
      exact may_arrow f ih (by omega) S x3 x4 c3 c4 w ags ga oa gl ol hn2 (by omega) hka hS (by rw [hn2]; exact ha) hl hs hls
    · have hn2 := hn.trans hq
      rw [hn2]; rw [hn2] at ha
      exact may_mn f ih (by omega) S x3 x4 c3 c4 w ags ga oa gl ol hn2 (by omega) hka hS (by rw [hn2]; exact ha) hl hs hls
    · have hn2 := hn.trans hq
      rw [hn2]; rw [hn2] at ha
      exact may_as f ih (by omega) S x3 x4 c3 c4 w ags ga oa gl ol hn2 (by omega) hka hS (by rw [hn2]; exact ha) hl hs hls
    · have hn2 := hn.trans hq
      rw [hn2]; rw [hn2] at ha
      exact may_mo f ih (by omega) S x3 x4 c3 c4 w ags ga oa gl ol hn2 (by omega) hka hS (by rw [hn2]; exact ha) hl hs hls
    · have hn2 := hn.trans hq
      rw [hn2]; rw [hn2] at ha
      exact may_m f ih (by omega) S x3 x4 c3 c4 w ags ga oa gl ol hn2 (by omega) hka hS (by rw [hn2]; exact ha) hl hs hls
    · have hn2 := hn.trans hq
      rw [hn2]; rw [hn2] at ha
      exact may_e f ih (by omega) S x3 x4 c3 c4 w ags ga oa gl ol hn2 (by omega) hka hS (by rw [hn2]; exact ha) hl hs hls
    · have hn2 := hn.trans hq
      rw [hn2]; rw [hn2] at ha
      exact may_nm f ih (by omega) S x3 x4 c3 c4 w ags ga oa gl ol hn2 (by omega) hka hS (by rw [hn2]; exact ha) hl hs hls
    · have hn2 := hn.trans hq
      rw [hn2]; rw [hn2] at ha
      exact may_star f ih (by omega) S x3 x4 c3 c4 w ags ga oa gl ol hn2 (by omega) hka hS (by rw [hn2]; exact ha) hl hs hls

theorem errT_may (t : Ty) : errT t = if mayB t = true then (if 200 < tyDeep t then 4 else 0) else 2 := by
  by_cases h : TyMay t
  · by_cases hd : 200 < tyDeep t
    · rw [errT_deep h hd, mayB_yes h, if_pos rfl, if_pos hd]
    · rw [errT_ok h hd, mayB_yes h, if_pos rfl, if_neg hd]
  · rw [errT_no h, mayB_no h]; rfl

set_option maxHeartbeats 1000000 in
set_option maxRecDepth 100000 in
/-- trefoilref02.CheckType. -/
theorem refCheckType_any (S : Nat → Prop) (k : Int) (s : ByteArray) (va vl : Value) (op : Bool) (w : World) (t : Ty) (hsz : tySize t ≤ 900000) (hk : KT t) (hS : ∀ b, S b → b < w.heap.size)
    (ht : TyV w S [.int .i64 k, .string s, va, vl, .bool op] t) :
    Calls Tryd.prog 17 #[.agg #[.int .i64 k, .string s, va, vl, .bool op]] w (ctGives w t) := by
  have CM : Hid (∀ V, Below w.heap.size w V → Calls Tryd.prog 29 #[.agg #[.int .i64 k, .string s, va, vl, .bool op]] V fun e w' => e = .returned (.bool (mayB t)) ∧ Below V.heap.size V w') := Lib.hid fun V hV => by
    have hv := hV.size
    exact refMay 900000 S k s va vl op V t hsz (Nat.le_refl _) hk (fun b hb => by have := hS b hb; omega) (ht.carry (keeps_of hV hS) fun _ h => h)
  have CD : Hid (∀ V, Below w.heap.size w V → Calls Tryd.prog 30 #[.agg #[.int .i64 k, .string s, va, vl, .bool op]] V fun e w' => e = .returned (.int .i64 (tyDeep t)) ∧ Below V.heap.size V w') := Lib.hid fun V hV => by
    have hv := hV.size
    exact refDeep 900000 S k s va vl op V t hsz (Nat.le_refl _) (fun b hb => by have := hS b hb; omega) (ht.carry (keeps_of hV hS) fun _ h => h)
  obtain ⟨_, _, _, _, _, ags, lbs, ga, oa, gl, ol, e1, rfl, ha, hl, hs, hls⟩ := ht
  simp only [List.cons.injEq, Value.int.injEq, Value.string.injEq, Value.bool.injEq, true_and, and_true] at e1
  obtain ⟨rfl, rfl, rfl, rfl, rfl⟩ := e1
  obtain ⟨x3, c3, rfl, _⟩ := ha.shape
  obtain ⟨x4, c4, rfl, _⟩ := hl.shape
  obtain ⟨na, hna⟩ : ∃ n, ags.length = n := ⟨_, rfl⟩
  obtain ⟨nl, hnl⟩ : ∃ n, lbs.length = n := ⟨_, rfl⟩
  have HE := Lib.hid (errT_may (.mk k s ags lbs op))
  obtain ⟨t, ht⟩ : ∃ t, Ty.mk k s ags lbs op = t := ⟨_, rfl⟩
  rw [ht] at CM CD HE ⊢
  rw [hna] at CM CD ⊢
  rw [hnl] at CM CD ⊢
  have hbox : Hid (Below w.heap.size w (w.alloc (.cells #[.int .i64 k, .string s, .slice x3 na c3, .slice x4 nl c4, .bool op] 37)) ∧ (w.alloc (.cells #[.int .i64 k, .string s, .slice x3 na c3, .slice x4 nl c4, .bool op] 37)).heap[w.heap.size]? = some (.cells #[.int .i64 k, .string s, .slice x3 na c3, .slice x4 nl c4, .bool op] 37)) := Lib.hid ⟨(Below.refl _ _).alloc (Nat.le_refl _) _, heap_last rfl⟩
  clear ha hl hs hls hna hnl ht hk hS hsz
  obtain ⟨d, hd⟩ : ∃ d, tyDeep t = d := ⟨_, rfl⟩
  rw [hd] at CD HE
  clear hd
  cases hm : mayB t with
  | false =>
    rw [hm] at CM HE
    have HE2 := Lib.hid (HE.out.trans rfl)
    clear HE hm CD
    go_enter Tryd.func17, Tryd.ntmps17
    go_wp2_with (go_at_call 29; with_reducible refine (CM.out _ hbox.out.1).mono ?_; rintro e9 w9 ⟨rfl, hB9⟩)
    go_ret
    exact ⟨by rw [HE2.out]; rfl, hbox.out.1.trans (hB9.mono (by simp))⟩
  | true =>
    rw [hm] at CM HE
    clear hm
    by_cases h2 : (200 : Int) < (d : Int)
    · have HE2 : Hid (errT t = 4) := Lib.hid (HE.out.trans (by rw [if_pos rfl, if_pos (by omega)]))
      have z : decide ((200 : Int) < (d : Int)) = true := decide_eq_true h2
      clear HE
      go_enter Tryd.func17, Tryd.ntmps17
      go_wp2_with (first | (go_at_call 29; (with_reducible refine (CM.out _ hbox.out.1).mono ?_); (rintro e9 w9 ⟨rfl, hB9⟩); (have hbx := (hB9.block w.heap.size (by simp)).trans hbox.out.2); (have b0 := Lib.cell_of_heap hbx 0); (have b1 := Lib.cell_of_heap hbx 1); (have b2 := Lib.cell_of_heap hbx 2); (have b3 := Lib.cell_of_heap hbx 3); (have b4 := Lib.cell_of_heap hbx 4); (simp only [List.getElem?_toArray, List.getElem?_cons_zero, List.getElem?_cons_succ] at b0 b1 b2 b3 b4); (clear hbx)) | (go_at_call 30; with_reducible refine (CD.out _ (hbox.out.1.trans (hB9.mono (by simp)))).mono ?_; rintro e8 w8 ⟨rfl, hB8⟩))
      go_ret
      exact ⟨by rw [HE2.out]; rfl, (hbox.out.1.trans (hB9.mono (by simp))).trans (hB8.mono (by have := hB9.size; simp at this; omega))⟩
    · have HE2 : Hid (errT t = 0) := Lib.hid (HE.out.trans (by rw [if_pos rfl, if_neg (by omega)]))
      have z : decide ((200 : Int) < (d : Int)) = false := decide_eq_false h2
      clear HE
      go_enter Tryd.func17, Tryd.ntmps17
      go_wp2_with (first | (go_at_call 29; (with_reducible refine (CM.out _ hbox.out.1).mono ?_); (rintro e9 w9 ⟨rfl, hB9⟩); (have hbx := (hB9.block w.heap.size (by simp)).trans hbox.out.2); (have b0 := Lib.cell_of_heap hbx 0); (have b1 := Lib.cell_of_heap hbx 1); (have b2 := Lib.cell_of_heap hbx 2); (have b3 := Lib.cell_of_heap hbx 3); (have b4 := Lib.cell_of_heap hbx 4); (simp only [List.getElem?_toArray, List.getElem?_cons_zero, List.getElem?_cons_succ] at b0 b1 b2 b3 b4); (clear hbx)) | (go_at_call 30; with_reducible refine (CD.out _ (hbox.out.1.trans (hB9.mono (by simp)))).mono ?_; rintro e8 w8 ⟨rfl, hB8⟩))
      go_ret
      exact ⟨by rw [HE2.out]; rfl, (hbox.out.1.trans (hB9.mono (by simp))).trans (hB8.mono (by have := hB9.size; simp at this; omega))⟩
end Go.Proofs.YtoopndgdaiblpaaDoor
