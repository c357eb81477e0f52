/- slices.Equal at two lists of strings, told whole. -/
import Derived.Test.YtkbmkmpoapafaaaDoorGh
import Derived.Lib.SlicesS
namespace Go.Proofs.YtkbmkmpoapafaaaDoor
open Go.ChangeShapes Go.WideShapes Go.ChangeAt Go.RowKit

/-- Whether two are the same. -/
noncomputable def same {α : Type} (a b : α) : Bool := @decide (a = b) (Classical.propDecidable _)
theorem same_self {α : Type} (a : α) : same a a = true := by simp [same]
theorem same_yes {α : Type} {a b : α} (h : a = b) : same a b = true := by simp [same, h]
theorem same_no {α : Type} {a b : α} (h : a ≠ b) : same a b = false := by simp [same, h]
theorem same_iff {α : Type} {a b : α} : same a b = true ↔ a = b := by simp [same]
theorem same_comm {α : Type} (a b : α) : same a b = same b a := by
  by_cases h : a = b
  · rw [h]
  · rw [same_no h, same_no (Ne.symm h)]

theorem take_step {α : Type} {l m : List α} {j : Nat} (hl : j < l.length) (hm : j < m.length) (h : l.take j = m.take j) (he : l[j] = m[j]) : l.take (j + 1) = m.take (j + 1) := by
  rw [List.take_succ_eq_append_getElem hl, List.take_succ_eq_append_getElem hm, h, he]

set_option maxRecDepth 100000 in
theorem eqs_any (S : Nat → Prop) (l m : List ByteArray) (v u : Value) (gl ol gm om : Nat) (w : World) (hv : Sl S v l.length gl ol) (hu : Sl S u m.length gm om)
    (hl : ∀ i (h : i < l.length), w.cell? ⟨gl, ol + i, none⟩ = some (.string l[i])) (hm : ∀ i (h : i < m.length), w.cell? ⟨gm, om + i, none⟩ = some (.string m[i])) :
    Calls Tryd.prog 45 #[v, u] w fun e w' => e = .returned (.bool (same l m)) ∧ ∃ q, w' = w.drewN q := by
  obtain ⟨x, c, rfl, hx⟩ := hv.shape
  obtain ⟨y, d, rfl, hy⟩ := hu.shape
  obtain ⟨n, hn⟩ : ∃ n, l.length = n := ⟨_, rfl⟩
  obtain ⟨p, hp⟩ : ∃ p, m.length = p := ⟨_, rfl⟩
  have HL := Lib.hid (And.intro hn (And.intro hl hx))
  have HM := Lib.hid (And.intro hp (And.intro hm hy))
  rw [hn, hp]
  clear hn hp hl hm hx hy hv hu
  by_cases hnp : n = p
  · subst hnp
    have z : ((n : Int) != (n : Int)) = false := by simp
    go_enter Tryd.func45, Tryd.ntmps45
    go_wp2_with fail
    go_loopg [13] n (fun gk i wr => ∃ j q, gk = n - j ∧ j ≤ n ∧ i = .int .i64 j ∧ wr = w.drewN q ∧ l.take j = m.take j)
    case atStart => exact ⟨0, 0, rfl, Nat.zero_le _, rfl, rfl, rfl⟩
    case round =>
      obtain ⟨j, q, rfl, hj, rfl, rfl, htk⟩ := hrel
      have HT := Lib.hid htk
      clear htk
      by_cases hlt : j < n
      · have hi' : (j : Int) < (n : Int) := by omega
        have hjl : j < l.length := by have := HL.out.1; omega
        have hjm : j < m.length := by have := HM.out.1; omega
        obtain ⟨rfl, hc1, hc2, _⟩ := HL.out.2.2 (by have := HL.out.1; omega)
        obtain ⟨rfl, hd1, hd2, _⟩ := HM.out.2.2 (by have := HM.out.1; omega)
        rw [HL.out.1] at hc1
        rw [HM.out.1] at hd1
        unfold maxLen at hc2 hd2
        have c1 := HL.out.2.1 j hjl
        have c2 := HM.out.2.1 j hjm
        obtain ⟨a, ha⟩ : ∃ a, l[j] = a := ⟨_, rfl⟩
        obtain ⟨b, hb⟩ : ∃ b, m[j] = b := ⟨_, rfl⟩
        rw [ha] at c1
        rw [hb] at c2
        have HAB := Lib.hid (And.intro ha hb)
        clear ha hb
        by_cases hab : a = b
        · have z2 : (a.toList == b.toList) = true := (Lib.bytes_beq_iff a b).2 hab
          have HE := Lib.hid hab
          clear hab
          go_wp2_with fail
          go_quiet (fail)
          go_wp2_with fail
          go_roundg (n - (j + 1))
          case measure => omega
          case rel => exact ⟨j + 1, _, rfl, hlt, by first | rfl | simp, by first | rfl | exact (World.drewN_drewN ..), take_step hjl hjm HT.out (by rw [HAB.out.1, HAB.out.2]; exact HE.out)⟩
        · have z2 : (a.toList == b.toList) = false := (Lib.bytes_beq_false_iff a b).2 hab
          have hne : l ≠ m := fun h => hab (by rw [← HAB.out.1, ← HAB.out.2]; simp [h])
          have HN := Lib.hid (same_no hne)
          clear hab hne
          go_wp2_with fail
          go_quiet (fail)
          go_wp2_with fail
          go_ret
          exact ⟨by rw [HN.out]; rfl, _, (World.drewN_drewN ..)⟩
      · have hi' : ¬ (j : Int) < (n : Int) := by omega
        have hjn : j = n := by omega
        have he : l = m := by
          have h := HT.out
          rw [hjn] at h
          have h1 := HL.out.1
          have h2 := HM.out.1
          rwa [← h1, List.take_length, h1, ← h2, List.take_length] at h
        have HN := Lib.hid (same_yes he)
        clear he hjn
        go_wp2_with fail
        go_ret
        exact ⟨by rw [HN.out]; rfl, _, rfl⟩
  · have z : ((n : Int) != (p : Int)) = true := by simp; omega
    have hne : l ≠ m := fun h => hnp (by rw [← HL.out.1, ← HM.out.1, h])
    have HN := Lib.hid (same_no hne)
    clear hne hnp
    go_enter Tryd.func45, Tryd.ntmps45
    go_wp2_with fail
    go_ret
    exact ⟨by rw [HN.out]; rfl, 0, rfl⟩
end Go.Proofs.YtkbmkmpoapafaaaDoor
