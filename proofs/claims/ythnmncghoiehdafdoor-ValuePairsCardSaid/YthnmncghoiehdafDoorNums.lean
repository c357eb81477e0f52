/- What the two tables of functions hold that nums and tests make, and what a look-up in them comes to. -/
import Derived.Test.YthnmncghoiehdafDoorRows
import Derived.WalkKit
import Derived.ProofKit
import Derived.OpenShut
import Derived.Carry
import Derived.MapKept
namespace Go.Proofs.YthnmncghoiehdafDoor
open Go.ChangeShapes Go.WideShapes Go.ChangeAt Go.RowKit

theorem set_push {α : Type} (h : Array α) (x y : α) : (h.push x).setIfInBounds h.size y = h.push y := by
  apply Array.ext'
  simp

theorem set_alloc (w : World) (o o' : Obj) : { w.alloc o with heap := (w.alloc o).heap.setIfInBounds w.heap.size o' } = w.alloc o' := by
  have h : (w.alloc o).heap = w.heap.push o := rfl
  rw [h, set_push]
  rfl

theorem heap_alloc (w : World) (o : Obj) : (w.alloc o).heap[w.heap.size]? = some o := by
  have h : (w.alloc o).heap = w.heap.push o := rfl
  rw [h]; simp

theorem check_string (T : TypeId) (h : Tryd.prog.underlying T = some .string) (b : Bool) (k : ByteArray) (w : World) : (Instr.checkKey b 10000 T (.string k)).run Tryd.prog w = .ok () w := by
  unfold Instr.checkKey
  simp [run_underlying h, Result.andThen]

theorem upd (M E : TypeId) (hM : Tryd.prog.underlying M = some (.map 9 E)) (w : World) (es : Array MapEntry) (c : Nat) (k : ByteArray) (v : Value) (hf : Instr.findNow .string (.string k) es.toList 0 = some none) :
    (Instr.mapUpdate M (.map (some w.heap.size)) (.string k) v).run Tryd.prog (w.alloc (.map es c)) = .ok () (w.alloc (.map (es.push { key := .string k, val := v, born := c }) (c + 1))) := by
  have hg := MapKept.run_getObj_map (P := Tryd.prog) (heap_alloc w (.map es c))
  have hs := fun o => MapKept.run_setObj_map (P := Tryd.prog) o (heap_alloc w (.map es c))
  simp [Instr.mapUpdate, run_underlying hM, hg, check_string 9 Tryd.underlying9, Instr.findKey, run_underlying Tryd.underlying9, hf, hs, Result.andThen]
  exact set_alloc _ _ _

theorem look (M E : TypeId) (hM : Tryd.prog.underlying M = some (.map 9 E)) (w : World) (es : Array MapEntry) (c : Nat) (k : ByteArray) (i : Nat) (v : Value) (hf : Instr.findNow .string (.string k) es.toList 0 = some (some (i, v))) :
    (Instr.lookup M (.map (some w.heap.size)) (.string k) true).run Tryd.prog (w.alloc (.map es c)) = .ok (.tuple #[v, .bool true]) (w.alloc (.map es c)) := by
  have hg := MapKept.run_getObj_map (P := Tryd.prog) (heap_alloc w (.map es c))
  simp [Instr.lookup, run_underlying hM, hg, check_string 9 Tryd.underlying9, Instr.findKey, run_underlying Tryd.underlying9, hf, Result.andThen]


/-- The table of the ops that come to a number. -/
def numEs : Array MapEntry := #[⟨.string ⟨#[43]⟩, .func (.func 23) #[] #[], 0⟩, ⟨.string ⟨#[45]⟩, .func (.func 24) #[] #[], 1⟩, ⟨.string ⟨#[42]⟩, .func (.func 25) #[] #[], 2⟩, ⟨.string ⟨#[47]⟩, .func (.func 26) #[] #[], 3⟩]

def numsIn (w : World) : World := w.alloc (.map numEs 4)

theorem nums_any (w : World) : Calls Tryd.prog 14 #[] w fun e w' => e = .returned (.map (some w.heap.size)) ∧ numsIn w = w' := by
  have h0 := run_makeMap (P := Tryd.prog) 49 w
  have h1 := upd 49 47 Tryd.underlying49 w #[] 0 ⟨#[43]⟩ (.func (.func 23) #[] #[]) rfl
  have h2 := upd 49 47 Tryd.underlying49 w (numEs.extract 0 1) 1 ⟨#[45]⟩ (.func (.func 24) #[] #[]) (by kernel_rfl)
  have h3 := upd 49 47 Tryd.underlying49 w (numEs.extract 0 2) 2 ⟨#[42]⟩ (.func (.func 25) #[] #[]) (by kernel_rfl)
  have h4 := upd 49 47 Tryd.underlying49 w (numEs.extract 0 3) 3 ⟨#[47]⟩ (.func (.func 26) #[] #[]) (by kernel_rfl)
  simp only [numEs, List.extract_toArray, List.extract_eq_take_drop, List.drop, List.take, List.push_toArray, List.nil_append, List.cons_append] at h1 h2 h3 h4
  go_enter Tryd.func14, Tryd.ntmps14
  go_wp2
  go_ret
  exact ⟨rfl, rfl⟩


theorem fadd (a b : Int) (w : World) : Calls Tryd.prog 23 #[.int .i64 a, .int .i64 b] w fun e w' => e = .returned (.int .i64 (wrap64 (a + b))) ∧ w = w' := by
  go_enter Tryd.func23, Tryd.ntmps23
  go_wp2
  go_ret
  exact ⟨rfl, rfl⟩

theorem fsub (a b : Int) (w : World) : Calls Tryd.prog 24 #[.int .i64 a, .int .i64 b] w fun e w' => e = .returned (.int .i64 (wrap64 (a - b))) ∧ w = w' := by
  go_enter Tryd.func24, Tryd.ntmps24
  go_wp2
  go_ret
  exact ⟨rfl, rfl⟩

theorem fmul (a b : Int) (w : World) : Calls Tryd.prog 25 #[.int .i64 a, .int .i64 b] w fun e w' => e = .returned (.int .i64 (wrap64 (a * b))) ∧ w = w' := by
  go_enter Tryd.func25, Tryd.ntmps25
  go_wp2
  go_ret
  exact ⟨rfl, rfl⟩



theorem fquo (a b : Int) (h : ¬b = 0) (w : World) : Calls Tryd.prog 26 #[.int .i64 a, .int .i64 b] w fun e w' => e = .returned (.int .i64 (wrap64 (a.tdiv b))) ∧ w = w' := by
  go_enter Tryd.func26, Tryd.ntmps26
  go_wp2
  go_ret
  exact ⟨rfl, rfl⟩

theorem num_add (a b : Int) (w : World) : Calls Tryd.prog 9 #[.string ⟨#[43]⟩, .int .i64 a, .int .i64 b] w fun e w' => e = .returned (.tuple #[.int .i64 (wrap64 (a + b)), .int .i64 0]) ∧ numsIn w = w' := by
  have hl : (Instr.lookup 49 (.map (some w.heap.size)) (.string ⟨#[43]⟩) true).run Tryd.prog (numsIn w) = .ok (.tuple #[.func (.func 23) #[] #[], .bool true]) (numsIn w) := look 49 47 Tryd.underlying49 w numEs 4 ⟨#[43]⟩ 0 (.func (.func 23) #[] #[]) (by kernel_rfl)
  go_enter Tryd.func9, Tryd.ntmps9
  go_wp2_with (first | (go_at_call 14; refine (nums_any _).mono ?_; rintro e w' ⟨rfl, rfl⟩) | (go_at_call 23; refine (fadd _ _ _).mono ?_; rintro e w' ⟨rfl, rfl⟩))
  go_ret2
  exact ⟨rfl, rfl⟩

theorem num_sub (a b : Int) (w : World) : Calls Tryd.prog 9 #[.string ⟨#[45]⟩, .int .i64 a, .int .i64 b] w fun e w' => e = .returned (.tuple #[.int .i64 (wrap64 (a - b)), .int .i64 0]) ∧ numsIn w = w' := by
  have hl : (Instr.lookup 49 (.map (some w.heap.size)) (.string ⟨#[45]⟩) true).run Tryd.prog (numsIn w) = .ok (.tuple #[.func (.func 24) #[] #[], .bool true]) (numsIn w) := look 49 47 Tryd.underlying49 w numEs 4 ⟨#[45]⟩ 1 (.func (.func 24) #[] #[]) (by kernel_rfl)
  go_enter Tryd.func9, Tryd.ntmps9
  go_wp2_with (first | (go_at_call 14; refine (nums_any _).mono ?_; rintro e w' ⟨rfl, rfl⟩) | (go_at_call 24; refine (fsub _ _ _).mono ?_; rintro e w' ⟨rfl, rfl⟩))
  go_ret2
  exact ⟨rfl, rfl⟩

theorem num_mul (a b : Int) (w : World) : Calls Tryd.prog 9 #[.string ⟨#[42]⟩, .int .i64 a, .int .i64 b] w fun e w' => e = .returned (.tuple #[.int .i64 (wrap64 (a * b)), .int .i64 0]) ∧ numsIn w = w' := by
  have hl : (Instr.lookup 49 (.map (some w.heap.size)) (.string ⟨#[42]⟩) true).run Tryd.prog (numsIn w) = .ok (.tuple #[.func (.func 25) #[] #[], .bool true]) (numsIn w) := look 49 47 Tryd.underlying49 w numEs 4 ⟨#[42]⟩ 2 (.func (.func 25) #[] #[]) (by kernel_rfl)
  go_enter Tryd.func9, Tryd.ntmps9
  go_wp2_with (first | (go_at_call 14; refine (nums_any _).mono ?_; rintro e w' ⟨rfl, rfl⟩) | (go_at_call 25; refine (fmul _ _ _).mono ?_; rintro e w' ⟨rfl, rfl⟩))
  go_ret2
  exact ⟨rfl, rfl⟩

theorem num_quo (a b : Int) (h : ¬b = 0) (w : World) : Calls Tryd.prog 9 #[.string ⟨#[47]⟩, .int .i64 a, .int .i64 b] w fun e w' => e = .returned (.tuple #[.int .i64 (wrap64 (a.tdiv b)), .int .i64 0]) ∧ numsIn w = w' := by
  have hl : (Instr.lookup 49 (.map (some w.heap.size)) (.string ⟨#[47]⟩) true).run Tryd.prog (numsIn w) = .ok (.tuple #[.func (.func 26) #[] #[], .bool true]) (numsIn w) := look 49 47 Tryd.underlying49 w numEs 4 ⟨#[47]⟩ 3 (.func (.func 26) #[] #[]) (by kernel_rfl)
  have hb : (b == 0) = false := beq_eq_false_iff_ne.2 h
  go_enter Tryd.func9, Tryd.ntmps9
  go_wp2_with (first | (go_at_call 14; refine (nums_any _).mono ?_; rintro e w' ⟨rfl, rfl⟩) | (go_at_call 26; refine (fquo _ _ h _).mono ?_; rintro e w' ⟨rfl, rfl⟩))
  go_ret2
  exact ⟨rfl, rfl⟩

theorem num_zero (a : Int) (w : World) : Calls Tryd.prog 9 #[.string ⟨#[47]⟩, .int .i64 a, .int .i64 0] w fun e w' => e = .returned (.tuple #[.int .i64 0, .int .i64 11]) ∧ numsIn w = w' := by
  have hl : (Instr.lookup 49 (.map (some w.heap.size)) (.string ⟨#[47]⟩) true).run Tryd.prog (numsIn w) = .ok (.tuple #[.func (.func 26) #[] #[], .bool true]) (numsIn w) := look 49 47 Tryd.underlying49 w numEs 4 ⟨#[47]⟩ 3 (.func (.func 26) #[] #[]) (by kernel_rfl)
  go_enter Tryd.func9, Tryd.ntmps9
  go_wp2_with (first | (go_at_call 14; refine (nums_any _).mono ?_; rintro e w' ⟨rfl, rfl⟩))
  go_ret2
  exact ⟨rfl, rfl⟩



theorem bool_true (w : World) : Calls Tryd.prog 7 #[.bool true] w fun e w' => e = .returned (.string ⟨#[116, 114, 117, 101]⟩) ∧ w = w' := by
  go_enter Tryd.func7, Tryd.ntmps7
  go_wp2
  go_ret
  exact ⟨rfl, rfl⟩

theorem pair_one (w : World) : Calls Tryd.prog 5 #[.string ⟨#[49]⟩, .string ⟨#[116, 114, 117, 101]⟩] w fun e w' => e = .returned (.string ⟨#[40, 49, 44, 32, 116, 114, 117, 101, 41]⟩) ∧ w = w' := by
  go_enter Tryd.func5, Tryd.ntmps5
  go_wp2
  go_ret
  exact ⟨rfl, rfl⟩

theorem gtrans {a b c : World} (h : Grown a b) (k : Grown b c) : Grown a c :=
  ⟨World.keptBut_trans h.1 k.1, fun x => (k.2.1 x).trans (h.2.1 x), Nat.le_trans h.2.2 k.2.2⟩
theorem grown_nums {a w : World} (h : Grown a w) : Grown a (numsIn w) := h.allocMap _ _

theorem alive_is (w : World) : Calls Tryd.prog 4 #[] w fun e w' => e = .returned (.bool true) ∧ numsIn w = w' := by
  have h3 : wrap64 (-3) = -3 := by unfold wrap64; omega
  go_enter Tryd.func4, Tryd.ntmps4
  go_wp2_with (first | (go_at_call 9; refine (num_quo _ _ (by decide) _).mono ?_; rintro e w' ⟨rfl, rfl⟩) | (go_at_call 5; refine (pair_one _).mono ?_; rintro e w' ⟨rfl, rfl⟩) | (go_at_call 7; refine (bool_true _).mono ?_; rintro e w' ⟨rfl, rfl⟩))
  go_ret
  exact ⟨rfl, rfl⟩
theorem alive_any (w : World) : Calls Tryd.prog 4 #[] w fun e w' => e = .returned (.bool true) ∧ Grown w w' :=
  (alive_is w).mono fun _ _ ⟨he, hw⟩ => ⟨he, hw ▸ grown_nums (Grown.refl _)⟩

theorem wrap_eq (x y t : Int) (h : x = y + 18446744073709551616 * t) : wrap64 x = wrap64 y := by
  subst h; unfold wrap64; omega
theorem wrap_is (x : Int) : ∃ t, wrap64 x = x + 18446744073709551616 * t := by
  refine ⟨-((x + 9223372036854775808) / 18446744073709551616), ?_⟩
  unfold wrap64; omega
theorem wrap_in (x : Int) (h : -9223372036854775808 ≤ x ∧ x ≤ 9223372036854775807) : wrap64 x = x := by
  unfold wrap64; omega

theorem rule1 (a b c : Int) : wrap64 (a * wrap64 (b + c)) = wrap64 (wrap64 (a * b) + wrap64 (a * c)) := by
  obtain ⟨k, hk⟩ := wrap_is (b + c)
  obtain ⟨l, hl⟩ := wrap_is (a * b)
  obtain ⟨m, hm⟩ := wrap_is (a * c)
  rw [hk, hl, hm]
  exact wrap_eq _ _ (a * k - l - m) (by grind)
theorem rule2 (a b c : Int) : wrap64 (a + wrap64 (b + c)) = wrap64 (wrap64 (a + b) + c) := by
  unfold wrap64; omega
theorem rule3 (a b c : Int) : wrap64 (a * wrap64 (b * c)) = wrap64 (wrap64 (a * b) * c) := by
  obtain ⟨k, hk⟩ := wrap_is (b * c)
  obtain ⟨l, hl⟩ := wrap_is (a * b)
  rw [hk, hl]
  exact wrap_eq _ _ (a * k - l * c) (by grind)
theorem rule4 (a : Int) : wrap64 (a + wrap64 (0 - a)) = 0 := by
  unfold wrap64; omega
theorem rule5 (a b : Int) : wrap64 (a - b) = wrap64 (a + wrap64 (0 - b)) := by
  unfold wrap64; omega
end Go.Proofs.YthnmncghoiehdafDoor
