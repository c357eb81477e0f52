/- The function that TreeValues makes, told. -/
import Derived.Test.YtoopndgdaiblpaaDoorAlive
import Derived.Test.YtoopndgdaiblpaaDoorGrt
import Derived.Deep.RegionHeld3
namespace Go.Proofs.YtoopndgdaiblpaaDoor
open Go.ChangeShapes Go.WideShapes Go.ChangeAt Go.RowKit

theorem heap_lastd {w : World} {o : Obj} {i : Nat} (h : i = w.heap.size) : (w.alloc o).drew.heap[i]? = some o := heap_last h

theorem fn_val (kind : Int) (sa : Value) (args : List Nd) (g o : Nat) (W : World) (hs : Sl (fun b => b < W.heap.size) sa args.length g o) (ht : ∀ i (h : i < args.length), NdAt W (fun b => b < W.heap.size) g (o + i * 7) args[i]) (hax : ∀ x ∈ args, isEx x = true) (hz : ndSum args ≤ 900000) :
    Calls Tryd.prog 22 #[.int .i64 kind, sa] W fun e w' => e = .returned (.bool (valueB (.ex kind ⟨#[120]⟩ 0 [] [] args []))) ∧ Below W.heap.size W w' := by
  obtain ⟨xs, cs, rfl, _⟩ := hs.shape
  have hx : NdAt (W.alloc (.cells #[.int .i64 kind, .string ⟨#[120]⟩, .int .i64 0, (.slice xs args.length cs), .slice none 0 0, .slice none 0 0, .slice none 0 0] 33)) (fun b => b < W.heap.size + 1) W.heap.size 0 (.ex kind ⟨#[120]⟩ 0 [] [] args []) := by
    have hl := heap_last (w := W) (o := .cells #[.int .i64 kind, .string ⟨#[120]⟩, .int .i64 0, (.slice xs args.length cs), .slice none 0 0, .slice none 0 0, .slice none 0 0] 33) rfl
    have k : ∀ j u, ([.int .i64 kind, .string ⟨#[120]⟩, .int .i64 0, (.slice xs args.length cs), .slice none 0 0, .slice none 0 0, .slice none 0 0] : List Value)[j]? = some u → (W.alloc (.cells #[.int .i64 kind, .string ⟨#[120]⟩, .int .i64 0, (.slice xs args.length cs), .slice none 0 0, .slice none 0 0, .slice none 0 0] 33)).cell? ⟨W.heap.size, 0 + j, none⟩ = some u := fun j u hj => by
      rw [Lib.cell_of_heap hl (0 + j), Nat.zero_add]; simpa using hj
    exact .ex (ga := g) (oa := o) (gn := 0) (on := 0) (gt := 0) (ot := 0) (gm := 0) (om := 0) (by omega) (k 0 _ rfl) (k 1 _ rfl) (k 2 _ rfl) (k 3 _ rfl) (k 4 _ rfl) (k 5 _ rfl) (k 6 _ rfl) (hs.mono fun b hb => by omega) (.inl ⟨rfl, rfl⟩) (.inl ⟨rfl, rfl⟩) (.inl ⟨rfl, rfl⟩) (fun i hi => (ht i hi).carry (fun b hb => heap_old hb) (fun b hb => by omega)) (fun _ h => absurd h (Nat.not_lt_zero _)) (fun _ h => absurd h (Nat.not_lt_zero _)) (fun _ h => absurd h (Nat.not_lt_zero _)) hax (fun _ h => (by cases h))
  have hz2 : ndSize (.ex kind ⟨#[120]⟩ 0 [] [] args []) ≤ 1000000 := by rw [ndSize_ex]; have : ndSum [] = 0 := rfl; omega
  have CV := Lib.hid (val_any kind ⟨#[120]⟩ 0 (.slice xs args.length cs) (.slice none 0 0) (.slice none 0 0) (.slice none 0 0) W (.ex kind ⟨#[120]⟩ 0 [] [] args []) hz2 hx rfl)
  clear hx hs ht hax hz hz2
  go_enter Tryd.func22, Tryd.ntmps22
  go_wp2_with (go_at_call 21; with_reducible refine CV.out.mono ?_; rintro e w' ⟨rfl, hB⟩)
  go_ret
  exact ⟨rfl, hB⟩

end Go.Proofs.YtoopndgdaiblpaaDoor
