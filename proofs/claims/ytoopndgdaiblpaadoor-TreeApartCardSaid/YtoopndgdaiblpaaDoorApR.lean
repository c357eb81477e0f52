/- Zero values of types, and how wide they are. -/
import Derived.Test.YtoopndgdaiblpaaDoorApP
namespace Go.Proofs.YtoopndgdaiblpaaDoor
open Go.ChangeShapes Go.WideShapes Go.ChangeAt Go.RowKit

theorem tyInfo : (Tryd.prog.info? 37).map (fun i => (i.zero, i.size, i.bytes)) = some (some (.agg #[.int .i64 0, .string ⟨#[]⟩, .slice none 0 0, .slice none 0 0, .bool false]), 5, 80) := by kernel_rfl
def zeroTy : Ty := .mk 0 ⟨#[]⟩ [] [] false
def zeroMe : Nd := .me 0 ⟨#[]⟩ ⟨#[]⟩ [] []
theorem zeroTy_size : tySum [zeroTy] = 1 := by simp [tySum, zeroTy, tySize]
theorem tySum_app (l m : List Ty) : tySum (l ++ m) = tySum l + tySum m := by simp [tySum]
theorem zeroTy_V (W : World) (B : Nat → Prop) : TyV W B [.int .i64 0, .string ⟨#[]⟩, .slice none 0 0, .slice none 0 0, .bool false] zeroTy :=
  ⟨0, ⟨#[]⟩, _, _, false, [], [], 0, 0, 0, 0, rfl, rfl, .inl ⟨rfl, rfl⟩, .inl ⟨rfl, rfl⟩, fun _ h => absurd h (Nat.not_lt_zero _), fun _ h => absurd h (Nat.not_lt_zero _)⟩
theorem zeroMe_V (W : World) (B : Nat → Prop) : MeV W B [.int .i64 0, .string ⟨#[]⟩, .string ⟨#[]⟩, .slice none 0 0, .slice none 0 0] zeroMe :=
  ⟨0, ⟨#[]⟩, ⟨#[]⟩, _, _, [], [], 0, 0, 0, 0, rfl, rfl, .inl ⟨rfl, rfl⟩, .inl ⟨rfl, rfl⟩, fun _ h => absurd h (Nat.not_lt_zero _), fun _ h => absurd h (Nat.not_lt_zero _), fun _ h => by cases h⟩

end Go.Proofs.YtoopndgdaiblpaaDoor
