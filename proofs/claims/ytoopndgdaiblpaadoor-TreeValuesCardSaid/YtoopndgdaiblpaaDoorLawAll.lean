/- trefoillaw02.TreeValues, at any parts. -/
import Derived.Test.YtoopndgdaiblpaaDoorLawTT
import Derived.Test.YtoopndgdaiblpaaDoorLawTF
import Derived.Test.YtoopndgdaiblpaaDoorLawFT
import Derived.Test.YtoopndgdaiblpaaDoorLawFF
namespace Go.Proofs.YtoopndgdaiblpaaDoor
open Go.ChangeShapes Go.WideShapes Go.ChangeAt Go.RowKit

theorem values_any (T : TypeId) (v : Value) (la lb : List Pt) (va vb : Value) (w : World) (hg : w.cell? ⟨0, 0, none⟩ = some (.iface T v)) (hgl : 0 < w.heap.size) (ha : PV w w.heap.size va la) (hb : PV w w.heap.size vb lb)
    (hla : (la.length : Int) ≤ 9223372036854775807) (hlb : (lb.length : Int) ≤ 9223372036854775807) :
    Calls Tryd.prog 7 #[va, vb] w fun e w' => e = .returned (.bool true) ∧ Below w.heap.size w w' := by
  cases hp : valueB (ofL 2000 la).1 <;> cases hq : valueB (ofL 2000 lb).1
  · exact values_FF T v la lb va vb w hg hgl ha hb hla hlb hp hq
  · exact values_FT T v la lb va vb w hg hgl ha hb hla hlb hp hq
  · exact values_TF T v la lb va vb w hg hgl ha hb hla hlb hp hq
  · exact values_TT T v la lb va vb w hg hgl ha hb hla hlb hp hq
end Go.Proofs.YtoopndgdaiblpaaDoor
