/- trefoillaw02.TreeApart, at any parts and any choice. -/
import Derived.Test.YtoopndgdaiblpaaDoorApA
import Derived.Test.YtoopndgdaiblpaaDoorApB
import Derived.Test.YtoopndgdaiblpaaDoorApC
import Derived.Test.YtoopndgdaiblpaaDoorApD
import Derived.Test.YtoopndgdaiblpaaDoorApE
namespace Go.Proofs.YtoopndgdaiblpaaDoor
open Go.ChangeShapes Go.WideShapes Go.ChangeAt Go.RowKit

theorem apart_any (T : TypeId) (v : Value) (l : List Pt) (vl : Value) (q : Int) (w : World) (hg : w.cell? ⟨0, 0, none⟩ = some (.iface T v)) (hgl : 0 < w.heap.size) (ha : PV w w.heap.size vl l)
    (hla : (l.length : Int) ≤ 140737488355328) (hq0 : 0 ≤ q) (hq1 : q ≤ 255) :
    Calls Tryd.prog 5 #[vl, .int .u8 q] w fun e w' => e = .returned (.bool true) ∧ Below w.heap.size w w' := by
  have h : q % 7 = 0 ∨ q % 7 = 1 ∨ q % 7 = 2 ∨ q % 7 = 3 ∨ q % 7 = 4 ∨ q % 7 = 5 ∨ q % 7 = 6 := by omega
  rcases h with h | h | h | h | h | h | h
  · exact apart_0 T v l vl q w hg hgl ha hla hq0 hq1 h
  · exact apart_1 T v l vl q w hg hgl ha hla hq0 hq1 h
  · exact apart_2 T v l vl q w hg hgl ha hla hq0 hq1 h
  · exact apart_3 T v l vl q w hg hgl ha hla hq0 hq1 h
  · exact apart_4 T v l vl q w hg hgl ha hla hq0 hq1 h
  · exact apart_5 T v l vl q w hg hgl ha hla hq0 hq1 h
  · exact apart_6 T v l vl q w hg hgl ha hla hq0 hq1 h
end Go.Proofs.YtoopndgdaiblpaaDoor
