/-
  NARROWER THAN 'FOR EVERY INPUT', by the rows' own cells (each row's printed sentence says how): TreeSame: laid · TreeParts: laid · TreeApart: laid · TreeTypes: laid · TreeValues: laid.
  DERIVED. THE GIVEN ROWS OF THIS SEAT. 5 by the template 'for every input the law returns true; each argument reads behind the call as it read before'; 0 by the template 'total and deterministic' (their statements: YtoopndgdaiblpaaDoorTotals.lean).
  GIVEN WITH THE SEED: the statements are not yours to turn. If you find one false, say at which input.
  Laid BY PROGRAM, IN A SANDBOX (cutbox-rows.mjs): the forced cells as the released guide's own fill.sh prints them over the translation b896e5077142e3de… (all of the seat's roots in one cut). By AI agents, Wed Nov 11 2026. No macro, syntax, notation, axiom, sorry.
-/
import Derived.Test.YtoopndgdaiblpaaDoorChecked
import GoSem.Claim
import GoSem.ClaimJoined
import GoSem.ClaimMapViews
import Derived.JoinedTies
import Derived.KernelRfl
namespace Go.Proofs.YtoopndgdaiblpaaDoor
/- THE CELL 'sum', in the pinned program and in every row, IS THE sha256 OF THE DUMP (.gsa) THAT YtoopndgdaiblpaaDoorProg.lean LOADS. Nothing in Lean hashes anything: it is a label: what it is worth is what the hold of that sum in a sandbox is worth. -/
noncomputable def Tryd.pinned : Pinned := { name := "ytoopndgdaiblpaadoor", sum := "b896e5077142e3de9adf4f9856a2d4f312f948452c7109ee0cc9691288e8750f", checked := Tryd.checked }
namespace Rows
def none {H : Type} : Left H := { results := [], args := [] }

/- WHAT THE LISTED PACKAGE-LEVEL VARIABLES READ AS WHEN THE CALL BEGINS. Each datum BY PROGRAM (the guide's laid-datum.mjs) off the statement by which the dump's own 'gosem.cut.vars' lays the variable. In a bare row this is a premise. The card (YtoopndgdaiblpaaDoorCards.lean) ties it to the program's text. -/
def laid_trefoil_lex_errWord {H : Type} : DataW H := .iface "*errors.errorString" (.ptr (.agg [.lit (.string [116, 104, 101, 32, 119, 111, 114, 100, 32, 105, 115, 32, 116, 111, 111, 32, 108, 111, 110, 103, 44, 32, 111, 114, 32, 116, 104, 101, 114, 101, 32, 105, 115, 32, 110, 111, 110, 101])]))

/-- 'trefoillaw02.TreeSame': WHATEVER THE INPUT: true; the input reads as it did. -/
def treeSameSpec : ChangeSpec := { name := "treeSame", fn := fun _ => fun
  | [d] => { results := [.lit (.bool true)], args := [d] }
  | _ => none }
def treeSameRow : OpenClaim := { program := "ytoopndgdaiblpaadoor", sum := "b896e5077142e3de9adf4f9856a2d4f312f948452c7109ee0cc9691288e8750f", func := "trefoil/trefoillaw02.TreeSame", spec := "treeSame", unfollowed := true, recurses := true, named := ["trefoil/lex.errWord"], apart := false, laid := [("trefoil/lex.errWord", laid_trefoil_lex_errWord)] }
def TreeSameSaid : Prop := treeSameRow.holds Tryd.pinned (OpenSpec.ofChange treeSameSpec)

/-- ITS FALSE NEIGHBOUR: 'it returns false'. Refute it at one input. -/
def treeSameWrong : ChangeSpec := { name := "treeSame", fn := fun _ => fun
  | [d] => { results := [.lit (.bool false)], args := [d] }
  | _ => none }
def TreeSameWrongFalsely : Prop := treeSameRow.holds Tryd.pinned (OpenSpec.ofChange treeSameWrong)

/-- 'trefoillaw02.TreeParts': WHATEVER THE INPUT: true; the input reads as it did. -/
def treePartsSpec : ChangeSpec := { name := "treeParts", fn := fun _ => fun
  | [d] => { results := [.lit (.bool true)], args := [d] }
  | _ => none }
def treePartsRow : OpenClaim := { program := "ytoopndgdaiblpaadoor", sum := "b896e5077142e3de9adf4f9856a2d4f312f948452c7109ee0cc9691288e8750f", func := "trefoil/trefoillaw02.TreeParts", spec := "treeParts", unfollowed := true, recurses := true, named := ["trefoil/lex.errWord"], apart := false, laid := [("trefoil/lex.errWord", laid_trefoil_lex_errWord)] }
def TreePartsSaid : Prop := treePartsRow.holds Tryd.pinned (OpenSpec.ofChange treePartsSpec)

/-- ITS FALSE NEIGHBOUR: 'it returns false'. Refute it at one input. -/
def treePartsWrong : ChangeSpec := { name := "treeParts", fn := fun _ => fun
  | [d] => { results := [.lit (.bool false)], args := [d] }
  | _ => none }
def TreePartsWrongFalsely : Prop := treePartsRow.holds Tryd.pinned (OpenSpec.ofChange treePartsWrong)

/-- 'trefoillaw02.TreeApart': WHATEVER THE INPUT: true; the input reads as it did. -/
def treeApartSpec : ChangeSpec := { name := "treeApart", fn := fun _ => fun
  | [d1, d2] => { results := [.lit (.bool true)], args := [d1, d2] }
  | _ => none }
def treeApartRow : OpenClaim := { program := "ytoopndgdaiblpaadoor", sum := "b896e5077142e3de9adf4f9856a2d4f312f948452c7109ee0cc9691288e8750f", func := "trefoil/trefoillaw02.TreeApart", spec := "treeApart", unfollowed := true, recurses := true, named := ["trefoil/lex.errWord"], apart := false, laid := [("trefoil/lex.errWord", laid_trefoil_lex_errWord)] }
def TreeApartSaid : Prop := treeApartRow.holds Tryd.pinned (OpenSpec.ofChange treeApartSpec)

/-- ITS FALSE NEIGHBOUR: 'it returns false'. Refute it at one input. -/
def treeApartWrong : ChangeSpec := { name := "treeApart", fn := fun _ => fun
  | [d1, d2] => { results := [.lit (.bool false)], args := [d1, d2] }
  | _ => none }
def TreeApartWrongFalsely : Prop := treeApartRow.holds Tryd.pinned (OpenSpec.ofChange treeApartWrong)

/-- 'trefoillaw02.TreeTypes': WHATEVER THE INPUT: true; the input reads as it did. -/
def treeTypesSpec : ChangeSpec := { name := "treeTypes", fn := fun _ => fun
  | [d1, d2, d3] => { results := [.lit (.bool true)], args := [d1, d2, d3] }
  | _ => none }
def treeTypesRow : OpenClaim := { program := "ytoopndgdaiblpaadoor", sum := "b896e5077142e3de9adf4f9856a2d4f312f948452c7109ee0cc9691288e8750f", func := "trefoil/trefoillaw02.TreeTypes", spec := "treeTypes", unfollowed := true, recurses := true, named := ["trefoil/lex.errWord"], apart := false, laid := [("trefoil/lex.errWord", laid_trefoil_lex_errWord)] }
def TreeTypesSaid : Prop := treeTypesRow.holds Tryd.pinned (OpenSpec.ofChange treeTypesSpec)

/-- ITS FALSE NEIGHBOUR: 'it returns false'. Refute it at one input. -/
def treeTypesWrong : ChangeSpec := { name := "treeTypes", fn := fun _ => fun
  | [d1, d2, d3] => { results := [.lit (.bool false)], args := [d1, d2, d3] }
  | _ => none }
def TreeTypesWrongFalsely : Prop := treeTypesRow.holds Tryd.pinned (OpenSpec.ofChange treeTypesWrong)

/-- 'trefoillaw02.TreeValues': WHATEVER THE INPUT: true; the input reads as it did. -/
def treeValuesSpec : ChangeSpec := { name := "treeValues", fn := fun _ => fun
  | [d1, d2] => { results := [.lit (.bool true)], args := [d1, d2] }
  | _ => none }
def treeValuesRow : OpenClaim := { program := "ytoopndgdaiblpaadoor", sum := "b896e5077142e3de9adf4f9856a2d4f312f948452c7109ee0cc9691288e8750f", func := "trefoil/trefoillaw02.TreeValues", spec := "treeValues", unfollowed := true, recurses := true, named := ["trefoil/lex.errWord"], apart := false, laid := [("trefoil/lex.errWord", laid_trefoil_lex_errWord)] }
def TreeValuesSaid : Prop := treeValuesRow.holds Tryd.pinned (OpenSpec.ofChange treeValuesSpec)

/-- ITS FALSE NEIGHBOUR: 'it returns false'. Refute it at one input. -/
def treeValuesWrong : ChangeSpec := { name := "treeValues", fn := fun _ => fun
  | [d1, d2] => { results := [.lit (.bool false)], args := [d1, d2] }
  | _ => none }
def TreeValuesWrongFalsely : Prop := treeValuesRow.holds Tryd.pinned (OpenSpec.ofChange treeValuesWrong)

/- THE SECOND FORM. 'bulk': how many values and letters a reading holds, each counted each time it is reached (what is shared counts as often as it is met; a slice's spare places count too). A statement '..UptoSaid' is the law's where the arguments, and the package variables that the reading takes, are together of bulk at most 1048576: NARROWER than '..Said'. Prove '..Said' where nothing that the law and all that it calls make is longer than what came in: it says more and counts as full. Else prove '..UptoSaid'. A law counts once. -/
mutual
def uptoBulk {H : Type} : DataW H → Nat
  | .lit (.string bytes) => bytes.length + 1
  | .lit _ => 1
  | .nil => 1
  | .ptr d => uptoBulk d + 1
  | .slice elems spare => uptoBulkAll elems + uptoBulkAll spare + 1
  | .agg parts => uptoBulkAll parts + 1
  | .iface _ d => uptoBulk d + 1
  | .map entries => uptoBulkEntries entries + 1
  | .held _ => 1
def uptoBulkAll {H : Type} : List (DataW H) → Nat
  | [] => 0
  | d :: r => uptoBulk d + uptoBulkAll r
def uptoBulkEntries {H : Type} : List (Lit × DataW H) → Nat
  | [] => 0
  | x :: r => uptoBulkEntry x + uptoBulkEntries r
def uptoBulkEntry {H : Type} : Lit × DataW H → Nat
  | (.string bytes, d) => bytes.length + uptoBulk d + 1
  | (_, d) => uptoBulk d + 1
 end
def uptoSmall : (H : Type) → List (DataW H) → Bool := fun _ ds => decide (uptoBulkAll ds ≤ 1048576)
def OpenSpec.upto (s : _root_.Go.ChangeSpec) : _root_.Go.OpenSpec := { _root_.Go.OpenSpec.ofChange s with cond := some uptoSmall }

/-- 'trefoillaw02.TreeSame', WHERE WHAT IT READS IS OF BULK AT MOST 1048576: true; the input reads as it did. -/
def treeSameUptoRow : OpenClaim := { program := "ytoopndgdaiblpaadoor", sum := "b896e5077142e3de9adf4f9856a2d4f312f948452c7109ee0cc9691288e8750f", func := "trefoil/trefoillaw02.TreeSame", spec := "treeSame", unfollowed := true, recurses := true, named := ["trefoil/lex.errWord"], apart := false, laid := [("trefoil/lex.errWord", laid_trefoil_lex_errWord)], narrowed := true }
def TreeSameUptoSaid : Prop := treeSameUptoRow.holds Tryd.pinned (OpenSpec.upto treeSameSpec)

/-- 'trefoillaw02.TreeParts', WHERE WHAT IT READS IS OF BULK AT MOST 1048576: true; the input reads as it did. -/
def treePartsUptoRow : OpenClaim := { program := "ytoopndgdaiblpaadoor", sum := "b896e5077142e3de9adf4f9856a2d4f312f948452c7109ee0cc9691288e8750f", func := "trefoil/trefoillaw02.TreeParts", spec := "treeParts", unfollowed := true, recurses := true, named := ["trefoil/lex.errWord"], apart := false, laid := [("trefoil/lex.errWord", laid_trefoil_lex_errWord)], narrowed := true }
def TreePartsUptoSaid : Prop := treePartsUptoRow.holds Tryd.pinned (OpenSpec.upto treePartsSpec)

/-- 'trefoillaw02.TreeApart', WHERE WHAT IT READS IS OF BULK AT MOST 1048576: true; the input reads as it did. -/
def treeApartUptoRow : OpenClaim := { program := "ytoopndgdaiblpaadoor", sum := "b896e5077142e3de9adf4f9856a2d4f312f948452c7109ee0cc9691288e8750f", func := "trefoil/trefoillaw02.TreeApart", spec := "treeApart", unfollowed := true, recurses := true, named := ["trefoil/lex.errWord"], apart := false, laid := [("trefoil/lex.errWord", laid_trefoil_lex_errWord)], narrowed := true }
def TreeApartUptoSaid : Prop := treeApartUptoRow.holds Tryd.pinned (OpenSpec.upto treeApartSpec)

/-- 'trefoillaw02.TreeTypes', WHERE WHAT IT READS IS OF BULK AT MOST 1048576: true; the input reads as it did. -/
def treeTypesUptoRow : OpenClaim := { program := "ytoopndgdaiblpaadoor", sum := "b896e5077142e3de9adf4f9856a2d4f312f948452c7109ee0cc9691288e8750f", func := "trefoil/trefoillaw02.TreeTypes", spec := "treeTypes", unfollowed := true, recurses := true, named := ["trefoil/lex.errWord"], apart := false, laid := [("trefoil/lex.errWord", laid_trefoil_lex_errWord)], narrowed := true }
def TreeTypesUptoSaid : Prop := treeTypesUptoRow.holds Tryd.pinned (OpenSpec.upto treeTypesSpec)

/-- 'trefoillaw02.TreeValues', WHERE WHAT IT READS IS OF BULK AT MOST 1048576: true; the input reads as it did. -/
def treeValuesUptoRow : OpenClaim := { program := "ytoopndgdaiblpaadoor", sum := "b896e5077142e3de9adf4f9856a2d4f312f948452c7109ee0cc9691288e8750f", func := "trefoil/trefoillaw02.TreeValues", spec := "treeValues", unfollowed := true, recurses := true, named := ["trefoil/lex.errWord"], apart := false, laid := [("trefoil/lex.errWord", laid_trefoil_lex_errWord)], narrowed := true }
def TreeValuesUptoSaid : Prop := treeValuesUptoRow.holds Tryd.pinned (OpenSpec.upto treeValuesSpec)

end Rows
end Go.Proofs.YtoopndgdaiblpaaDoor
