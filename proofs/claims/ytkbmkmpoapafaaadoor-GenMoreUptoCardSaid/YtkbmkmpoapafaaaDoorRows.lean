/-
  NARROWER THAN 'FOR EVERY INPUT', by the rows' own cells (each row's printed sentence says how): GenSame: laid · GenPairs: laid · GenMore: laid · GenMonos: laid.
  DERIVED. THE GIVEN ROWS OF THIS SEAT. 4 by the template 'for every input the law returns true; each argument reads behind the call as it read before'; 0 by the template 'total and deterministic' (their statements: YtkbmkmpoapafaaaDoorTotals.lean).
  GIVEN WITH THE SEED: the statements are not yours to turn. If you find one false, say at which input.
  Laid BY PROGRAM, IN A SANDBOX (cutbox-rows.mjs): the forced cells as the released guide's own fill.sh prints them over the translation 08cd1ba4a43733d8… (all of the seat's roots in one cut). By AI agents, Wed Nov 11 2026. No macro, syntax, notation, axiom, sorry.
-/
import Derived.Test.YtkbmkmpoapafaaaDoorChecked
import GoSem.Claim
import GoSem.ClaimJoined
import GoSem.ClaimMapViews
import Derived.JoinedTies
import Derived.KernelRfl
namespace Go.Proofs.YtkbmkmpoapafaaaDoor
/- THE CELL 'sum', in the pinned program and in every row, IS THE sha256 OF THE DUMP (.gsa) THAT YtkbmkmpoapafaaaDoorProg.lean LOADS. Nothing in Lean hashes anything: it is a label: what it is worth is what the hold of that sum in a sandbox is worth. -/
noncomputable def Tryd.pinned : Pinned := { name := "ytkbmkmpoapafaaadoor", sum := "08cd1ba4a43733d89000138d90e50371acb7c54b8a9cc54166bcb4da94a1bb4e", checked := Tryd.checked }
namespace Rows
def none {H : Type} : Left H := { results := [], args := [] }

/- WHAT THE LISTED PACKAGE-LEVEL VARIABLES READ AS WHEN THE CALL BEGINS. Each datum BY PROGRAM (the guide's laid-datum.mjs) off the statement by which the dump's own 'gosem.cut.vars' lays the variable. In a bare row this is a premise. The card (YtkbmkmpoapafaaaDoorCards.lean) ties it to the program's text. -/
def laid_trefoil_lex_errWord {H : Type} : DataW H := .iface "*errors.errorString" (.ptr (.agg [.lit (.string [116, 104, 101, 32, 119, 111, 114, 100, 32, 105, 115, 32, 116, 111, 111, 32, 108, 111, 110, 103, 44, 32, 111, 114, 32, 116, 104, 101, 114, 101, 32, 105, 115, 32, 110, 111, 110, 101])]))

/-- 'trefoillaw13.GenSame': WHATEVER THE INPUT: true; the input reads as it did. -/
def genSameSpec : ChangeSpec := { name := "genSame", fn := fun _ => fun
  | [d] => { results := [.lit (.bool true)], args := [d] }
  | _ => none }
def genSameRow : OpenClaim := { program := "ytkbmkmpoapafaaadoor", sum := "08cd1ba4a43733d89000138d90e50371acb7c54b8a9cc54166bcb4da94a1bb4e", func := "trefoil/trefoillaw13.GenSame", spec := "genSame", unfollowed := true, recurses := true, named := ["trefoil/lex.errWord"], plainKeys := false, apart := false, laid := [("trefoil/lex.errWord", laid_trefoil_lex_errWord)] }
def GenSameSaid : Prop := genSameRow.holds Tryd.pinned (OpenSpec.ofChange genSameSpec)

/-- ITS FALSE NEIGHBOUR: 'it returns false'. Refute it at one input. -/
def genSameWrong : ChangeSpec := { name := "genSame", fn := fun _ => fun
  | [d] => { results := [.lit (.bool false)], args := [d] }
  | _ => none }
def GenSameWrongFalsely : Prop := genSameRow.holds Tryd.pinned (OpenSpec.ofChange genSameWrong)

/-- 'trefoillaw13.GenPairs': WHATEVER THE INPUT: true; the input reads as it did. -/
def genPairsSpec : ChangeSpec := { name := "genPairs", fn := fun _ => fun
  | [d1, d2] => { results := [.lit (.bool true)], args := [d1, d2] }
  | _ => none }
def genPairsRow : OpenClaim := { program := "ytkbmkmpoapafaaadoor", sum := "08cd1ba4a43733d89000138d90e50371acb7c54b8a9cc54166bcb4da94a1bb4e", func := "trefoil/trefoillaw13.GenPairs", spec := "genPairs", unfollowed := true, recurses := true, named := ["trefoil/lex.errWord"], plainKeys := false, apart := false, laid := [("trefoil/lex.errWord", laid_trefoil_lex_errWord)] }
def GenPairsSaid : Prop := genPairsRow.holds Tryd.pinned (OpenSpec.ofChange genPairsSpec)

/-- ITS FALSE NEIGHBOUR: 'it returns false'. Refute it at one input. -/
def genPairsWrong : ChangeSpec := { name := "genPairs", fn := fun _ => fun
  | [d1, d2] => { results := [.lit (.bool false)], args := [d1, d2] }
  | _ => none }
def GenPairsWrongFalsely : Prop := genPairsRow.holds Tryd.pinned (OpenSpec.ofChange genPairsWrong)

/-- 'trefoillaw13.GenMore': WHATEVER THE INPUT: true; the input reads as it did. -/
def genMoreSpec : ChangeSpec := { name := "genMore", fn := fun _ => fun
  | [d1, d2, d3] => { results := [.lit (.bool true)], args := [d1, d2, d3] }
  | _ => none }
def genMoreRow : OpenClaim := { program := "ytkbmkmpoapafaaadoor", sum := "08cd1ba4a43733d89000138d90e50371acb7c54b8a9cc54166bcb4da94a1bb4e", func := "trefoil/trefoillaw13.GenMore", spec := "genMore", unfollowed := true, recurses := true, named := ["trefoil/lex.errWord"], plainKeys := false, apart := false, laid := [("trefoil/lex.errWord", laid_trefoil_lex_errWord)] }
def GenMoreSaid : Prop := genMoreRow.holds Tryd.pinned (OpenSpec.ofChange genMoreSpec)

/-- ITS FALSE NEIGHBOUR: 'it returns false'. Refute it at one input. -/
def genMoreWrong : ChangeSpec := { name := "genMore", fn := fun _ => fun
  | [d1, d2, d3] => { results := [.lit (.bool false)], args := [d1, d2, d3] }
  | _ => none }
def GenMoreWrongFalsely : Prop := genMoreRow.holds Tryd.pinned (OpenSpec.ofChange genMoreWrong)

/-- 'trefoillaw13.GenMonos': WHATEVER THE INPUT: true; the input reads as it did. -/
def genMonosSpec : ChangeSpec := { name := "genMonos", fn := fun _ => fun
  | [d1, d2] => { results := [.lit (.bool true)], args := [d1, d2] }
  | _ => none }
def genMonosRow : OpenClaim := { program := "ytkbmkmpoapafaaadoor", sum := "08cd1ba4a43733d89000138d90e50371acb7c54b8a9cc54166bcb4da94a1bb4e", func := "trefoil/trefoillaw13.GenMonos", spec := "genMonos", inPlace := ["internal/abi.NoEscape", "internal/bytealg.MakeNoZero"], unfollowed := true, recurses := true, named := ["trefoil/lex.errWord"], plainKeys := false, apart := false, laid := [("trefoil/lex.errWord", laid_trefoil_lex_errWord)] }
def GenMonosSaid : Prop := genMonosRow.holds Tryd.pinned (OpenSpec.ofChange genMonosSpec)

/-- ITS FALSE NEIGHBOUR: 'it returns false'. Refute it at one input. -/
def genMonosWrong : ChangeSpec := { name := "genMonos", fn := fun _ => fun
  | [d1, d2] => { results := [.lit (.bool false)], args := [d1, d2] }
  | _ => none }
def GenMonosWrongFalsely : Prop := genMonosRow.holds Tryd.pinned (OpenSpec.ofChange genMonosWrong)

/- THE SECOND FORM. 'bulk': how many values and letters a reading holds, each counted each time it is reached (what is shared counts as often as it is met; a slice's spare places count too). A statement '..UptoSaid' is the law's where the arguments, and the package variables that the reading takes, are together of bulk at most 1048576: NARROWER than '..Said'. Prove '..Said' where nothing that the law and all that it calls make is longer than what came in: it says more and counts as full. Else prove '..UptoSaid'. A law counts once. -/
mutual
def uptoBulk {H : Type} : DataW H → Nat
  | .lit (.string bytes) => bytes.length + 1
  | .lit _ => 1
  | .nil => 1
  | .ptr d => uptoBulk d + 1
  | .slice elems spare => uptoBulkAll elems + uptoBulkAll spare + 1
  | .agg parts => uptoBulkAll parts + 1
  | .iface _ d => uptoBulk d + 1
  | .map entries => uptoBulkEntries entries + 1
  | .held _ => 1
def uptoBulkAll {H : Type} : List (DataW H) → Nat
  | [] => 0
  | d :: r => uptoBulk d + uptoBulkAll r
def uptoBulkEntries {H : Type} : List (Lit × DataW H) → Nat
  | [] => 0
  | x :: r => uptoBulkEntry x + uptoBulkEntries r
def uptoBulkEntry {H : Type} : Lit × DataW H → Nat
  | (.string bytes, d) => bytes.length + uptoBulk d + 1
  | (_, d) => uptoBulk d + 1
 end
def uptoSmall : (H : Type) → List (DataW H) → Bool := fun _ ds => decide (uptoBulkAll ds ≤ 1048576)
def OpenSpec.upto (s : _root_.Go.ChangeSpec) : _root_.Go.OpenSpec := { _root_.Go.OpenSpec.ofChange s with cond := some uptoSmall }

/-- 'trefoillaw13.GenSame', WHERE WHAT IT READS IS OF BULK AT MOST 1048576: true; the input reads as it did. -/
def genSameUptoRow : OpenClaim := { program := "ytkbmkmpoapafaaadoor", sum := "08cd1ba4a43733d89000138d90e50371acb7c54b8a9cc54166bcb4da94a1bb4e", func := "trefoil/trefoillaw13.GenSame", spec := "genSame", unfollowed := true, recurses := true, named := ["trefoil/lex.errWord"], plainKeys := false, apart := false, laid := [("trefoil/lex.errWord", laid_trefoil_lex_errWord)], narrowed := true }
def GenSameUptoSaid : Prop := genSameUptoRow.holds Tryd.pinned (OpenSpec.upto genSameSpec)

/-- 'trefoillaw13.GenPairs', WHERE WHAT IT READS IS OF BULK AT MOST 1048576: true; the input reads as it did. -/
def genPairsUptoRow : OpenClaim := { program := "ytkbmkmpoapafaaadoor", sum := "08cd1ba4a43733d89000138d90e50371acb7c54b8a9cc54166bcb4da94a1bb4e", func := "trefoil/trefoillaw13.GenPairs", spec := "genPairs", unfollowed := true, recurses := true, named := ["trefoil/lex.errWord"], plainKeys := false, apart := false, laid := [("trefoil/lex.errWord", laid_trefoil_lex_errWord)], narrowed := true }
def GenPairsUptoSaid : Prop := genPairsUptoRow.holds Tryd.pinned (OpenSpec.upto genPairsSpec)

/-- 'trefoillaw13.GenMore', WHERE WHAT IT READS IS OF BULK AT MOST 1048576: true; the input reads as it did. -/
def genMoreUptoRow : OpenClaim := { program := "ytkbmkmpoapafaaadoor", sum := "08cd1ba4a43733d89000138d90e50371acb7c54b8a9cc54166bcb4da94a1bb4e", func := "trefoil/trefoillaw13.GenMore", spec := "genMore", unfollowed := true, recurses := true, named := ["trefoil/lex.errWord"], plainKeys := false, apart := false, laid := [("trefoil/lex.errWord", laid_trefoil_lex_errWord)], narrowed := true }
def GenMoreUptoSaid : Prop := genMoreUptoRow.holds Tryd.pinned (OpenSpec.upto genMoreSpec)

/-- 'trefoillaw13.GenMonos', WHERE WHAT IT READS IS OF BULK AT MOST 1048576: true; the input reads as it did. -/
def genMonosUptoRow : OpenClaim := { program := "ytkbmkmpoapafaaadoor", sum := "08cd1ba4a43733d89000138d90e50371acb7c54b8a9cc54166bcb4da94a1bb4e", func := "trefoil/trefoillaw13.GenMonos", spec := "genMonos", inPlace := ["internal/abi.NoEscape", "internal/bytealg.MakeNoZero"], unfollowed := true, recurses := true, named := ["trefoil/lex.errWord"], plainKeys := false, apart := false, laid := [("trefoil/lex.errWord", laid_trefoil_lex_errWord)], narrowed := true }
def GenMonosUptoSaid : Prop := genMonosUptoRow.holds Tryd.pinned (OpenSpec.upto genMonosSpec)

end Rows
end Go.Proofs.YtkbmkmpoapafaaaDoor
