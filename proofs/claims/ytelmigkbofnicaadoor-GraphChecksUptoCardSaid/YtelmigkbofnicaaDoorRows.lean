/-
  NARROWER THAN 'FOR EVERY INPUT', by the rows' own cells (each row's printed sentence says how): GraphChecks: laid · GraphSame: laid · GraphTrims: laid · GraphTurns: laid · GraphFree: laid · GraphReach: laid.
  DERIVED. THE GIVEN ROWS OF THIS SEAT. 6 by the template 'for every input the law returns true; each argument reads behind the call as it read before'; 0 by the template 'total and deterministic' (their statements: YtelmigkbofnicaaDoorTotals.lean).
  GIVEN WITH THE SEED: the statements are not yours to turn. If you find one false, say at which input.
  Laid BY PROGRAM, IN A SANDBOX (cutbox-rows.mjs): the forced cells as the released guide's own fill.sh prints them over the translation 963c436030d1f97c… (all of the seat's roots in one cut). By AI agents, Wed Nov 11 2026. No macro, syntax, notation, axiom, sorry.
-/
import Derived.Test.YtelmigkbofnicaaDoorChecked
import GoSem.Claim
import GoSem.ClaimJoined
import GoSem.ClaimMapViews
import Derived.JoinedTies
import Derived.KernelRfl
namespace Go.Proofs.YtelmigkbofnicaaDoor
/- THE CELL 'sum', in the pinned program and in every row, IS THE sha256 OF THE DUMP (.gsa) THAT YtelmigkbofnicaaDoorProg.lean LOADS. Nothing in Lean hashes anything: it is a label: what it is worth is what the hold of that sum in a sandbox is worth. -/
noncomputable def Tryd.pinned : Pinned := { name := "ytelmigkbofnicaadoor", sum := "963c436030d1f97c3fd46621c32ec6f1ef3b3c4480c3c0ba3a127ce3ebb8c870", checked := Tryd.checked }
namespace Rows
def none {H : Type} : Left H := { results := [], args := [] }

/- WHAT THE LISTED PACKAGE-LEVEL VARIABLES READ AS WHEN THE CALL BEGINS. Each datum BY PROGRAM (the guide's laid-datum.mjs) off the statement by which the dump's own 'gosem.cut.vars' lays the variable. In a bare row this is a premise. The card (YtelmigkbofnicaaDoorCards.lean) ties it to the program's text. -/
def laid_trefoil_lex_errWord {H : Type} : DataW H := .iface "*errors.errorString" (.ptr (.agg [.lit (.string [116, 104, 101, 32, 119, 111, 114, 100, 32, 105, 115, 32, 116, 111, 111, 32, 108, 111, 110, 103, 44, 32, 111, 114, 32, 116, 104, 101, 114, 101, 32, 105, 115, 32, 110, 111, 110, 101])]))

/-- 'trefoillaw06.GraphChecks': WHATEVER THE INPUT: true; the input reads as it did. -/
def graphChecksSpec : ChangeSpec := { name := "graphChecks", fn := fun _ => fun
  | [d] => { results := [.lit (.bool true)], args := [d] }
  | _ => none }
def graphChecksRow : OpenClaim := { program := "ytelmigkbofnicaadoor", sum := "963c436030d1f97c3fd46621c32ec6f1ef3b3c4480c3c0ba3a127ce3ebb8c870", func := "trefoil/trefoillaw06.GraphChecks", spec := "graphChecks", unfollowed := true, recurses := true, named := ["trefoil/lex.errWord"], plainKeys := false, apart := false, laid := [("trefoil/lex.errWord", laid_trefoil_lex_errWord)] }
def GraphChecksSaid : Prop := graphChecksRow.holds Tryd.pinned (OpenSpec.ofChange graphChecksSpec)

/-- ITS FALSE NEIGHBOUR: 'it returns false'. Refute it at one input. -/
def graphChecksWrong : ChangeSpec := { name := "graphChecks", fn := fun _ => fun
  | [d] => { results := [.lit (.bool false)], args := [d] }
  | _ => none }
def GraphChecksWrongFalsely : Prop := graphChecksRow.holds Tryd.pinned (OpenSpec.ofChange graphChecksWrong)

/-- 'trefoillaw06.GraphSame': WHATEVER THE INPUT: true; the input reads as it did. -/
def graphSameSpec : ChangeSpec := { name := "graphSame", fn := fun _ => fun
  | [d1, d2] => { results := [.lit (.bool true)], args := [d1, d2] }
  | _ => none }
def graphSameRow : OpenClaim := { program := "ytelmigkbofnicaadoor", sum := "963c436030d1f97c3fd46621c32ec6f1ef3b3c4480c3c0ba3a127ce3ebb8c870", func := "trefoil/trefoillaw06.GraphSame", spec := "graphSame", unfollowed := true, recurses := true, named := ["trefoil/lex.errWord"], plainKeys := false, apart := false, laid := [("trefoil/lex.errWord", laid_trefoil_lex_errWord)] }
def GraphSameSaid : Prop := graphSameRow.holds Tryd.pinned (OpenSpec.ofChange graphSameSpec)

/-- ITS FALSE NEIGHBOUR: 'it returns false'. Refute it at one input. -/
def graphSameWrong : ChangeSpec := { name := "graphSame", fn := fun _ => fun
  | [d1, d2] => { results := [.lit (.bool false)], args := [d1, d2] }
  | _ => none }
def GraphSameWrongFalsely : Prop := graphSameRow.holds Tryd.pinned (OpenSpec.ofChange graphSameWrong)

/-- 'trefoillaw06.GraphTrims': WHATEVER THE INPUT: true; the input reads as it did. -/
def graphTrimsSpec : ChangeSpec := { name := "graphTrims", fn := fun _ => fun
  | [d1, d2] => { results := [.lit (.bool true)], args := [d1, d2] }
  | _ => none }
def graphTrimsRow : OpenClaim := { program := "ytelmigkbofnicaadoor", sum := "963c436030d1f97c3fd46621c32ec6f1ef3b3c4480c3c0ba3a127ce3ebb8c870", func := "trefoil/trefoillaw06.GraphTrims", spec := "graphTrims", unfollowed := true, recurses := true, named := ["trefoil/lex.errWord"], plainKeys := false, apart := false, laid := [("trefoil/lex.errWord", laid_trefoil_lex_errWord)] }
def GraphTrimsSaid : Prop := graphTrimsRow.holds Tryd.pinned (OpenSpec.ofChange graphTrimsSpec)

/-- ITS FALSE NEIGHBOUR: 'it returns false'. Refute it at one input. -/
def graphTrimsWrong : ChangeSpec := { name := "graphTrims", fn := fun _ => fun
  | [d1, d2] => { results := [.lit (.bool false)], args := [d1, d2] }
  | _ => none }
def GraphTrimsWrongFalsely : Prop := graphTrimsRow.holds Tryd.pinned (OpenSpec.ofChange graphTrimsWrong)

/-- 'trefoillaw06.GraphTurns': WHATEVER THE INPUT: true; the input reads as it did. -/
def graphTurnsSpec : ChangeSpec := { name := "graphTurns", fn := fun _ => fun
  | [d1, d2, d3] => { results := [.lit (.bool true)], args := [d1, d2, d3] }
  | _ => none }
def graphTurnsRow : OpenClaim := { program := "ytelmigkbofnicaadoor", sum := "963c436030d1f97c3fd46621c32ec6f1ef3b3c4480c3c0ba3a127ce3ebb8c870", func := "trefoil/trefoillaw06.GraphTurns", spec := "graphTurns", unfollowed := true, recurses := true, named := ["trefoil/lex.errWord"], plainKeys := false, apart := false, laid := [("trefoil/lex.errWord", laid_trefoil_lex_errWord)] }
def GraphTurnsSaid : Prop := graphTurnsRow.holds Tryd.pinned (OpenSpec.ofChange graphTurnsSpec)

/-- ITS FALSE NEIGHBOUR: 'it returns false'. Refute it at one input. -/
def graphTurnsWrong : ChangeSpec := { name := "graphTurns", fn := fun _ => fun
  | [d1, d2, d3] => { results := [.lit (.bool false)], args := [d1, d2, d3] }
  | _ => none }
def GraphTurnsWrongFalsely : Prop := graphTurnsRow.holds Tryd.pinned (OpenSpec.ofChange graphTurnsWrong)

/-- 'trefoillaw06.GraphFree': WHATEVER THE INPUT: true; the input reads as it did. -/
def graphFreeSpec : ChangeSpec := { name := "graphFree", fn := fun _ => fun
  | [d] => { results := [.lit (.bool true)], args := [d] }
  | _ => none }
def graphFreeRow : OpenClaim := { program := "ytelmigkbofnicaadoor", sum := "963c436030d1f97c3fd46621c32ec6f1ef3b3c4480c3c0ba3a127ce3ebb8c870", func := "trefoil/trefoillaw06.GraphFree", spec := "graphFree", unfollowed := true, recurses := true, named := ["trefoil/lex.errWord"], plainKeys := false, apart := false, laid := [("trefoil/lex.errWord", laid_trefoil_lex_errWord)] }
def GraphFreeSaid : Prop := graphFreeRow.holds Tryd.pinned (OpenSpec.ofChange graphFreeSpec)

/-- ITS FALSE NEIGHBOUR: 'it returns false'. Refute it at one input. -/
def graphFreeWrong : ChangeSpec := { name := "graphFree", fn := fun _ => fun
  | [d] => { results := [.lit (.bool false)], args := [d] }
  | _ => none }
def GraphFreeWrongFalsely : Prop := graphFreeRow.holds Tryd.pinned (OpenSpec.ofChange graphFreeWrong)

/-- 'trefoillaw06.GraphReach': WHATEVER THE INPUT: true; the input reads as it did. -/
def graphReachSpec : ChangeSpec := { name := "graphReach", fn := fun _ => fun
  | [d1, d2, d3] => { results := [.lit (.bool true)], args := [d1, d2, d3] }
  | _ => none }
def graphReachRow : OpenClaim := { program := "ytelmigkbofnicaadoor", sum := "963c436030d1f97c3fd46621c32ec6f1ef3b3c4480c3c0ba3a127ce3ebb8c870", func := "trefoil/trefoillaw06.GraphReach", spec := "graphReach", unfollowed := true, recurses := true, named := ["trefoil/lex.errWord"], plainKeys := false, apart := false, laid := [("trefoil/lex.errWord", laid_trefoil_lex_errWord)] }
def GraphReachSaid : Prop := graphReachRow.holds Tryd.pinned (OpenSpec.ofChange graphReachSpec)

/-- ITS FALSE NEIGHBOUR: 'it returns false'. Refute it at one input. -/
def graphReachWrong : ChangeSpec := { name := "graphReach", fn := fun _ => fun
  | [d1, d2, d3] => { results := [.lit (.bool false)], args := [d1, d2, d3] }
  | _ => none }
def GraphReachWrongFalsely : Prop := graphReachRow.holds Tryd.pinned (OpenSpec.ofChange graphReachWrong)

/- THE SECOND FORM. 'bulk': how many values and letters a reading holds, each counted each time it is reached (what is shared counts as often as it is met; a slice's spare places count too). A statement '..UptoSaid' is the law's where the arguments, and the package variables that the reading takes, are together of bulk at most 1048576: NARROWER than '..Said'. Prove '..Said' where nothing that the law and all that it calls make is longer than what came in: it says more and counts as full. Else prove '..UptoSaid'. A law counts once. -/
mutual
def uptoBulk {H : Type} : DataW H → Nat
  | .lit (.string bytes) => bytes.length + 1
  | .lit _ => 1
  | .nil => 1
  | .ptr d => uptoBulk d + 1
  | .slice elems spare => uptoBulkAll elems + uptoBulkAll spare + 1
  | .agg parts => uptoBulkAll parts + 1
  | .iface _ d => uptoBulk d + 1
  | .map entries => uptoBulkEntries entries + 1
  | .held _ => 1
def uptoBulkAll {H : Type} : List (DataW H) → Nat
  | [] => 0
  | d :: r => uptoBulk d + uptoBulkAll r
def uptoBulkEntries {H : Type} : List (Lit × DataW H) → Nat
  | [] => 0
  | x :: r => uptoBulkEntry x + uptoBulkEntries r
def uptoBulkEntry {H : Type} : Lit × DataW H → Nat
  | (.string bytes, d) => bytes.length + uptoBulk d + 1
  | (_, d) => uptoBulk d + 1
 end
def uptoSmall : (H : Type) → List (DataW H) → Bool := fun _ ds => decide (uptoBulkAll ds ≤ 1048576)
def OpenSpec.upto (s : _root_.Go.ChangeSpec) : _root_.Go.OpenSpec := { _root_.Go.OpenSpec.ofChange s with cond := some uptoSmall }

/-- 'trefoillaw06.GraphChecks', WHERE WHAT IT READS IS OF BULK AT MOST 1048576: true; the input reads as it did. -/
def graphChecksUptoRow : OpenClaim := { program := "ytelmigkbofnicaadoor", sum := "963c436030d1f97c3fd46621c32ec6f1ef3b3c4480c3c0ba3a127ce3ebb8c870", func := "trefoil/trefoillaw06.GraphChecks", spec := "graphChecks", unfollowed := true, recurses := true, named := ["trefoil/lex.errWord"], plainKeys := false, apart := false, laid := [("trefoil/lex.errWord", laid_trefoil_lex_errWord)], narrowed := true }
def GraphChecksUptoSaid : Prop := graphChecksUptoRow.holds Tryd.pinned (OpenSpec.upto graphChecksSpec)

/-- 'trefoillaw06.GraphSame', WHERE WHAT IT READS IS OF BULK AT MOST 1048576: true; the input reads as it did. -/
def graphSameUptoRow : OpenClaim := { program := "ytelmigkbofnicaadoor", sum := "963c436030d1f97c3fd46621c32ec6f1ef3b3c4480c3c0ba3a127ce3ebb8c870", func := "trefoil/trefoillaw06.GraphSame", spec := "graphSame", unfollowed := true, recurses := true, named := ["trefoil/lex.errWord"], plainKeys := false, apart := false, laid := [("trefoil/lex.errWord", laid_trefoil_lex_errWord)], narrowed := true }
def GraphSameUptoSaid : Prop := graphSameUptoRow.holds Tryd.pinned (OpenSpec.upto graphSameSpec)

/-- 'trefoillaw06.GraphTrims', WHERE WHAT IT READS IS OF BULK AT MOST 1048576: true; the input reads as it did. -/
def graphTrimsUptoRow : OpenClaim := { program := "ytelmigkbofnicaadoor", sum := "963c436030d1f97c3fd46621c32ec6f1ef3b3c4480c3c0ba3a127ce3ebb8c870", func := "trefoil/trefoillaw06.GraphTrims", spec := "graphTrims", unfollowed := true, recurses := true, named := ["trefoil/lex.errWord"], plainKeys := false, apart := false, laid := [("trefoil/lex.errWord", laid_trefoil_lex_errWord)], narrowed := true }
def GraphTrimsUptoSaid : Prop := graphTrimsUptoRow.holds Tryd.pinned (OpenSpec.upto graphTrimsSpec)

/-- 'trefoillaw06.GraphTurns', WHERE WHAT IT READS IS OF BULK AT MOST 1048576: true; the input reads as it did. -/
def graphTurnsUptoRow : OpenClaim := { program := "ytelmigkbofnicaadoor", sum := "963c436030d1f97c3fd46621c32ec6f1ef3b3c4480c3c0ba3a127ce3ebb8c870", func := "trefoil/trefoillaw06.GraphTurns", spec := "graphTurns", unfollowed := true, recurses := true, named := ["trefoil/lex.errWord"], plainKeys := false, apart := false, laid := [("trefoil/lex.errWord", laid_trefoil_lex_errWord)], narrowed := true }
def GraphTurnsUptoSaid : Prop := graphTurnsUptoRow.holds Tryd.pinned (OpenSpec.upto graphTurnsSpec)

/-- 'trefoillaw06.GraphFree', WHERE WHAT IT READS IS OF BULK AT MOST 1048576: true; the input reads as it did. -/
def graphFreeUptoRow : OpenClaim := { program := "ytelmigkbofnicaadoor", sum := "963c436030d1f97c3fd46621c32ec6f1ef3b3c4480c3c0ba3a127ce3ebb8c870", func := "trefoil/trefoillaw06.GraphFree", spec := "graphFree", unfollowed := true, recurses := true, named := ["trefoil/lex.errWord"], plainKeys := false, apart := false, laid := [("trefoil/lex.errWord", laid_trefoil_lex_errWord)], narrowed := true }
def GraphFreeUptoSaid : Prop := graphFreeUptoRow.holds Tryd.pinned (OpenSpec.upto graphFreeSpec)

/-- 'trefoillaw06.GraphReach', WHERE WHAT IT READS IS OF BULK AT MOST 1048576: true; the input reads as it did. -/
def graphReachUptoRow : OpenClaim := { program := "ytelmigkbofnicaadoor", sum := "963c436030d1f97c3fd46621c32ec6f1ef3b3c4480c3c0ba3a127ce3ebb8c870", func := "trefoil/trefoillaw06.GraphReach", spec := "graphReach", unfollowed := true, recurses := true, named := ["trefoil/lex.errWord"], plainKeys := false, apart := false, laid := [("trefoil/lex.errWord", laid_trefoil_lex_errWord)], narrowed := true }
def GraphReachUptoSaid : Prop := graphReachUptoRow.holds Tryd.pinned (OpenSpec.upto graphReachSpec)

end Rows
end Go.Proofs.YtelmigkbofnicaaDoor
