/-
  DERIVED. GIVEN WITH THE SEED: THE CARDS: each row of YtelmigkbofnicaaDoorRows.lean that lists a variable, with what it lists TIED to the program's text (the seventh form; the later family's looks); each row that meets fmt, with fmt's text TOLD by the authors' own Lean function (tested against real Go, not proved from fmt's source: count such statements apart). THE CARD IS WHAT COUNTS. Prove the row's statement (the work); the ties are given (YtelmigkbofnicaaDoorTie.lean); close each card by the builder's one call (the guide's Derived/Test/ToyasCard.lean, 'card_holds'). Laid BY PROGRAM, IN A SANDBOX (cutbox-door.mjs). By AI agents, Wed Nov 11 2026. No macro, syntax, notation, axiom, sorry.
-/
import Derived.Test.YtelmigkbofnicaaDoorRows
import GoSem.ClaimSeven
namespace Go.Proofs.YtelmigkbofnicaaDoor
namespace Rows

/-- THE TIED CARD OF 'trefoillaw06.GraphChecks'. -/
def graphChecksCard : Claim7 := { stood := { row := graphChecksRow, standIns := [], harness := (true, "b516b6f8ebc40e73df828a42ebe6339a9db5df79fa592820e96c9f74fdda75fe"), looks := false }, kinds := [], alts := [], laidByText := true, laidKinds := [.sentinel], laidTests := true, laidLooks := .later }
def GraphChecksCardSaid : Prop := Claim7.holds Tryd.pinned (.plain (OpenSpec.ofChange graphChecksSpec)) graphChecksCard

/-- THE TIED CARD OF 'trefoillaw06.GraphSame'. -/
def graphSameCard : Claim7 := { stood := { row := graphSameRow, standIns := [], harness := (true, "b516b6f8ebc40e73df828a42ebe6339a9db5df79fa592820e96c9f74fdda75fe"), looks := false }, kinds := [], alts := [], laidByText := true, laidKinds := [.sentinel], laidTests := true, laidLooks := .later }
def GraphSameCardSaid : Prop := Claim7.holds Tryd.pinned (.plain (OpenSpec.ofChange graphSameSpec)) graphSameCard

/-- THE TIED CARD OF 'trefoillaw06.GraphTrims'. -/
def graphTrimsCard : Claim7 := { stood := { row := graphTrimsRow, standIns := [], harness := (true, "b516b6f8ebc40e73df828a42ebe6339a9db5df79fa592820e96c9f74fdda75fe"), looks := false }, kinds := [], alts := [], laidByText := true, laidKinds := [.sentinel], laidTests := true, laidLooks := .later }
def GraphTrimsCardSaid : Prop := Claim7.holds Tryd.pinned (.plain (OpenSpec.ofChange graphTrimsSpec)) graphTrimsCard

/-- THE TIED CARD OF 'trefoillaw06.GraphTurns'. -/
def graphTurnsCard : Claim7 := { stood := { row := graphTurnsRow, standIns := [], harness := (true, "b516b6f8ebc40e73df828a42ebe6339a9db5df79fa592820e96c9f74fdda75fe"), looks := false }, kinds := [], alts := [], laidByText := true, laidKinds := [.sentinel], laidTests := true, laidLooks := .later }
def GraphTurnsCardSaid : Prop := Claim7.holds Tryd.pinned (.plain (OpenSpec.ofChange graphTurnsSpec)) graphTurnsCard

/-- THE TIED CARD OF 'trefoillaw06.GraphFree'. -/
def graphFreeCard : Claim7 := { stood := { row := graphFreeRow, standIns := [], harness := (true, "b516b6f8ebc40e73df828a42ebe6339a9db5df79fa592820e96c9f74fdda75fe"), looks := false }, kinds := [], alts := [], laidByText := true, laidKinds := [.sentinel], laidTests := true, laidLooks := .later }
def GraphFreeCardSaid : Prop := Claim7.holds Tryd.pinned (.plain (OpenSpec.ofChange graphFreeSpec)) graphFreeCard

/-- THE TIED CARD OF 'trefoillaw06.GraphReach'. -/
def graphReachCard : Claim7 := { stood := { row := graphReachRow, standIns := [], harness := (true, "b516b6f8ebc40e73df828a42ebe6339a9db5df79fa592820e96c9f74fdda75fe"), looks := false }, kinds := [], alts := [], laidByText := true, laidKinds := [.sentinel], laidTests := true, laidLooks := .later }
def GraphReachCardSaid : Prop := Claim7.holds Tryd.pinned (.plain (OpenSpec.ofChange graphReachSpec)) graphReachCard

/-- THE SECOND FORM's CARD OF 'trefoillaw06.GraphChecks'. -/
def graphChecksUptoCard : Claim7 := { stood := { row := graphChecksUptoRow, standIns := [], harness := (true, "b516b6f8ebc40e73df828a42ebe6339a9db5df79fa592820e96c9f74fdda75fe"), looks := false }, kinds := [], alts := [], laidByText := true, laidKinds := [.sentinel], laidTests := true, laidLooks := .later }
def GraphChecksUptoCardSaid : Prop := Claim7.holds Tryd.pinned (.plain (OpenSpec.upto graphChecksSpec)) graphChecksUptoCard

/-- THE SECOND FORM's CARD OF 'trefoillaw06.GraphSame'. -/
def graphSameUptoCard : Claim7 := { stood := { row := graphSameUptoRow, standIns := [], harness := (true, "b516b6f8ebc40e73df828a42ebe6339a9db5df79fa592820e96c9f74fdda75fe"), looks := false }, kinds := [], alts := [], laidByText := true, laidKinds := [.sentinel], laidTests := true, laidLooks := .later }
def GraphSameUptoCardSaid : Prop := Claim7.holds Tryd.pinned (.plain (OpenSpec.upto graphSameSpec)) graphSameUptoCard

/-- THE SECOND FORM's CARD OF 'trefoillaw06.GraphTrims'. -/
def graphTrimsUptoCard : Claim7 := { stood := { row := graphTrimsUptoRow, standIns := [], harness := (true, "b516b6f8ebc40e73df828a42ebe6339a9db5df79fa592820e96c9f74fdda75fe"), looks := false }, kinds := [], alts := [], laidByText := true, laidKinds := [.sentinel], laidTests := true, laidLooks := .later }
def GraphTrimsUptoCardSaid : Prop := Claim7.holds Tryd.pinned (.plain (OpenSpec.upto graphTrimsSpec)) graphTrimsUptoCard

/-- THE SECOND FORM's CARD OF 'trefoillaw06.GraphTurns'. -/
def graphTurnsUptoCard : Claim7 := { stood := { row := graphTurnsUptoRow, standIns := [], harness := (true, "b516b6f8ebc40e73df828a42ebe6339a9db5df79fa592820e96c9f74fdda75fe"), looks := false }, kinds := [], alts := [], laidByText := true, laidKinds := [.sentinel], laidTests := true, laidLooks := .later }
def GraphTurnsUptoCardSaid : Prop := Claim7.holds Tryd.pinned (.plain (OpenSpec.upto graphTurnsSpec)) graphTurnsUptoCard

/-- THE SECOND FORM's CARD OF 'trefoillaw06.GraphFree'. -/
def graphFreeUptoCard : Claim7 := { stood := { row := graphFreeUptoRow, standIns := [], harness := (true, "b516b6f8ebc40e73df828a42ebe6339a9db5df79fa592820e96c9f74fdda75fe"), looks := false }, kinds := [], alts := [], laidByText := true, laidKinds := [.sentinel], laidTests := true, laidLooks := .later }
def GraphFreeUptoCardSaid : Prop := Claim7.holds Tryd.pinned (.plain (OpenSpec.upto graphFreeSpec)) graphFreeUptoCard

/-- THE SECOND FORM's CARD OF 'trefoillaw06.GraphReach'. -/
def graphReachUptoCard : Claim7 := { stood := { row := graphReachUptoRow, standIns := [], harness := (true, "b516b6f8ebc40e73df828a42ebe6339a9db5df79fa592820e96c9f74fdda75fe"), looks := false }, kinds := [], alts := [], laidByText := true, laidKinds := [.sentinel], laidTests := true, laidLooks := .later }
def GraphReachUptoCardSaid : Prop := Claim7.holds Tryd.pinned (.plain (OpenSpec.upto graphReachSpec)) graphReachUptoCard
end Rows
end Go.Proofs.YtelmigkbofnicaaDoor
