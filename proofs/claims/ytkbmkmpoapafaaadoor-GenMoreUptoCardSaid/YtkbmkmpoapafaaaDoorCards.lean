/-
  DERIVED. GIVEN WITH THE SEED: THE CARDS: each row of YtkbmkmpoapafaaaDoorRows.lean that lists a variable, with what it lists TIED to the program's text (the seventh form; the later family's looks); each row that meets fmt, with fmt's text TOLD by the authors' own Lean function (tested against real Go, not proved from fmt's source: count such statements apart). THE CARD IS WHAT COUNTS. Prove the row's statement (the work); the ties are given (YtkbmkmpoapafaaaDoorTie.lean); close each card by the builder's one call (the guide's Derived/Test/ToyasCard.lean, 'card_holds'). Laid BY PROGRAM, IN A SANDBOX (cutbox-door.mjs). By AI agents, Wed Nov 11 2026. No macro, syntax, notation, axiom, sorry.
-/
import Derived.Test.YtkbmkmpoapafaaaDoorRows
import GoSem.ClaimSeven
namespace Go.Proofs.YtkbmkmpoapafaaaDoor
namespace Rows

/-- THE TIED CARD OF 'trefoillaw13.GenSame'. -/
def genSameCard : Claim7 := { stood := { row := genSameRow, standIns := [], harness := (true, "6ed58f9101f64a788aea35dd0791ade8bd930621ef3fe3cddb58e3cc2921a5ba"), looks := false }, kinds := [], alts := [], laidByText := true, laidKinds := [.sentinel], laidTests := true, laidLooks := .later }
def GenSameCardSaid : Prop := Claim7.holds Tryd.pinned (.plain (OpenSpec.ofChange genSameSpec)) genSameCard

/-- THE TIED CARD OF 'trefoillaw13.GenPairs'. -/
def genPairsCard : Claim7 := { stood := { row := genPairsRow, standIns := [], harness := (true, "6ed58f9101f64a788aea35dd0791ade8bd930621ef3fe3cddb58e3cc2921a5ba"), looks := false }, kinds := [], alts := [], laidByText := true, laidKinds := [.sentinel], laidTests := true, laidLooks := .later }
def GenPairsCardSaid : Prop := Claim7.holds Tryd.pinned (.plain (OpenSpec.ofChange genPairsSpec)) genPairsCard

/-- THE TIED CARD OF 'trefoillaw13.GenMore'. -/
def genMoreCard : Claim7 := { stood := { row := genMoreRow, standIns := [], harness := (true, "6ed58f9101f64a788aea35dd0791ade8bd930621ef3fe3cddb58e3cc2921a5ba"), looks := false }, kinds := [], alts := [], laidByText := true, laidKinds := [.sentinel], laidTests := true, laidLooks := .later }
def GenMoreCardSaid : Prop := Claim7.holds Tryd.pinned (.plain (OpenSpec.ofChange genMoreSpec)) genMoreCard

/-- THE TIED CARD OF 'trefoillaw13.GenMonos'. -/
def genMonosCard : Claim7 := { stood := { row := genMonosRow, standIns := [], harness := (true, "6ed58f9101f64a788aea35dd0791ade8bd930621ef3fe3cddb58e3cc2921a5ba"), looks := false }, kinds := [], alts := [], laidByText := true, laidKinds := [.sentinel], laidTests := true, laidLooks := .later }
def GenMonosCardSaid : Prop := Claim7.holds Tryd.pinned (.plain (OpenSpec.ofChange genMonosSpec)) genMonosCard

/-- THE SECOND FORM's CARD OF 'trefoillaw13.GenSame'. -/
def genSameUptoCard : Claim7 := { stood := { row := genSameUptoRow, standIns := [], harness := (true, "6ed58f9101f64a788aea35dd0791ade8bd930621ef3fe3cddb58e3cc2921a5ba"), looks := false }, kinds := [], alts := [], laidByText := true, laidKinds := [.sentinel], laidTests := true, laidLooks := .later }
def GenSameUptoCardSaid : Prop := Claim7.holds Tryd.pinned (.plain (OpenSpec.upto genSameSpec)) genSameUptoCard

/-- THE SECOND FORM's CARD OF 'trefoillaw13.GenPairs'. -/
def genPairsUptoCard : Claim7 := { stood := { row := genPairsUptoRow, standIns := [], harness := (true, "6ed58f9101f64a788aea35dd0791ade8bd930621ef3fe3cddb58e3cc2921a5ba"), looks := false }, kinds := [], alts := [], laidByText := true, laidKinds := [.sentinel], laidTests := true, laidLooks := .later }
def GenPairsUptoCardSaid : Prop := Claim7.holds Tryd.pinned (.plain (OpenSpec.upto genPairsSpec)) genPairsUptoCard

/-- THE SECOND FORM's CARD OF 'trefoillaw13.GenMore'. -/
def genMoreUptoCard : Claim7 := { stood := { row := genMoreUptoRow, standIns := [], harness := (true, "6ed58f9101f64a788aea35dd0791ade8bd930621ef3fe3cddb58e3cc2921a5ba"), looks := false }, kinds := [], alts := [], laidByText := true, laidKinds := [.sentinel], laidTests := true, laidLooks := .later }
def GenMoreUptoCardSaid : Prop := Claim7.holds Tryd.pinned (.plain (OpenSpec.upto genMoreSpec)) genMoreUptoCard

/-- THE SECOND FORM's CARD OF 'trefoillaw13.GenMonos'. -/
def genMonosUptoCard : Claim7 := { stood := { row := genMonosUptoRow, standIns := [], harness := (true, "6ed58f9101f64a788aea35dd0791ade8bd930621ef3fe3cddb58e3cc2921a5ba"), looks := false }, kinds := [], alts := [], laidByText := true, laidKinds := [.sentinel], laidTests := true, laidLooks := .later }
def GenMonosUptoCardSaid : Prop := Claim7.holds Tryd.pinned (.plain (OpenSpec.upto genMonosSpec)) genMonosUptoCard
end Rows
end Go.Proofs.YtkbmkmpoapafaaaDoor
