/-
  DERIVED. GIVEN WITH THE SEED: THE CARDS: each row of YtkncdohghafeiaaGreatDoorRows.lean that lists a variable, with what it lists TIED to the program's text (the seventh form; the later family's looks); each row that meets fmt, with fmt's text TOLD by the authors' own Lean function (tested against real Go, not proved from fmt's source: count such statements apart). THE CARD IS WHAT COUNTS. Prove the row's statement (the work); the ties are given (YtkncdohghafeiaaGreatDoorTie.lean); close each card by the builder's one call (the guide's Derived/Test/ToyasCard.lean, 'card_holds'). Laid BY PROGRAM, IN A SANDBOX (cutbox-door.mjs). By AI agents, Wed Nov 11 2026. No macro, syntax, notation, axiom, sorry.
-/
import Derived.Test.YtkncdohghafeiaaGreatDoorRows
import GoSem.ClaimSeven
namespace Go.Proofs.YtkncdohghafeiaaGreatDoor
namespace Rows

/-- THE TIED CARD OF 'vergerlaw06.DnParses'. -/
def dnParsesCard : Claim7 := { stood := { row := dnParsesRow, standIns := [], harness := (true, "511bff53278ab217e2efbdba333890936ce4bb410040426b7c5b5b7b617a264a"), looks := true }, kinds := [], alts := [], laidByText := true, laidKinds := [.data, .data, .data, .data, .sentinel, .sentinel, .data, .pinned], laidTests := true, laidLooks := .later }
def DnParsesCardSaid : Prop := Claim7.holds Tryz.pinned (.plain (OpenSpec.ofChange dnParsesSpec)) dnParsesCard

/-- THE TIED CARD OF 'vergerlaw06.DnPrints'. -/
def dnPrintsCard : Claim7 := { stood := { row := dnPrintsRow, standIns := [], harness := (true, "511bff53278ab217e2efbdba333890936ce4bb410040426b7c5b5b7b617a264a"), looks := true }, kinds := [], alts := [], laidByText := true, laidKinds := [.data, .data, .data, .data, .sentinel, .sentinel, .data, .pinned], laidTests := true, laidLooks := .later }
def DnPrintsCardSaid : Prop := Claim7.holds Tryz.pinned (.plain (OpenSpec.ofChange dnPrintsSpec)) dnPrintsCard

/-- THE TIED CARD OF 'vergerlaw06.DnNormals'. -/
def dnNormalsCard : Claim7 := { stood := { row := dnNormalsRow, standIns := [], harness := (true, "511bff53278ab217e2efbdba333890936ce4bb410040426b7c5b5b7b617a264a"), looks := true }, kinds := [], alts := [], laidByText := true, laidKinds := [.data, .data, .data, .data, .sentinel, .sentinel, .data, .pinned], laidTests := true, laidLooks := .later }
def DnNormalsCardSaid : Prop := Claim7.holds Tryz.pinned (.plain (OpenSpec.ofChange dnNormalsSpec)) dnNormalsCard

/-- THE TIED CARD OF 'vergerlaw06.DnOrders'. -/
def dnOrdersCard : Claim7 := { stood := { row := dnOrdersRow, standIns := [], harness := (true, "511bff53278ab217e2efbdba333890936ce4bb410040426b7c5b5b7b617a264a"), looks := true }, kinds := [], alts := [], laidByText := true, laidKinds := [.data, .data, .data, .data, .sentinel, .sentinel, .data, .pinned], laidTests := true, laidLooks := .later }
def DnOrdersCardSaid : Prop := Claim7.holds Tryz.pinned (.plain (OpenSpec.ofChange dnOrdersSpec)) dnOrdersCard

/-- THE TIED CARD OF 'vergerlaw06.DnAbove'. -/
def dnAboveCard : Claim7 := { stood := { row := dnAboveRow, standIns := [], harness := (true, "511bff53278ab217e2efbdba333890936ce4bb410040426b7c5b5b7b617a264a"), looks := true }, kinds := [], alts := [], laidByText := true, laidKinds := [.data, .data, .data, .data, .sentinel, .sentinel, .data, .pinned], laidTests := true, laidLooks := .later }
def DnAboveCardSaid : Prop := Claim7.holds Tryz.pinned (.plain (OpenSpec.ofChange dnAboveSpec)) dnAboveCard

/-- THE TIED CARD OF 'vergerlaw06.DnJoins'. -/
def dnJoinsCard : Claim7 := { stood := { row := dnJoinsRow, standIns := [], harness := (true, "511bff53278ab217e2efbdba333890936ce4bb410040426b7c5b5b7b617a264a"), looks := true }, kinds := [], alts := [], laidByText := true, laidKinds := [.data, .data, .data, .data, .sentinel, .sentinel, .data, .pinned], laidTests := true, laidLooks := .later }
def DnJoinsCardSaid : Prop := Claim7.holds Tryz.pinned (.plain (OpenSpec.ofChange dnJoinsSpec)) dnJoinsCard

/-- THE TIED CARD OF 'vergerlaw06.DnMoves'. -/
def dnMovesCard : Claim7 := { stood := { row := dnMovesRow, standIns := [], harness := (true, "511bff53278ab217e2efbdba333890936ce4bb410040426b7c5b5b7b617a264a"), looks := true }, kinds := [], alts := [], laidByText := true, laidKinds := [.data, .data, .data, .data, .sentinel, .sentinel, .data, .pinned], laidTests := true, laidLooks := .later }
def DnMovesCardSaid : Prop := Claim7.holds Tryz.pinned (.plain (OpenSpec.ofChange dnMovesSpec)) dnMovesCard

/-- THE SECOND FORM's CARD OF 'vergerlaw06.DnParses'. -/
def dnParsesUptoCard : Claim7 := { stood := { row := dnParsesUptoRow, standIns := [], harness := (true, "511bff53278ab217e2efbdba333890936ce4bb410040426b7c5b5b7b617a264a"), looks := true }, kinds := [], alts := [], laidByText := true, laidKinds := [.data, .data, .data, .data, .sentinel, .sentinel, .data, .pinned], laidTests := true, laidLooks := .later }
def DnParsesUptoCardSaid : Prop := Claim7.holds Tryz.pinned (.plain (OpenSpec.upto dnParsesSpec)) dnParsesUptoCard

/-- THE SECOND FORM's CARD OF 'vergerlaw06.DnPrints'. -/
def dnPrintsUptoCard : Claim7 := { stood := { row := dnPrintsUptoRow, standIns := [], harness := (true, "511bff53278ab217e2efbdba333890936ce4bb410040426b7c5b5b7b617a264a"), looks := true }, kinds := [], alts := [], laidByText := true, laidKinds := [.data, .data, .data, .data, .sentinel, .sentinel, .data, .pinned], laidTests := true, laidLooks := .later }
def DnPrintsUptoCardSaid : Prop := Claim7.holds Tryz.pinned (.plain (OpenSpec.upto dnPrintsSpec)) dnPrintsUptoCard

/-- THE SECOND FORM's CARD OF 'vergerlaw06.DnNormals'. -/
def dnNormalsUptoCard : Claim7 := { stood := { row := dnNormalsUptoRow, standIns := [], harness := (true, "511bff53278ab217e2efbdba333890936ce4bb410040426b7c5b5b7b617a264a"), looks := true }, kinds := [], alts := [], laidByText := true, laidKinds := [.data, .data, .data, .data, .sentinel, .sentinel, .data, .pinned], laidTests := true, laidLooks := .later }
def DnNormalsUptoCardSaid : Prop := Claim7.holds Tryz.pinned (.plain (OpenSpec.upto dnNormalsSpec)) dnNormalsUptoCard

/-- THE SECOND FORM's CARD OF 'vergerlaw06.DnOrders'. -/
def dnOrdersUptoCard : Claim7 := { stood := { row := dnOrdersUptoRow, standIns := [], harness := (true, "511bff53278ab217e2efbdba333890936ce4bb410040426b7c5b5b7b617a264a"), looks := true }, kinds := [], alts := [], laidByText := true, laidKinds := [.data, .data, .data, .data, .sentinel, .sentinel, .data, .pinned], laidTests := true, laidLooks := .later }
def DnOrdersUptoCardSaid : Prop := Claim7.holds Tryz.pinned (.plain (OpenSpec.upto dnOrdersSpec)) dnOrdersUptoCard

/-- THE SECOND FORM's CARD OF 'vergerlaw06.DnAbove'. -/
def dnAboveUptoCard : Claim7 := { stood := { row := dnAboveUptoRow, standIns := [], harness := (true, "511bff53278ab217e2efbdba333890936ce4bb410040426b7c5b5b7b617a264a"), looks := true }, kinds := [], alts := [], laidByText := true, laidKinds := [.data, .data, .data, .data, .sentinel, .sentinel, .data, .pinned], laidTests := true, laidLooks := .later }
def DnAboveUptoCardSaid : Prop := Claim7.holds Tryz.pinned (.plain (OpenSpec.upto dnAboveSpec)) dnAboveUptoCard

/-- THE SECOND FORM's CARD OF 'vergerlaw06.DnJoins'. -/
def dnJoinsUptoCard : Claim7 := { stood := { row := dnJoinsUptoRow, standIns := [], harness := (true, "511bff53278ab217e2efbdba333890936ce4bb410040426b7c5b5b7b617a264a"), looks := true }, kinds := [], alts := [], laidByText := true, laidKinds := [.data, .data, .data, .data, .sentinel, .sentinel, .data, .pinned], laidTests := true, laidLooks := .later }
def DnJoinsUptoCardSaid : Prop := Claim7.holds Tryz.pinned (.plain (OpenSpec.upto dnJoinsSpec)) dnJoinsUptoCard

/-- THE SECOND FORM's CARD OF 'vergerlaw06.DnMoves'. -/
def dnMovesUptoCard : Claim7 := { stood := { row := dnMovesUptoRow, standIns := [], harness := (true, "511bff53278ab217e2efbdba333890936ce4bb410040426b7c5b5b7b617a264a"), looks := true }, kinds := [], alts := [], laidByText := true, laidKinds := [.data, .data, .data, .data, .sentinel, .sentinel, .data, .pinned], laidTests := true, laidLooks := .later }
def DnMovesUptoCardSaid : Prop := Claim7.holds Tryz.pinned (.plain (OpenSpec.upto dnMovesSpec)) dnMovesUptoCard
end Rows
end Go.Proofs.YtkncdohghafeiaaGreatDoor
