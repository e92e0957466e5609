/-
  DERIVED. GIVEN WITH THE SEED: THE CARDS: each row of YtihoachcpabkeaaGreatDoorRows.lean that lists a variable, with what it lists TIED to the program's text (the seventh form; the later family's looks); each row that meets fmt, with fmt's text TOLD by the authors' own Lean function (tested against real Go, not proved from fmt's source: count such statements apart). THE CARD IS WHAT COUNTS. Prove the row's statement (the work); the ties are given (YtihoachcpabkeaaGreatDoorTie.lean); close each card by the builder's one call (the guide's Derived/Test/ToyasCard.lean, 'card_holds'). Laid BY PROGRAM, IN A SANDBOX (cutbox-door.mjs). By AI agents, Wed Nov 11 2026. No macro, syntax, notation, axiom, sorry.
-/
import Derived.Test.YtihoachcpabkeaaGreatDoorRows
import GoSem.ClaimSeven
namespace Go.Proofs.YtihoachcpabkeaaGreatDoor
namespace Rows

/-- THE TIED CARD OF 'vergerlaw05.RdnPrints'. -/
def rdnPrintsCard : Claim7 := { stood := { row := rdnPrintsRow, standIns := [], harness := (true, "9dd5d7eade05abe0a0c12aade40cb8429bbf4ea97698e70a9be2983f0adee3d0"), looks := true }, kinds := [], alts := [], laidByText := true, laidKinds := [.data, .data, .data, .data, .sentinel, .sentinel, .data, .pinned], laidTests := true, laidLooks := .later }
def RdnPrintsCardSaid : Prop := Claim7.holds Tryz.pinned (.plain (OpenSpec.ofChange rdnPrintsSpec)) rdnPrintsCard

/-- THE TIED CARD OF 'vergerlaw05.RdnParses'. -/
def rdnParsesCard : Claim7 := { stood := { row := rdnParsesRow, standIns := [], harness := (true, "9dd5d7eade05abe0a0c12aade40cb8429bbf4ea97698e70a9be2983f0adee3d0"), looks := true }, kinds := [], alts := [], laidByText := true, laidKinds := [.data, .data, .data, .data, .sentinel, .sentinel, .data, .pinned], laidTests := true, laidLooks := .later }
def RdnParsesCardSaid : Prop := Claim7.holds Tryz.pinned (.plain (OpenSpec.ofChange rdnParsesSpec)) rdnParsesCard

/-- THE TIED CARD OF 'vergerlaw05.RdnBack'. -/
def rdnBackCard : Claim7 := { stood := { row := rdnBackRow, standIns := [], harness := (true, "9dd5d7eade05abe0a0c12aade40cb8429bbf4ea97698e70a9be2983f0adee3d0"), looks := true }, kinds := [], alts := [], laidByText := true, laidKinds := [.data, .data, .data, .data, .sentinel, .sentinel, .data, .pinned], laidTests := true, laidLooks := .later }
def RdnBackCardSaid : Prop := Claim7.holds Tryz.pinned (.plain (OpenSpec.ofChange rdnBackSpec)) rdnBackCard

/-- THE TIED CARD OF 'vergerlaw05.RdnNormals'. -/
def rdnNormalsCard : Claim7 := { stood := { row := rdnNormalsRow, standIns := [], harness := (true, "9dd5d7eade05abe0a0c12aade40cb8429bbf4ea97698e70a9be2983f0adee3d0"), looks := true }, kinds := [], alts := [], laidByText := true, laidKinds := [.data, .data, .data, .data, .sentinel, .sentinel, .data, .pinned], laidTests := true, laidLooks := .later }
def RdnNormalsCardSaid : Prop := Claim7.holds Tryz.pinned (.plain (OpenSpec.ofChange rdnNormalsSpec)) rdnNormalsCard

/-- THE TIED CARD OF 'vergerlaw05.RdnEscapes'. -/
def rdnEscapesCard : Claim7 := { stood := { row := rdnEscapesRow, standIns := [], harness := (true, "9dd5d7eade05abe0a0c12aade40cb8429bbf4ea97698e70a9be2983f0adee3d0"), looks := true }, kinds := [], alts := [], laidByText := true, laidKinds := [.data, .data, .data, .data, .sentinel, .sentinel, .data, .pinned], laidTests := true, laidLooks := .later }
def RdnEscapesCardSaid : Prop := Claim7.holds Tryz.pinned (.plain (OpenSpec.ofChange rdnEscapesSpec)) rdnEscapesCard

/-- THE SECOND FORM's CARD OF 'vergerlaw05.RdnPrints'. -/
def rdnPrintsUptoCard : Claim7 := { stood := { row := rdnPrintsUptoRow, standIns := [], harness := (true, "9dd5d7eade05abe0a0c12aade40cb8429bbf4ea97698e70a9be2983f0adee3d0"), looks := true }, kinds := [], alts := [], laidByText := true, laidKinds := [.data, .data, .data, .data, .sentinel, .sentinel, .data, .pinned], laidTests := true, laidLooks := .later }
def RdnPrintsUptoCardSaid : Prop := Claim7.holds Tryz.pinned (.plain (OpenSpec.upto rdnPrintsSpec)) rdnPrintsUptoCard

/-- THE SECOND FORM's CARD OF 'vergerlaw05.RdnParses'. -/
def rdnParsesUptoCard : Claim7 := { stood := { row := rdnParsesUptoRow, standIns := [], harness := (true, "9dd5d7eade05abe0a0c12aade40cb8429bbf4ea97698e70a9be2983f0adee3d0"), looks := true }, kinds := [], alts := [], laidByText := true, laidKinds := [.data, .data, .data, .data, .sentinel, .sentinel, .data, .pinned], laidTests := true, laidLooks := .later }
def RdnParsesUptoCardSaid : Prop := Claim7.holds Tryz.pinned (.plain (OpenSpec.upto rdnParsesSpec)) rdnParsesUptoCard

/-- THE SECOND FORM's CARD OF 'vergerlaw05.RdnBack'. -/
def rdnBackUptoCard : Claim7 := { stood := { row := rdnBackUptoRow, standIns := [], harness := (true, "9dd5d7eade05abe0a0c12aade40cb8429bbf4ea97698e70a9be2983f0adee3d0"), looks := true }, kinds := [], alts := [], laidByText := true, laidKinds := [.data, .data, .data, .data, .sentinel, .sentinel, .data, .pinned], laidTests := true, laidLooks := .later }
def RdnBackUptoCardSaid : Prop := Claim7.holds Tryz.pinned (.plain (OpenSpec.upto rdnBackSpec)) rdnBackUptoCard

/-- THE SECOND FORM's CARD OF 'vergerlaw05.RdnNormals'. -/
def rdnNormalsUptoCard : Claim7 := { stood := { row := rdnNormalsUptoRow, standIns := [], harness := (true, "9dd5d7eade05abe0a0c12aade40cb8429bbf4ea97698e70a9be2983f0adee3d0"), looks := true }, kinds := [], alts := [], laidByText := true, laidKinds := [.data, .data, .data, .data, .sentinel, .sentinel, .data, .pinned], laidTests := true, laidLooks := .later }
def RdnNormalsUptoCardSaid : Prop := Claim7.holds Tryz.pinned (.plain (OpenSpec.upto rdnNormalsSpec)) rdnNormalsUptoCard

/-- THE SECOND FORM's CARD OF 'vergerlaw05.RdnEscapes'. -/
def rdnEscapesUptoCard : Claim7 := { stood := { row := rdnEscapesUptoRow, standIns := [], harness := (true, "9dd5d7eade05abe0a0c12aade40cb8429bbf4ea97698e70a9be2983f0adee3d0"), looks := true }, kinds := [], alts := [], laidByText := true, laidKinds := [.data, .data, .data, .data, .sentinel, .sentinel, .data, .pinned], laidTests := true, laidLooks := .later }
def RdnEscapesUptoCardSaid : Prop := Claim7.holds Tryz.pinned (.plain (OpenSpec.upto rdnEscapesSpec)) rdnEscapesUptoCard
end Rows
end Go.Proofs.YtihoachcpabkeaaGreatDoor
