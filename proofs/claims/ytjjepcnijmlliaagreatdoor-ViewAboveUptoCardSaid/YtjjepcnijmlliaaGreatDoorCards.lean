/-
  DERIVED. GIVEN WITH THE SEED: THE CARDS: each row of YtjjepcnijmlliaaGreatDoorRows.lean that lists a variable, with what it lists TIED to the program's text (the seventh form; the later family's looks); each row that meets fmt, with fmt's text TOLD by the authors' own Lean function (tested against real Go, not proved from fmt's source: count such statements apart). THE CARD IS WHAT COUNTS. Prove the row's statement (the work); the ties are given (YtjjepcnijmlliaaGreatDoorTie.lean); close each card by the builder's one call (the guide's Derived/Test/ToyasCard.lean, 'card_holds'). Laid BY PROGRAM, IN A SANDBOX (cutbox-door.mjs). By AI agents, Wed Nov 11 2026. No macro, syntax, notation, axiom, sorry.
-/
import Derived.Test.YtjjepcnijmlliaaGreatDoorRows
import GoSem.ClaimSeven
namespace Go.Proofs.YtjjepcnijmlliaaGreatDoor
namespace Rows

/-- THE TIED CARD OF 'vergerlaw12.ViewSees'. -/
def viewSeesCard : Claim7 := { stood := { row := viewSeesRow, standIns := [], harness := (true, "a2604b36cdab27d21678be9149bb5fe29975345b108dbf1518cc2e63a9109f51"), looks := true }, kinds := [], alts := [], laidByText := true, laidKinds := [.data, .data, .data, .data, .sentinel, .sentinel, .data, .pinned], laidTests := true, laidLooks := .later }
def ViewSeesCardSaid : Prop := Claim7.holds Tryz.pinned (.plain (OpenSpec.ofChange viewSeesSpec)) viewSeesCard

/-- THE TIED CARD OF 'vergerlaw12.ViewLess'. -/
def viewLessCard : Claim7 := { stood := { row := viewLessRow, standIns := [], harness := (true, "a2604b36cdab27d21678be9149bb5fe29975345b108dbf1518cc2e63a9109f51"), looks := true }, kinds := [], alts := [], laidByText := true, laidKinds := [.data, .data, .data, .data, .sentinel, .sentinel, .data, .pinned], laidTests := true, laidLooks := .later }
def ViewLessCardSaid : Prop := Claim7.holds Tryz.pinned (.plain (OpenSpec.ofChange viewLessSpec)) viewLessCard

/-- THE TIED CARD OF 'vergerlaw12.ViewAbove'. -/
def viewAboveCard : Claim7 := { stood := { row := viewAboveRow, standIns := [], harness := (true, "a2604b36cdab27d21678be9149bb5fe29975345b108dbf1518cc2e63a9109f51"), looks := true }, kinds := [], alts := [], laidByText := true, laidKinds := [.data, .data, .data, .data, .sentinel, .sentinel, .data, .pinned], laidTests := true, laidLooks := .later }
def ViewAboveCardSaid : Prop := Claim7.holds Tryz.pinned (.plain (OpenSpec.ofChange viewAboveSpec)) viewAboveCard

/-- THE TIED CARD OF 'vergerlaw12.ViewRestricts'. -/
def viewRestrictsCard : Claim7 := { stood := { row := viewRestrictsRow, standIns := [], harness := (true, "a2604b36cdab27d21678be9149bb5fe29975345b108dbf1518cc2e63a9109f51"), looks := true }, kinds := [], alts := [], laidByText := true, laidKinds := [.data, .data, .data, .data, .sentinel, .sentinel, .data, .pinned], laidTests := true, laidLooks := .later }
def ViewRestrictsCardSaid : Prop := Claim7.holds Tryz.pinned (.plain (OpenSpec.ofChange viewRestrictsSpec)) viewRestrictsCard

/-- THE TIED CARD OF 'vergerlaw12.ViewWhole'. -/
def viewWholeCard : Claim7 := { stood := { row := viewWholeRow, standIns := [], harness := (true, "a2604b36cdab27d21678be9149bb5fe29975345b108dbf1518cc2e63a9109f51"), looks := true }, kinds := [], alts := [], laidByText := true, laidKinds := [.data, .data, .data, .data, .sentinel, .sentinel, .data, .pinned], laidTests := true, laidLooks := .later }
def ViewWholeCardSaid : Prop := Claim7.holds Tryz.pinned (.plain (OpenSpec.ofChange viewWholeSpec)) viewWholeCard

/-- THE SECOND FORM's CARD OF 'vergerlaw12.ViewSees'. -/
def viewSeesUptoCard : Claim7 := { stood := { row := viewSeesUptoRow, standIns := [], harness := (true, "a2604b36cdab27d21678be9149bb5fe29975345b108dbf1518cc2e63a9109f51"), looks := true }, kinds := [], alts := [], laidByText := true, laidKinds := [.data, .data, .data, .data, .sentinel, .sentinel, .data, .pinned], laidTests := true, laidLooks := .later }
def ViewSeesUptoCardSaid : Prop := Claim7.holds Tryz.pinned (.plain (OpenSpec.upto viewSeesSpec)) viewSeesUptoCard

/-- THE SECOND FORM's CARD OF 'vergerlaw12.ViewLess'. -/
def viewLessUptoCard : Claim7 := { stood := { row := viewLessUptoRow, standIns := [], harness := (true, "a2604b36cdab27d21678be9149bb5fe29975345b108dbf1518cc2e63a9109f51"), looks := true }, kinds := [], alts := [], laidByText := true, laidKinds := [.data, .data, .data, .data, .sentinel, .sentinel, .data, .pinned], laidTests := true, laidLooks := .later }
def ViewLessUptoCardSaid : Prop := Claim7.holds Tryz.pinned (.plain (OpenSpec.upto viewLessSpec)) viewLessUptoCard

/-- THE SECOND FORM's CARD OF 'vergerlaw12.ViewAbove'. -/
def viewAboveUptoCard : Claim7 := { stood := { row := viewAboveUptoRow, standIns := [], harness := (true, "a2604b36cdab27d21678be9149bb5fe29975345b108dbf1518cc2e63a9109f51"), looks := true }, kinds := [], alts := [], laidByText := true, laidKinds := [.data, .data, .data, .data, .sentinel, .sentinel, .data, .pinned], laidTests := true, laidLooks := .later }
def ViewAboveUptoCardSaid : Prop := Claim7.holds Tryz.pinned (.plain (OpenSpec.upto viewAboveSpec)) viewAboveUptoCard

/-- THE SECOND FORM's CARD OF 'vergerlaw12.ViewRestricts'. -/
def viewRestrictsUptoCard : Claim7 := { stood := { row := viewRestrictsUptoRow, standIns := [], harness := (true, "a2604b36cdab27d21678be9149bb5fe29975345b108dbf1518cc2e63a9109f51"), looks := true }, kinds := [], alts := [], laidByText := true, laidKinds := [.data, .data, .data, .data, .sentinel, .sentinel, .data, .pinned], laidTests := true, laidLooks := .later }
def ViewRestrictsUptoCardSaid : Prop := Claim7.holds Tryz.pinned (.plain (OpenSpec.upto viewRestrictsSpec)) viewRestrictsUptoCard

/-- THE SECOND FORM's CARD OF 'vergerlaw12.ViewWhole'. -/
def viewWholeUptoCard : Claim7 := { stood := { row := viewWholeUptoRow, standIns := [], harness := (true, "a2604b36cdab27d21678be9149bb5fe29975345b108dbf1518cc2e63a9109f51"), looks := true }, kinds := [], alts := [], laidByText := true, laidKinds := [.data, .data, .data, .data, .sentinel, .sentinel, .data, .pinned], laidTests := true, laidLooks := .later }
def ViewWholeUptoCardSaid : Prop := Claim7.holds Tryz.pinned (.plain (OpenSpec.upto viewWholeSpec)) viewWholeUptoCard
end Rows
end Go.Proofs.YtjjepcnijmlliaaGreatDoor
