/-
  DERIVED. GIVEN WITH THE SEED: THE CARDS: each row of YtmidjagjgipabaaGreatDoorRows.lean that lists a variable, with what it lists TIED to the program's text (the seventh form; the later family's looks); each row that meets fmt, with fmt's text TOLD by the authors' own Lean function (tested against real Go, not proved from fmt's source: count such statements apart). THE CARD IS WHAT COUNTS. Prove the row's statement (the work); the ties are given (YtmidjagjgipabaaGreatDoorTie.lean); close each card by the builder's one call (the guide's Derived/Test/ToyasCard.lean, 'card_holds'). Laid BY PROGRAM, IN A SANDBOX (cutbox-door.mjs). By AI agents, Wed Nov 11 2026. No macro, syntax, notation, axiom, sorry.
-/
import Derived.Test.YtmidjagjgipabaaGreatDoorRows
import GoSem.ClaimSeven
namespace Go.Proofs.YtmidjagjgipabaaGreatDoor
namespace Rows

/-- THE TIED CARD OF 'vergerlaw06.DnNormals'. -/
def dnNormalsCard : Claim7 := { stood := { row := dnNormalsRow, standIns := [], harness := (true, "7d0f159dacad9e283cca866c144d1a5b5ca8a12c2535d9d88e6f04ad11835206"), looks := true }, kinds := [], alts := [], laidByText := true, laidKinds := [.data, .data, .data, .data, .sentinel, .sentinel, .data, .pinned], laidTests := true, laidLooks := .later }
def DnNormalsCardSaid : Prop := Claim7.holds Tryz.pinned (.plain (OpenSpec.ofChange dnNormalsSpec)) dnNormalsCard

/-- THE SECOND FORM's CARD OF 'vergerlaw06.DnNormals'. -/
def dnNormalsUptoCard : Claim7 := { stood := { row := dnNormalsUptoRow, standIns := [], harness := (true, "7d0f159dacad9e283cca866c144d1a5b5ca8a12c2535d9d88e6f04ad11835206"), looks := true }, kinds := [], alts := [], laidByText := true, laidKinds := [.data, .data, .data, .data, .sentinel, .sentinel, .data, .pinned], laidTests := true, laidLooks := .later }
def DnNormalsUptoCardSaid : Prop := Claim7.holds Tryz.pinned (.plain (OpenSpec.upto dnNormalsSpec)) dnNormalsUptoCard
end Rows
end Go.Proofs.YtmidjagjgipabaaGreatDoor
