/-
  DERIVED. GIVEN WITH THE SEED: THE CARDS: each row of YtlfglibcggphjaaGreatDoorRows.lean that lists a variable, with what it lists TIED to the program's text (the seventh form; the later family's looks); each row that meets fmt, with fmt's text TOLD by the authors' own Lean function (tested against real Go, not proved from fmt's source: count such statements apart). THE CARD IS WHAT COUNTS. Prove the row's statement (the work); the ties are given (YtlfglibcggphjaaGreatDoorTie.lean); close each card by the builder's one call (the guide's Derived/Test/ToyasCard.lean, 'card_holds'). Laid BY PROGRAM, IN A SANDBOX (cutbox-door.mjs). By AI agents, Wed Nov 11 2026. No macro, syntax, notation, axiom, sorry.
-/
import Derived.Test.YtlfglibcggphjaaGreatDoorRows
import GoSem.ClaimSeven
namespace Go.Proofs.YtlfglibcggphjaaGreatDoor
namespace Rows

/-- THE TIED CARD OF 'vergerlaw16.RouteSteps'. -/
def routeStepsCard : Claim7 := { stood := { row := routeStepsRow, standIns := [], harness := (true, "7ae1f7f976bb75517ecdc0bb8bdc09e7080c43194b25788f36dcc28aed0f3143"), looks := true }, kinds := [], alts := [], laidByText := true, laidKinds := [.data, .data, .data, .data, .sentinel, .sentinel, .data, .pinned], laidTests := true, laidLooks := .later }
def RouteStepsCardSaid : Prop := Claim7.holds Tryz.pinned (.plain (OpenSpec.ofChange routeStepsSpec)) routeStepsCard

/-- THE SECOND FORM's CARD OF 'vergerlaw16.RouteSteps'. -/
def routeStepsUptoCard : Claim7 := { stood := { row := routeStepsUptoRow, standIns := [], harness := (true, "7ae1f7f976bb75517ecdc0bb8bdc09e7080c43194b25788f36dcc28aed0f3143"), looks := true }, kinds := [], alts := [], laidByText := true, laidKinds := [.data, .data, .data, .data, .sentinel, .sentinel, .data, .pinned], laidTests := true, laidLooks := .later }
def RouteStepsUptoCardSaid : Prop := Claim7.holds Tryz.pinned (.plain (OpenSpec.upto routeStepsSpec)) routeStepsUptoCard
end Rows
end Go.Proofs.YtlfglibcggphjaaGreatDoor
