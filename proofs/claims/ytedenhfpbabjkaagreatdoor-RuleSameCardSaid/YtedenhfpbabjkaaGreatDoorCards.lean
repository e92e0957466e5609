/-
  DERIVED. GIVEN WITH THE SEED: THE CARDS: each row of YtedenhfpbabjkaaGreatDoorRows.lean that lists a variable, with what it lists TIED to the program's text (the seventh form; the later family's looks); each row that meets fmt, with fmt's text TOLD by the authors' own Lean function (tested against real Go, not proved from fmt's source: count such statements apart). THE CARD IS WHAT COUNTS. Prove the row's statement (the work); the ties are given (YtedenhfpbabjkaaGreatDoorTie.lean); close each card by the builder's one call (the guide's Derived/Test/ToyasCard.lean, 'card_holds'). Laid BY PROGRAM, IN A SANDBOX (cutbox-door.mjs). By AI agents, Wed Nov 11 2026. No macro, syntax, notation, axiom, sorry.
-/
import Derived.Test.YtedenhfpbabjkaaGreatDoorRows
import GoSem.ClaimSeven
namespace Go.Proofs.YtedenhfpbabjkaaGreatDoor
namespace Rows

/-- THE TIED CARD OF 'vergerlaw04.RuleSame'. -/
def ruleSameCard : Claim7 := { stood := { row := ruleSameRow, standIns := [], harness := (true, "d04f5f3d862520c32afa87afe8c89cb58d2f7002ba0996ec218482ad12bea3be"), looks := true }, kinds := [], alts := [], laidByText := true, laidKinds := [.data, .data, .data, .data, .sentinel, .sentinel, .data, .pinned], laidTests := true, laidLooks := .later }
def RuleSameCardSaid : Prop := Claim7.holds Tryz.pinned (.plain (OpenSpec.ofChange ruleSameSpec)) ruleSameCard

/-- THE TIED CARD OF 'vergerlaw04.RuleCompares'. -/
def ruleComparesCard : Claim7 := { stood := { row := ruleComparesRow, standIns := [], harness := (true, "d04f5f3d862520c32afa87afe8c89cb58d2f7002ba0996ec218482ad12bea3be"), looks := true }, kinds := [], alts := [], laidByText := true, laidKinds := [.data, .data, .data, .data, .sentinel, .sentinel, .data, .pinned], laidTests := true, laidLooks := .later }
def RuleComparesCardSaid : Prop := Claim7.holds Tryz.pinned (.plain (OpenSpec.ofChange ruleComparesSpec)) ruleComparesCard

/-- THE TIED CARD OF 'vergerlaw04.RuleNear'. -/
def ruleNearCard : Claim7 := { stood := { row := ruleNearRow, standIns := [], harness := (true, "d04f5f3d862520c32afa87afe8c89cb58d2f7002ba0996ec218482ad12bea3be"), looks := true }, kinds := [], alts := [], laidByText := true, laidKinds := [.data, .data, .data, .data, .sentinel, .sentinel, .data, .pinned], laidTests := true, laidLooks := .later }
def RuleNearCardSaid : Prop := Claim7.holds Tryz.pinned (.plain (OpenSpec.ofChange ruleNearSpec)) ruleNearCard

/-- THE SECOND FORM's CARD OF 'vergerlaw04.RuleSame'. -/
def ruleSameUptoCard : Claim7 := { stood := { row := ruleSameUptoRow, standIns := [], harness := (true, "d04f5f3d862520c32afa87afe8c89cb58d2f7002ba0996ec218482ad12bea3be"), looks := true }, kinds := [], alts := [], laidByText := true, laidKinds := [.data, .data, .data, .data, .sentinel, .sentinel, .data, .pinned], laidTests := true, laidLooks := .later }
def RuleSameUptoCardSaid : Prop := Claim7.holds Tryz.pinned (.plain (OpenSpec.upto ruleSameSpec)) ruleSameUptoCard

/-- THE SECOND FORM's CARD OF 'vergerlaw04.RuleCompares'. -/
def ruleComparesUptoCard : Claim7 := { stood := { row := ruleComparesUptoRow, standIns := [], harness := (true, "d04f5f3d862520c32afa87afe8c89cb58d2f7002ba0996ec218482ad12bea3be"), looks := true }, kinds := [], alts := [], laidByText := true, laidKinds := [.data, .data, .data, .data, .sentinel, .sentinel, .data, .pinned], laidTests := true, laidLooks := .later }
def RuleComparesUptoCardSaid : Prop := Claim7.holds Tryz.pinned (.plain (OpenSpec.upto ruleComparesSpec)) ruleComparesUptoCard

/-- THE SECOND FORM's CARD OF 'vergerlaw04.RuleNear'. -/
def ruleNearUptoCard : Claim7 := { stood := { row := ruleNearUptoRow, standIns := [], harness := (true, "d04f5f3d862520c32afa87afe8c89cb58d2f7002ba0996ec218482ad12bea3be"), looks := true }, kinds := [], alts := [], laidByText := true, laidKinds := [.data, .data, .data, .data, .sentinel, .sentinel, .data, .pinned], laidTests := true, laidLooks := .later }
def RuleNearUptoCardSaid : Prop := Claim7.holds Tryz.pinned (.plain (OpenSpec.upto ruleNearSpec)) ruleNearUptoCard
end Rows
end Go.Proofs.YtedenhfpbabjkaaGreatDoor
