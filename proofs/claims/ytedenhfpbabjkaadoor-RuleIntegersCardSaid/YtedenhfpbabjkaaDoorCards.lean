/-
  DERIVED. GIVEN WITH THE SEED: THE CARDS: each row of YtedenhfpbabjkaaDoorRows.lean that lists a variable, with what it lists TIED to the program's text (the seventh form; the later family's looks); each row that meets fmt, with fmt's text TOLD by the authors' own Lean function (tested against real Go, not proved from fmt's source: count such statements apart). THE CARD IS WHAT COUNTS. Prove the row's statement (the work); the ties are given (YtedenhfpbabjkaaDoorTie.lean); close each card by the builder's one call (the guide's Derived/Test/ToyasCard.lean, 'card_holds'). Laid BY PROGRAM, IN A SANDBOX (cutbox-door.mjs). By AI agents, Wed Nov 11 2026. No macro, syntax, notation, axiom, sorry.
-/
import Derived.Test.YtedenhfpbabjkaaDoorRows
import GoSem.ClaimSeven
namespace Go.Proofs.YtedenhfpbabjkaaDoor
namespace Rows

/-- THE TIED CARD OF 'vergerlaw04.RuleTypes'. -/
def ruleTypesCard : Claim7 := { stood := { row := ruleTypesRow, standIns := [], harness := (true, "def38c6f281fca66d51b2909c4b5cbf1fc0bc18439e5a761290b701a4826a14d"), looks := true }, kinds := [], alts := [], laidByText := true, laidKinds := [.data, .data, .data, .data, .sentinel, .sentinel, .data, .pinned], laidTests := true, laidLooks := .later }
def RuleTypesCardSaid : Prop := Claim7.holds Tryd.pinned (.plain (OpenSpec.ofChange ruleTypesSpec)) ruleTypesCard

/-- THE TIED CARD OF 'vergerlaw04.RuleNormals'. -/
def ruleNormalsCard : Claim7 := { stood := { row := ruleNormalsRow, standIns := [], harness := (true, "def38c6f281fca66d51b2909c4b5cbf1fc0bc18439e5a761290b701a4826a14d"), looks := true }, kinds := [], alts := [], laidByText := true, laidKinds := [.data, .data, .data, .data, .sentinel, .sentinel, .data, .pinned], laidTests := true, laidLooks := .later }
def RuleNormalsCardSaid : Prop := Claim7.holds Tryd.pinned (.plain (OpenSpec.ofChange ruleNormalsSpec)) ruleNormalsCard

/-- THE TIED CARD OF 'vergerlaw04.RuleIntegers'. -/
def ruleIntegersCard : Claim7 := { stood := { row := ruleIntegersRow, standIns := [], harness := (true, "def38c6f281fca66d51b2909c4b5cbf1fc0bc18439e5a761290b701a4826a14d"), looks := true }, kinds := [], alts := [], laidByText := true, laidKinds := [.data, .data, .data, .data, .sentinel, .sentinel, .data, .pinned], laidTests := true, laidLooks := .later }
def RuleIntegersCardSaid : Prop := Claim7.holds Tryd.pinned (.plain (OpenSpec.ofChange ruleIntegersSpec)) ruleIntegersCard

/-- THE SECOND FORM's CARD OF 'vergerlaw04.RuleTypes'. -/
def ruleTypesUptoCard : Claim7 := { stood := { row := ruleTypesUptoRow, standIns := [], harness := (true, "def38c6f281fca66d51b2909c4b5cbf1fc0bc18439e5a761290b701a4826a14d"), looks := true }, kinds := [], alts := [], laidByText := true, laidKinds := [.data, .data, .data, .data, .sentinel, .sentinel, .data, .pinned], laidTests := true, laidLooks := .later }
def RuleTypesUptoCardSaid : Prop := Claim7.holds Tryd.pinned (.plain (OpenSpec.upto ruleTypesSpec)) ruleTypesUptoCard

/-- THE SECOND FORM's CARD OF 'vergerlaw04.RuleNormals'. -/
def ruleNormalsUptoCard : Claim7 := { stood := { row := ruleNormalsUptoRow, standIns := [], harness := (true, "def38c6f281fca66d51b2909c4b5cbf1fc0bc18439e5a761290b701a4826a14d"), looks := true }, kinds := [], alts := [], laidByText := true, laidKinds := [.data, .data, .data, .data, .sentinel, .sentinel, .data, .pinned], laidTests := true, laidLooks := .later }
def RuleNormalsUptoCardSaid : Prop := Claim7.holds Tryd.pinned (.plain (OpenSpec.upto ruleNormalsSpec)) ruleNormalsUptoCard

/-- THE SECOND FORM's CARD OF 'vergerlaw04.RuleIntegers'. -/
def ruleIntegersUptoCard : Claim7 := { stood := { row := ruleIntegersUptoRow, standIns := [], harness := (true, "def38c6f281fca66d51b2909c4b5cbf1fc0bc18439e5a761290b701a4826a14d"), looks := true }, kinds := [], alts := [], laidByText := true, laidKinds := [.data, .data, .data, .data, .sentinel, .sentinel, .data, .pinned], laidTests := true, laidLooks := .later }
def RuleIntegersUptoCardSaid : Prop := Claim7.holds Tryd.pinned (.plain (OpenSpec.upto ruleIntegersSpec)) ruleIntegersUptoCard
end Rows
end Go.Proofs.YtedenhfpbabjkaaDoor
