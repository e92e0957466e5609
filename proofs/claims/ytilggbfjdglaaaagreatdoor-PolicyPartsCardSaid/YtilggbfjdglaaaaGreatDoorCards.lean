/-
  DERIVED. GIVEN WITH THE SEED: THE CARDS: each row of YtilggbfjdglaaaaGreatDoorRows.lean that lists a variable, with what it lists TIED to the program's text (the seventh form; the later family's looks); each row that meets fmt, with fmt's text TOLD by the authors' own Lean function (tested against real Go, not proved from fmt's source: count such statements apart). THE CARD IS WHAT COUNTS. Prove the row's statement (the work); the ties are given (YtilggbfjdglaaaaGreatDoorTie.lean); close each card by the builder's one call (the guide's Derived/Test/ToyasCard.lean, 'card_holds'). Laid BY PROGRAM, IN A SANDBOX (cutbox-door.mjs). By AI agents, Wed Nov 11 2026. No macro, syntax, notation, axiom, sorry.
-/
import Derived.Test.YtilggbfjdglaaaaGreatDoorRows
import GoSem.ClaimSeven
namespace Go.Proofs.YtilggbfjdglaaaaGreatDoor
namespace Rows

/-- THE TIED CARD OF 'vergerlaw11.PolicySpelt'. -/
def policySpeltCard : Claim7 := { stood := { row := policySpeltRow, standIns := [], harness := (true, "33e5efdd5871972193810b4cd323695e9b0e7c02b7223dcee79967f3e417b322"), looks := true }, kinds := [], alts := [], laidByText := true, laidKinds := [.data, .data, .data, .data, .sentinel, .sentinel, .data, .pinned], laidTests := true, laidLooks := .later }
def PolicySpeltCardSaid : Prop := Claim7.holds Tryz.pinned (.plain (OpenSpec.ofChange policySpeltSpec)) policySpeltCard

/-- THE TIED CARD OF 'vergerlaw11.PolicyParts'. -/
def policyPartsCard : Claim7 := { stood := { row := policyPartsRow, standIns := [], harness := (true, "33e5efdd5871972193810b4cd323695e9b0e7c02b7223dcee79967f3e417b322"), looks := true }, kinds := [], alts := [], laidByText := true, laidKinds := [.data, .data, .data, .data, .sentinel, .sentinel, .data, .pinned], laidTests := true, laidLooks := .later }
def PolicyPartsCardSaid : Prop := Claim7.holds Tryz.pinned (.plain (OpenSpec.ofChange policyPartsSpec)) policyPartsCard

/-- THE SECOND FORM's CARD OF 'vergerlaw11.PolicySpelt'. -/
def policySpeltUptoCard : Claim7 := { stood := { row := policySpeltUptoRow, standIns := [], harness := (true, "33e5efdd5871972193810b4cd323695e9b0e7c02b7223dcee79967f3e417b322"), looks := true }, kinds := [], alts := [], laidByText := true, laidKinds := [.data, .data, .data, .data, .sentinel, .sentinel, .data, .pinned], laidTests := true, laidLooks := .later }
def PolicySpeltUptoCardSaid : Prop := Claim7.holds Tryz.pinned (.plain (OpenSpec.upto policySpeltSpec)) policySpeltUptoCard

/-- THE SECOND FORM's CARD OF 'vergerlaw11.PolicyParts'. -/
def policyPartsUptoCard : Claim7 := { stood := { row := policyPartsUptoRow, standIns := [], harness := (true, "33e5efdd5871972193810b4cd323695e9b0e7c02b7223dcee79967f3e417b322"), looks := true }, kinds := [], alts := [], laidByText := true, laidKinds := [.data, .data, .data, .data, .sentinel, .sentinel, .data, .pinned], laidTests := true, laidLooks := .later }
def PolicyPartsUptoCardSaid : Prop := Claim7.holds Tryz.pinned (.plain (OpenSpec.upto policyPartsSpec)) policyPartsUptoCard
end Rows
end Go.Proofs.YtilggbfjdglaaaaGreatDoor
