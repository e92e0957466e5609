/-
  DERIVED. GIVEN WITH THE SEED: THE CARDS: each row of YtiobnllopliclaaGreatDoorRows.lean that lists a variable, with what it lists TIED to the program's text (the seventh form; the later family's looks); each row that meets fmt, with fmt's text TOLD by the authors' own Lean function (tested against real Go, not proved from fmt's source: count such statements apart). THE CARD IS WHAT COUNTS. Prove the row's statement (the work); the ties are given (YtiobnllopliclaaGreatDoorTie.lean); close each card by the builder's one call (the guide's Derived/Test/ToyasCard.lean, 'card_holds'). Laid BY PROGRAM, IN A SANDBOX (cutbox-door.mjs). By AI agents, Wed Nov 11 2026. No macro, syntax, notation, axiom, sorry.
-/
import Derived.Test.YtiobnllopliclaaGreatDoorRows
import GoSem.ClaimSeven
namespace Go.Proofs.YtiobnllopliclaaGreatDoor
namespace Rows

/-- THE TIED CARD OF 'vergerlaw09.EntryMakes'. -/
def entryMakesCard : Claim7 := { stood := { row := entryMakesRow, standIns := [], harness := (true, "428af9adc6fb6641e102107b1d1f0ef20f97a8c9161910178865a1e46bff45b7"), looks := true }, kinds := [], alts := [], laidByText := true, laidKinds := [.data, .data, .data, .data, .sentinel, .sentinel, .data, .pinned], laidTests := true, laidLooks := .later }
def EntryMakesCardSaid : Prop := Claim7.holds Tryz.pinned (.plain (OpenSpec.ofChange entryMakesSpec)) entryMakesCard

/-- THE TIED CARD OF 'vergerlaw09.EntryModifies'. -/
def entryModifiesCard : Claim7 := { stood := { row := entryModifiesRow, standIns := [], harness := (true, "428af9adc6fb6641e102107b1d1f0ef20f97a8c9161910178865a1e46bff45b7"), looks := true }, kinds := [], alts := [], laidByText := true, laidKinds := [.data, .data, .data, .data, .sentinel, .sentinel, .data, .pinned], laidTests := true, laidLooks := .later }
def EntryModifiesCardSaid : Prop := Claim7.holds Tryz.pinned (.plain (OpenSpec.ofChange entryModifiesSpec)) entryModifiesCard

/-- THE TIED CARD OF 'vergerlaw13.ResolveSteps'. -/
def resolveStepsCard : Claim7 := { stood := { row := resolveStepsRow, standIns := [], harness := (true, "428af9adc6fb6641e102107b1d1f0ef20f97a8c9161910178865a1e46bff45b7"), looks := true }, kinds := [], alts := [], laidByText := true, laidKinds := [.data, .data, .data, .data, .sentinel, .sentinel, .data, .pinned], laidTests := true, laidLooks := .later }
def ResolveStepsCardSaid : Prop := Claim7.holds Tryz.pinned (.plain (OpenSpec.ofChange resolveStepsSpec)) resolveStepsCard

/-- THE TIED CARD OF 'vergerlaw13.ResolveFinds'. -/
def resolveFindsCard : Claim7 := { stood := { row := resolveFindsRow, standIns := [], harness := (true, "428af9adc6fb6641e102107b1d1f0ef20f97a8c9161910178865a1e46bff45b7"), looks := true }, kinds := [], alts := [], laidByText := true, laidKinds := [.data, .data, .data, .data, .sentinel, .sentinel, .data, .pinned], laidTests := true, laidLooks := .later }
def ResolveFindsCardSaid : Prop := Claim7.holds Tryz.pinned (.plain (OpenSpec.ofChange resolveFindsSpec)) resolveFindsCard

/-- THE TIED CARD OF 'vergerlaw13.ResolveEnds'. -/
def resolveEndsCard : Claim7 := { stood := { row := resolveEndsRow, standIns := [], harness := (true, "428af9adc6fb6641e102107b1d1f0ef20f97a8c9161910178865a1e46bff45b7"), looks := true }, kinds := [], alts := [], laidByText := true, laidKinds := [.data, .data, .data, .data, .sentinel, .sentinel, .data, .pinned], laidTests := true, laidLooks := .later }
def ResolveEndsCardSaid : Prop := Claim7.holds Tryz.pinned (.plain (OpenSpec.ofChange resolveEndsSpec)) resolveEndsCard

/-- THE TIED CARD OF 'vergerlaw13.ResolvePlain'. -/
def resolvePlainCard : Claim7 := { stood := { row := resolvePlainRow, standIns := [], harness := (true, "428af9adc6fb6641e102107b1d1f0ef20f97a8c9161910178865a1e46bff45b7"), looks := true }, kinds := [], alts := [], laidByText := true, laidKinds := [.data, .data, .data, .data, .sentinel, .sentinel, .data, .pinned], laidTests := true, laidLooks := .later }
def ResolvePlainCardSaid : Prop := Claim7.holds Tryz.pinned (.plain (OpenSpec.ofChange resolvePlainSpec)) resolvePlainCard

/-- THE TIED CARD OF 'vergerlaw13.ResolveRings'. -/
def resolveRingsCard : Claim7 := { stood := { row := resolveRingsRow, standIns := [], harness := (true, "428af9adc6fb6641e102107b1d1f0ef20f97a8c9161910178865a1e46bff45b7"), looks := true }, kinds := [], alts := [], laidByText := true, laidKinds := [.data, .data, .data, .data, .sentinel, .sentinel, .data, .pinned], laidTests := true, laidLooks := .later }
def ResolveRingsCardSaid : Prop := Claim7.holds Tryz.pinned (.plain (OpenSpec.ofChange resolveRingsSpec)) resolveRingsCard

/-- THE SECOND FORM's CARD OF 'vergerlaw09.EntryMakes'. -/
def entryMakesUptoCard : Claim7 := { stood := { row := entryMakesUptoRow, standIns := [], harness := (true, "428af9adc6fb6641e102107b1d1f0ef20f97a8c9161910178865a1e46bff45b7"), looks := true }, kinds := [], alts := [], laidByText := true, laidKinds := [.data, .data, .data, .data, .sentinel, .sentinel, .data, .pinned], laidTests := true, laidLooks := .later }
def EntryMakesUptoCardSaid : Prop := Claim7.holds Tryz.pinned (.plain (OpenSpec.upto entryMakesSpec)) entryMakesUptoCard

/-- THE SECOND FORM's CARD OF 'vergerlaw09.EntryModifies'. -/
def entryModifiesUptoCard : Claim7 := { stood := { row := entryModifiesUptoRow, standIns := [], harness := (true, "428af9adc6fb6641e102107b1d1f0ef20f97a8c9161910178865a1e46bff45b7"), looks := true }, kinds := [], alts := [], laidByText := true, laidKinds := [.data, .data, .data, .data, .sentinel, .sentinel, .data, .pinned], laidTests := true, laidLooks := .later }
def EntryModifiesUptoCardSaid : Prop := Claim7.holds Tryz.pinned (.plain (OpenSpec.upto entryModifiesSpec)) entryModifiesUptoCard

/-- THE SECOND FORM's CARD OF 'vergerlaw13.ResolveSteps'. -/
def resolveStepsUptoCard : Claim7 := { stood := { row := resolveStepsUptoRow, standIns := [], harness := (true, "428af9adc6fb6641e102107b1d1f0ef20f97a8c9161910178865a1e46bff45b7"), looks := true }, kinds := [], alts := [], laidByText := true, laidKinds := [.data, .data, .data, .data, .sentinel, .sentinel, .data, .pinned], laidTests := true, laidLooks := .later }
def ResolveStepsUptoCardSaid : Prop := Claim7.holds Tryz.pinned (.plain (OpenSpec.upto resolveStepsSpec)) resolveStepsUptoCard

/-- THE SECOND FORM's CARD OF 'vergerlaw13.ResolveFinds'. -/
def resolveFindsUptoCard : Claim7 := { stood := { row := resolveFindsUptoRow, standIns := [], harness := (true, "428af9adc6fb6641e102107b1d1f0ef20f97a8c9161910178865a1e46bff45b7"), looks := true }, kinds := [], alts := [], laidByText := true, laidKinds := [.data, .data, .data, .data, .sentinel, .sentinel, .data, .pinned], laidTests := true, laidLooks := .later }
def ResolveFindsUptoCardSaid : Prop := Claim7.holds Tryz.pinned (.plain (OpenSpec.upto resolveFindsSpec)) resolveFindsUptoCard

/-- THE SECOND FORM's CARD OF 'vergerlaw13.ResolveEnds'. -/
def resolveEndsUptoCard : Claim7 := { stood := { row := resolveEndsUptoRow, standIns := [], harness := (true, "428af9adc6fb6641e102107b1d1f0ef20f97a8c9161910178865a1e46bff45b7"), looks := true }, kinds := [], alts := [], laidByText := true, laidKinds := [.data, .data, .data, .data, .sentinel, .sentinel, .data, .pinned], laidTests := true, laidLooks := .later }
def ResolveEndsUptoCardSaid : Prop := Claim7.holds Tryz.pinned (.plain (OpenSpec.upto resolveEndsSpec)) resolveEndsUptoCard

/-- THE SECOND FORM's CARD OF 'vergerlaw13.ResolvePlain'. -/
def resolvePlainUptoCard : Claim7 := { stood := { row := resolvePlainUptoRow, standIns := [], harness := (true, "428af9adc6fb6641e102107b1d1f0ef20f97a8c9161910178865a1e46bff45b7"), looks := true }, kinds := [], alts := [], laidByText := true, laidKinds := [.data, .data, .data, .data, .sentinel, .sentinel, .data, .pinned], laidTests := true, laidLooks := .later }
def ResolvePlainUptoCardSaid : Prop := Claim7.holds Tryz.pinned (.plain (OpenSpec.upto resolvePlainSpec)) resolvePlainUptoCard

/-- THE SECOND FORM's CARD OF 'vergerlaw13.ResolveRings'. -/
def resolveRingsUptoCard : Claim7 := { stood := { row := resolveRingsUptoRow, standIns := [], harness := (true, "428af9adc6fb6641e102107b1d1f0ef20f97a8c9161910178865a1e46bff45b7"), looks := true }, kinds := [], alts := [], laidByText := true, laidKinds := [.data, .data, .data, .data, .sentinel, .sentinel, .data, .pinned], laidTests := true, laidLooks := .later }
def ResolveRingsUptoCardSaid : Prop := Claim7.holds Tryz.pinned (.plain (OpenSpec.upto resolveRingsSpec)) resolveRingsUptoCard
end Rows
end Go.Proofs.YtiobnllopliclaaGreatDoor
