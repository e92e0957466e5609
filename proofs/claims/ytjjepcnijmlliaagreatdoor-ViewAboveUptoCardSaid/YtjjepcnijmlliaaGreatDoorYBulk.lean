/- What the bulk of entries bounds. By an AI agent. -/
import Derived.Test.YtjjepcnijmlliaaGreatDoorYY
import Derived.Test.YtjjepcnijmlliaaGreatDoorOpenEnts
namespace Go.Proofs.YtjjepcnijmlliaaGreatDoor
open Go.RowKit Go.Proofs.YtjjepcnijmlliaaGreatDoor.Opens
set_option linter.unusedVariables false
theorem bulk_of {N:Nat} {L:List EN} (h:SmN N L) (hN:N≤1048576):∀e∈L,BulkN e:=fun e he=>by
 obtain⟨h1,h2⟩:=h.each e he
 exact⟨Nat.le_trans h1 hN,Nat.le_trans h2.len hN,fun a ha=>⟨Nat.le_trans (h2.each a ha).vals hN,fun u hu=>Nat.le_trans ((h2.each a ha).each u hu) hN⟩⟩
theorem types_of {N:Nat} {L:List EN} (h:SmN N L) (hN:N≤1048576):TypesN L:=fun e he a ha=>Nat.le_trans (((h.each e he).2.each a ha).name) hN
end Go.Proofs.YtjjepcnijmlliaaGreatDoor
