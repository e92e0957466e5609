/- A row of entries whose lists lie elsewhere. By an AI agent. -/
import Derived.Test.YtlfglibcggphjaaGreatDoorEY
set_option linter.unusedSimpArgs false
set_option linter.unusedVariables false
namespace Go.Proofs.YtlfglibcggphjaaGreatDoor
open Go.RowKit
section
variable {w w':World} {B base:Nat} {E:TypeId} {v v':Value} {zs:List Value} {L:List EN}
end
end Go.Proofs.YtlfglibcggphjaaGreatDoor
