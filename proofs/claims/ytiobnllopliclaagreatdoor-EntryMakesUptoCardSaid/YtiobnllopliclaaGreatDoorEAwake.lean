/- A formed entry: dc=x, with objectClass o, and what the entry has. By an AI agent. -/
import Derived.Test.YtiobnllopliclaaGreatDoorVMath
import Derived.Test.YtiobnllopliclaaGreatDoorEX
namespace Go.Proofs.YtiobnllopliclaaGreatDoor
open Go.RowKit
set_option linter.unusedVariables false
end Go.Proofs.YtiobnllopliclaaGreatDoor
