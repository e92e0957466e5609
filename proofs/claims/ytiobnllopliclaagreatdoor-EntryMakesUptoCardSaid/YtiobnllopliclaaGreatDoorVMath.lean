/- Who may do what, as plain mathematics: rules, formed or not, and what is decided by them. By an AI agent. -/
import Derived.Test.YtiobnllopliclaaGreatDoorEX
namespace Go.Proofs.YtiobnllopliclaaGreatDoor
open Go.RowKit
set_option linter.unusedVariables false
set_option linter.unusedSimpArgs false
end Go.Proofs.YtiobnllopliclaaGreatDoor
