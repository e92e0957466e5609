/-
  The walk of PhasorPrints: whatever the two words, true. By an AI agent.
-/
import Derived.Test.YtedenhfpbabjkaaGreatDoorParse
import Derived.Test.YtedenhfpbabjkaaGreatDoorRefText
namespace Go.Proofs.YtedenhfpbabjkaaGreatDoor
open Go.RowKit Flt

end Go.Proofs.YtedenhfpbabjkaaGreatDoor
