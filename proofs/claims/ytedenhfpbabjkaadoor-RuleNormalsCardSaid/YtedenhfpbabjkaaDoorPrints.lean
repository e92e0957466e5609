/-
  The walk of PhasorPrints: whatever the two words, true. By an AI agent.
-/
import Derived.Test.YtedenhfpbabjkaaDoorParse
import Derived.Test.YtedenhfpbabjkaaDoorRefText
namespace Go.Proofs.YtedenhfpbabjkaaDoor
open Go.RowKit Flt

end Go.Proofs.YtedenhfpbabjkaaDoor
