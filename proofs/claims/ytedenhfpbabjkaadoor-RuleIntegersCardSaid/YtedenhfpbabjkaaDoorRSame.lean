/-
  Same. By an AI agent.
-/
import Derived.Test.YtedenhfpbabjkaaDoorRBoth
namespace Go.Proofs.YtedenhfpbabjkaaDoor
open Go.RowKit
set_option linter.unusedVariables false

end Go.Proofs.YtedenhfpbabjkaaDoor
