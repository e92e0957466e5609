/-
  Words and bounds of the rows' arguments. By an AI agent.
-/
import Derived.Test.YtmbinnahndiboaaDoorForm
import Derived.ProofKit
import Derived.OpenShut
namespace Go.Proofs.YtmbinnahndiboaaDoor
open Go.ChangeShapes Go.WideShapes

theorem word_lt {b : Nat} (h : (Lit.float .f64 b).wf = true) : b < 2 ^ 64 := by
  simpa [Lit.wf] using h

theorem i32_b {x : Int} (h : (Lit.int .i32 x).wf = true) : -2147483648 ≤ x ∧ x ≤ 2147483647 := by
  have e1 : IntKind.min .i32 = -2147483648 := rfl
  have e2 : IntKind.max .i32 = 2147483647 := rfl
  simpa [Lit.wf, e1, e2] using h

theorem i16_b {x : Int} (h : (Lit.int .i16 x).wf = true) : -32768 ≤ x ∧ x ≤ 32767 := by
  have e1 : IntKind.min .i16 = -32768 := rfl
  have e2 : IntKind.max .i16 = 32767 := rfl
  simpa [Lit.wf, e1, e2] using h

end Go.Proofs.YtmbinnahndiboaaDoor
