/-
  Add and Mul of both texts. By an AI agent.
-/
import Derived.Test.YtedenhfpbabjkaaGreatDoorSums
namespace Go.Proofs.YtedenhfpbabjkaaGreatDoor
open Go.RowKit Flt
set_option linter.unusedVariables false

/-- What is reckoned: the words r, i, or out of range. -/
def res (r i : Nat) (n m : Int) (v : Value) : Prop := (InB n m ∧ v = .tuple #[.complex .f64 r i, .int .i64 0]) ∨ (¬ InB n m ∧ v = .tuple #[.complex .f64 0 0, .int .i64 3])

end Go.Proofs.YtedenhfpbabjkaaGreatDoor
