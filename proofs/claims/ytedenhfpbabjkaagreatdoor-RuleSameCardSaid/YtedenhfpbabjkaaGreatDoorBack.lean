/-
  The walk of PhasorBack: whatever the integers and the text, true. By an AI agent.
-/
import Derived.Test.YtedenhfpbabjkaaGreatDoorParse
import Derived.Test.YtedenhfpbabjkaaGreatDoorRefText
namespace Go.Proofs.YtedenhfpbabjkaaGreatDoor
open Go.RowKit Flt
set_option linter.unusedVariables false

theorem num_fl {a b : Int} (ha : Small a) (hb : Small b) : Num (fl a) (fl b) a b := ⟨part_fl' ha, part_fl' hb⟩

theorem tmod_small (x : Int) : Small (x.tmod 1000001) := by
  have h1 := Int.tmod_lt_of_pos x (show (0 : Int) < 1000001 by omega)
  have h2 : -1000001 < x.tmod 1000001 := by
    have := Int.tmod_lt_of_pos (-x) (show (0 : Int) < 1000001 by omega)
    rw [Int.neg_tmod] at this
    omega
  exact ⟨by omega, by omega⟩

theorem same_fl {p : Int} (h : Small p) : (FloatKind.f64.format.order (fl p) (fl p) == some .eq) = true := by
  rw [part_same (part_fl' h) (part_fl' h)]; rfl

end Go.Proofs.YtedenhfpbabjkaaGreatDoor
