/-
  Compare of names, by the reference. By an AI agent.
-/
import Derived.Test.YtmidjagjgipabaaGreatDoorQComp
namespace Go.Proofs.YtmidjagjgipabaaGreatDoor
open Go.RowKit
set_option linter.unusedVariables false

/-- What the reference's Parts tells, with its error or without. -/
inductive RKey (l : List UInt8) : Prop where
  | no (y : Int) (hy : (y == 0) = false) (hy2 : (y != 0) = true) (h : partsV l = (none, y))
  | ok (T : List (List UInt8)) (ho : TextsOk T) (h : partsV l = (some T, 0))
theorem rkey (l : List UInt8) : RKey l := by
  cases pt l with
  | no er he h => exact .no er (err_ne he).1 (err_ne he).2 h
  | ok T ho h => exact .ok T ho h

theorem rev_at {T : List (List UInt8)} {n i k : Nat} (h : n = T.length) (hi : i < n) (hk : k = n - 1 - i) {x : List UInt8} (hx : T.reverse[i]? = some x) : T[k]? = some x := by
  subst h hk
  rwa [List.getElem?_reverse hi] at hx

end Go.Proofs.YtmidjagjgipabaaGreatDoor
