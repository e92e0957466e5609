/-
  Join of a part and a name, by the program and by the reference. By an AI agent.
-/
import Derived.Test.YtmidjagjgipabaaGreatDoorQConcat
namespace Go.Proofs.YtmidjagjgipabaaGreatDoor
open Go.RowKit
set_option linter.unusedVariables false

/-- A part ahead of a name. -/
noncomputable def joinV (l m : List UInt8) : List UInt8 × Int := match parseP l with
  | none => ([], 2)
  | some p => match partsV m with
    | (none, e) => ([], e)
    | (some T, _) => fitV (ptx p :: T)
theorem join_none {l m : List UInt8} (h : parseP l = none) : joinV l m = ([], 2) := by unfold joinV; rw [h]
theorem join_err {l m : List UInt8} {p : List P2} {e : Int} (h : parseP l = some p) (h' : partsV m = (none, e)) : joinV l m = ([], e) := by unfold joinV; rw [h]; simp only; rw [h']
theorem join_fit {l m : List UInt8} {p : List P2} {T : List (List UInt8)} (h : parseP l = some p) (h' : partsV m = (some T, 0)) : joinV l m = fitV (ptx p :: T) := by unfold joinV; rw [h]; simp only; rw [h']

theorem cons_sum {p : List P2} (hp : PartOk p) {T : List (List UInt8)} (h : TextsOk T) : (joinC (ptx p :: T)).length ≤ 100000000 := by
  have h1 := ptx_len hp
  have h2 := h.len
  cases T with
  | nil => simp only [joinC]; omega
  | cons a r => rw [joinC, List.length_append, List.length_cons]; omega

end Go.Proofs.YtmidjagjgipabaaGreatDoor
