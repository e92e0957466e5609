/-
  The statement's own look: whether a name's parts are those of a list. By an AI agent.
-/
import Derived.Test.YtmidjagjgipabaaGreatDoorQFew
namespace Go.Proofs.YtmidjagjgipabaaGreatDoor
open Go.RowKit
set_option linter.unusedVariables false

theorem Has.slot {w : World} {B n i : Nat} {A : Option Addr} {vs : List Value} {v : Value} (h : Has w B 1 A n vs) (hv : vs[i]? = some v) : ∃ g o, A = some ⟨g, o, none⟩ ∧ g < B ∧ w.cell? ⟨g, o + i, none⟩ = some v := by
  obtain ⟨g, o, rfl, hg, hc⟩ := h.lies (by have := (List.getElem?_eq_some_iff.1 hv).1; omega)
  exact ⟨g, o, rfl, hg, hc i v hv⟩

end Go.Proofs.YtmidjagjgipabaaGreatDoor
