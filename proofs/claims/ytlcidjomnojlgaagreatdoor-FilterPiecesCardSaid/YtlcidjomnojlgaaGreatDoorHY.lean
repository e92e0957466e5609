/-
  Several texts in one: HSmall, HCount, HAttr, HBare, HFormed, HSame, HEsc, HText. By an AI agent.
-/
import Derived.Test.YtlcidjomnojlgaaGreatDoorHX
import Derived.Deep.CutRange
import Derived.Deep.CutBlock
import Derived.BigQuiet
/- Whether a raw filter is of a size that is looked at. -/
namespace Go.Proofs.YtlcidjomnojlgaaGreatDoor
open Go.RowKit
set_option linter.unusedVariables false

namespace FT
end FT

end Go.Proofs.YtlcidjomnojlgaaGreatDoor

/- How many filters stand in one, and how deep it is. -/
namespace Go.Proofs.YtlcidjomnojlgaaGreatDoor
open Go.RowKit
set_option linter.unusedVariables false

end Go.Proofs.YtlcidjomnojlgaaGreatDoor

/- Whether a filter has what belongs to its kind; whether it is formed. -/
namespace Go.Proofs.YtlcidjomnojlgaaGreatDoor
open Go.RowKit
set_option linter.unusedVariables false

theorem txt_at (l : List UInt8) (i : Nat) (hi : i < (txt l).size) (x : UInt8) (h : l[i]? = some x) : (txt l)[i]'hi = x := by
  have := Lib.data_getElem? (txt l) i hi
  rw [txt_toList, h] at this
  exact (Option.some.inj this).symm

end Go.Proofs.YtlcidjomnojlgaaGreatDoor

/- Whether a filter has what belongs to its kind, and nothing else; whether it is formed. -/
namespace Go.Proofs.YtlcidjomnojlgaaGreatDoor
open Go.RowKit
set_option linter.unusedVariables false

namespace FT
/-- Whether a filter has no pieces. -/
def plain0 (f l : List UInt8) (any : List (List UInt8)) : Bool := f == [] && l == [] && any == []
section
variable (k : Int) (a v f l : List UInt8) (any : List (List UInt8)) (ps : List FT)
theorem bare_and (h : k = 0 ∨ k = 1) : bare (.mk k a v f l any ps) = (a == [] && v == [] && plain0 f l any) := by
  simp only [bare, plain0]; rw [if_pos h]
theorem bare_not : bare (.mk 2 a v f l any ps) = (a == [] && v == [] && plain0 f l any && ps.length == 1) := by
  simp only [bare, plain0]; rw [if_neg (by omega), if_pos trivial]
theorem bare_val (h : k = 3 ∨ k = 5 ∨ k = 6 ∨ k = 8) : bare (.mk k a v f l any ps) = (attrOk a && fits v && plain0 f l any && ps.isEmpty) := by
  simp only [bare, plain0]; rw [if_neg (by omega), if_neg (by omega), if_pos h]
theorem bare_has : bare (.mk 7 a v f l any ps) = (attrOk a && v == [] && plain0 f l any && ps.isEmpty) := by
  simp only [bare, plain0]; rw [if_neg (by omega), if_neg (by omega), if_neg (by omega), if_pos trivial]
theorem bare_sub : bare (.mk 4 a v f l any ps) = (any.all fits && attrOk a && v == [] && !plain0 f l any && ps.isEmpty && f.length ≤ 200 && l.length ≤ 200) := by
  simp only [bare, plain0]; rw [if_neg (by omega), if_neg (by omega), if_neg (by omega), if_neg (by omega), if_pos trivial]
theorem bare_else (h : k ≠ 0 ∧ k ≠ 1 ∧ k ≠ 2 ∧ k ≠ 3 ∧ k ≠ 4 ∧ k ≠ 5 ∧ k ≠ 6 ∧ k ≠ 7 ∧ k ≠ 8) : bare (.mk k a v f l any ps) = false := by
  simp only [bare]; rw [if_neg (by omega), if_neg (by omega), if_neg (by omega), if_neg (by omega), if_neg (by omega)]
end
end FT

theorem isEmpty_len {α : Type} (l : List α) : l.isEmpty = (((l.length : Nat) : Int) == 0) := by
  cases l with
  | nil => rfl
  | cons a r => symm; exact beq_false_of_ne (by simp only [List.length_cons]; omega)
theorem len_one {α : Type} (l : List α) : (l.length == 1) = (((l.length : Nat) : Int) == 1) := by
  by_cases h : l.length = 1
  · rw [h]; rfl
  · rw [beq_false_of_ne h, beq_false_of_ne (by omega)]

end Go.Proofs.YtlcidjomnojlgaaGreatDoor

/- Whether a filter is formed. -/
namespace Go.Proofs.YtlcidjomnojlgaaGreatDoor
open Go.RowKit
set_option linter.unusedVariables false

theorem FT.all_mk (k : Int) (a v f l : List UInt8) (any : List (List UInt8)) (ps : List FT) : FT.all (.mk k a v f l any ps) = (FT.bare (.mk k a v f l any ps) && ps.all FT.all) := by
  rw [FT.all, FT.allL_all]

end Go.Proofs.YtlcidjomnojlgaaGreatDoor

/- Whether two filters are alike. -/
namespace Go.Proofs.YtlcidjomnojlgaaGreatDoor
open Go.RowKit
set_option linter.unusedVariables false

end Go.Proofs.YtlcidjomnojlgaaGreatDoor

/- How a value or a piece is written; what stands between an attribute and a value. -/
namespace Go.Proofs.YtlcidjomnojlgaaGreatDoor
open Go.RowKit
set_option linter.unusedVariables false

theorem FT.dig_hex (n : Nat) (h : n < 16) : FT.dig n = hexD n := by
  have key : ∀ j : Fin 16, FT.dig j.val = hexD j.val := by decide +kernel
  exact key ⟨n, h⟩

end Go.Proofs.YtlcidjomnojlgaaGreatDoor

/- A filter's text. -/
namespace Go.Proofs.YtlcidjomnojlgaaGreatDoor
open Go.RowKit
set_option linter.unusedVariables false

namespace FT
/-- What is known of a filter that has what belongs to its kind. -/
structure BareIs (k : Int) (a v f l : List UInt8) (any : List (List UInt8)) : Prop where
  kind : k = 0 ∨ k = 1 ∨ k = 2 ∨ k = 3 ∨ k = 4 ∨ k = 5 ∨ k = 6 ∨ k = 7 ∨ k = 8
  la : a.length ≤ 200
  lv : v.length ≤ 200
  lf : f.length ≤ 200
  ll : l.length ≤ 200
  lx : ∀ x ∈ any, x.length ≤ 200
theorem attr_len {a : List UInt8} (h : attrOk a = true) : a.length ≤ 40 := by
  unfold attrOk at h
  simp only [Bool.and_eq_true, decide_eq_true_eq] at h
  exact h.1.1.2
theorem fits_len {a : List UInt8} (h : fits a = true) : 1 ≤ a.length ∧ a.length ≤ 200 := by
  unfold fits at h
  simpa using h
theorem plain_nil {f l : List UInt8} {any : List (List UInt8)} (h : plain0 f l any = true) : f = [] ∧ l = [] ∧ any = [] := by
  unfold plain0 at h
  simpa [and_assoc] using h
theorem bare_is {k : Int} {a v f l : List UInt8} {any : List (List UInt8)} {ps : List FT} (h : bare (.mk k a v f l any ps) = true) : BareIs k a v f l any := by
  have nil : ∀ {f l : List UInt8} {any : List (List UInt8)}, plain0 f l any = true → f.length ≤ 200 ∧ l.length ≤ 200 ∧ ∀ x ∈ any, x.length ≤ 200 := fun h => by
    obtain ⟨rfl, rfl, rfl⟩ := plain_nil h
    exact ⟨by simp, by simp, fun x hx => by cases hx⟩
  by_cases h01 : k = 0 ∨ k = 1
  · rw [bare_and _ _ _ _ _ _ _ h01] at h
    simp only [Bool.and_eq_true, beq_iff_eq] at h
    obtain ⟨⟨rfl, rfl⟩, h3⟩ := h
    obtain ⟨q1, q2, q3⟩ := nil h3
    exact ⟨by omega, by simp, by simp, q1, q2, q3⟩
  by_cases h2 : k = 2
  · subst h2
    rw [bare_not] at h
    simp only [Bool.and_eq_true, beq_iff_eq] at h
    obtain ⟨⟨⟨rfl, rfl⟩, h3⟩, _⟩ := h
    obtain ⟨q1, q2, q3⟩ := nil h3
    exact ⟨by omega, by simp, by simp, q1, q2, q3⟩
  by_cases h3 : k = 3 ∨ k = 5 ∨ k = 6 ∨ k = 8
  · rw [bare_val _ _ _ _ _ _ _ h3] at h
    simp only [Bool.and_eq_true] at h
    obtain ⟨⟨⟨h4, h5⟩, h6⟩, _⟩ := h
    obtain ⟨q1, q2, q3⟩ := nil h6
    have := attr_len h4
    have := fits_len h5
    exact ⟨by omega, by omega, by omega, q1, q2, q3⟩
  by_cases h7 : k = 7
  · subst h7
    rw [bare_has] at h
    simp only [Bool.and_eq_true, beq_iff_eq] at h
    obtain ⟨⟨⟨h4, rfl⟩, h6⟩, _⟩ := h
    obtain ⟨q1, q2, q3⟩ := nil h6
    have := attr_len h4
    exact ⟨by omega, by omega, by simp, q1, q2, q3⟩
  by_cases h4 : k = 4
  · subst h4
    rw [bare_sub] at h
    simp only [Bool.and_eq_true, beq_iff_eq, decide_eq_true_eq] at h
    obtain ⟨⟨⟨⟨⟨⟨h5, h6⟩, rfl⟩, _⟩, _⟩, h7⟩, h8⟩ := h
    have := attr_len h6
    exact ⟨by omega, by omega, by simp, h7, h8, fun x hx => (fits_len (List.all_eq_true.1 h5 x hx)).2⟩
  rw [bare_else _ _ _ _ _ _ _ ⟨fun h => h01 (.inl h), fun h => h01 (.inr h), h2, fun h => h3 (.inl h), h4, fun h => h3 (.inr (.inl h)), fun h => h3 (.inr (.inr (.inl h))), h7, fun h => h3 (.inr (.inr (.inr h)))⟩] at h
  cases h

section
variable (k : Int) (a v f l : List UInt8) (any : List (List UInt8)) (ps : List FT)
end
theorem flat_take {α : Type} {L : List α} {i : Nat} {x : α} (g : α → List UInt8) (h : L[i]? = some x) : (L.take (i + 1)).flatMap g = (L.take i).flatMap g ++ g x := by
  rw [List.take_add_one, h]
  simp
end FT

/-- A filter's text and what is told of it. -/
noncomputable def FT.printV (t : FT) : List UInt8 × Int := if t.formed then (t.text, 0) else ([], 1)

end Go.Proofs.YtlcidjomnojlgaaGreatDoor
