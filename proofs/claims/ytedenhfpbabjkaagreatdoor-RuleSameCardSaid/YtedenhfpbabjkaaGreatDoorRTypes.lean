/-
  The walk of RuleTypes: whatever the text, true. By an AI agent.
-/
import Derived.Test.YtedenhfpbabjkaaGreatDoorRFew
namespace Go.Proofs.YtedenhfpbabjkaaGreatDoor
open Go.RowKit
set_option linter.unusedVariables false

theorem strs1 (w : World) (s : ByteArray) (t : TypeId) : Strs (w.alloc (.cells #[.string s] t)) w.heap.size [s] := by
  refine ⟨fun i x hx => ?_⟩
  match i, hx with
  | 0, hx =>
    simp only [List.getElem?_cons_zero, Option.some.injEq] at hx
    subst hx
    rw [World.cell?_alloc_at (hn := by simp)]; rfl

theorem strs2 (w : World) (s u : ByteArray) (t : TypeId) : Strs (w.alloc (.cells #[.string s, .string u] t)) w.heap.size [s, u] := by
  refine ⟨fun i x hx => ?_⟩
  match i, hx with
  | 0, hx =>
    simp only [List.getElem?_cons_zero, Option.some.injEq] at hx
    subst hx
    rw [World.cell?_alloc_at (hn := by simp)]; rfl
  | 1, hx =>
    simp only [List.getElem?_cons_succ, List.getElem?_cons_zero, Option.some.injEq] at hx
    subst hx
    rw [World.cell?_alloc_at (hn := by simp)]; rfl

theorem strs3 (w : World) (s u v : ByteArray) (t : TypeId) : Strs (w.alloc (.cells #[.string s, .string u, .string v] t)) w.heap.size [s, u, v] := by
  refine ⟨fun i x hx => ?_⟩
  match i, hx with
  | 0, hx =>
    simp only [List.getElem?_cons_zero, Option.some.injEq] at hx
    subst hx
    rw [World.cell?_alloc_at (hn := by simp)]; rfl
  | 1, hx =>
    simp only [List.getElem?_cons_succ, List.getElem?_cons_zero, Option.some.injEq] at hx
    subst hx
    rw [World.cell?_alloc_at (hn := by simp)]; rfl
  | 2, hx =>
    simp only [List.getElem?_cons_succ, List.getElem?_cons_zero, Option.some.injEq] at hx
    subst hx
    rw [World.cell?_alloc_at (hn := by simp)]; rfl

/-- The look at the arguments' lengths. -/
inductive Short (L : List ByteArray) : Prop where
  | yes (h : ∀ s ∈ L, s.size ≤ 3000)
  | no (h : ¬ ∀ s ∈ L, s.size ≤ 3000)
theorem short_or (L : List ByteArray) : Short L := by
  by_cases h : ∀ s ∈ L, s.size ≤ 3000
  · exact .yes h
  · exact .no h

end Go.Proofs.YtedenhfpbabjkaaGreatDoor
