/-
  The walk of RuleNormals: whatever the texts, true. By an AI agent.
-/
import Derived.Test.YtedenhfpbabjkaaGreatDoorRTypes
import Derived.Test.YtedenhfpbabjkaaGreatDoorMC
namespace Go.Proofs.YtedenhfpbabjkaaGreatDoor
open Go.RowKit
set_option linter.unusedVariables false

/-- A normal form is its own. -/
theorem norm_own {n v : List UInt8} (h : (norm n v).2 = 0) : norm n (norm n v).1 = ((norm n v).1, 0) := by
  cases road n v with
  | none _ r => rw [r] at h; simp at h
  | name _ r => rw [r] at h; simp at h
  | short _ _ r => rw [r] at h; simp at h
  | long _ _ r => rw [r] at h; simp at h
  | form _ _ _ r => rw [r] at h; simp at h
  | same _ _ _ r => rw [r]; exact r
  | text ht k f r =>
    rw [r]
    simp only
    rw [ht] at f
    obtain ⟨h0, h1⟩ := f.tx rfl
    have hf : Formed 1 (nt v) := ⟨fun _ => ⟨nt_zero v h0, by rw [nt_nt]; exact h1⟩, fun e => (by omega), fun e => (by omega)⟩
    have hl := nt_le v
    have hp := List.length_pos_iff.2 h1
    unfold norm
    rw [ht, if_neg (by omega), if_neg (by omega), if_neg, if_pos rfl, nt_nt]
    rintro (h | h | h)
    · omega
    · omega
    · exact h hf

theorem norm_len (n v : List UInt8) : (norm n v).1.length ≤ 200 := by
  cases road n v with
  | none _ r => rw [r]; simp
  | name _ r => rw [r]; simp
  | short _ _ r => rw [r]; simp
  | long _ _ r => rw [r]; simp
  | form _ _ _ r => rw [r]; simp
  | same _ k _ r => rw [r]; exact k.2
  | text ht k f r => rw [r]; exact Nat.le_trans (nt_le v) k.2

end Go.Proofs.YtedenhfpbabjkaaGreatDoor
