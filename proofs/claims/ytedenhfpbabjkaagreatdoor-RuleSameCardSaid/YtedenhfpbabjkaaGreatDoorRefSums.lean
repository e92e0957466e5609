/-
  The reference's within, Add and Mul. By an AI agent.
-/
import Derived.Test.YtedenhfpbabjkaaGreatDoorSums
namespace Go.Proofs.YtedenhfpbabjkaaGreatDoor
open Go.RowKit Flt
set_option linter.unusedVariables false

set_option maxRecDepth 100000 in
set_option maxHeartbeats 4000000 in
theorem rwithin_yes (a b : Int) (h : InB a b) (w : World) :
    Calls Tryz.prog 47 #[pairV a b] w fun e w' => e = .returned (.bool true) ∧ w' = w.alloc (.cells #[.int .i64 a, .int .i64 b] 46) := by
  unfold pairV
  obtain ⟨⟨h1, h2⟩, h3, h4⟩ := h
  go_enter Tryz.func47, Tryz.ntmps47
  go_wp2
  go_ret
  exact ⟨rfl, rfl⟩

set_option maxRecDepth 100000 in
set_option maxHeartbeats 4000000 in
theorem rwithin_no (a b : Int) (h : ¬ InB a b) (w : World) :
    Calls Tryz.prog 47 #[pairV a b] w fun e w' => e = .returned (.bool false) ∧ w' = w.alloc (.cells #[.int .i64 a, .int .i64 b] 46) := by
  unfold pairV
  have key : ¬ (-1000000 ≤ a) ∨ ((-1000000 ≤ a) ∧ ¬ (a ≤ 1000000)) ∨ ((-1000000 ≤ a) ∧ (a ≤ 1000000) ∧ ¬ (-1000000 ≤ b)) ∨ ((-1000000 ≤ a) ∧ (a ≤ 1000000) ∧ (-1000000 ≤ b) ∧ ¬ (b ≤ 1000000)) := by
    unfold InB at h; omega
  clear h
  rcases key with h1 | ⟨h1, h2⟩ | ⟨h1, h2, h3⟩ | ⟨h1, h2, h3, h4⟩
  all_goals
    go_enter Tryz.func47, Tryz.ntmps47
    go_wp2
    go_ret
    exact ⟨rfl, rfl⟩

/-- What the reference reckons. -/
def rres (n m : Int) (v : Value) : Prop := (InB n m ∧ v = .tuple #[pairV n m, .int .i64 0]) ∨ (¬ InB n m ∧ v = .tuple #[pairV 0 0, .int .i64 3])

theorem below5 (w : World) (o p q r t : Obj) : Below w.heap.size w (((((w.alloc o).alloc p).alloc q).alloc r).alloc t) :=
  (((((Below.refl _ w).alloc (Nat.le_refl _) _).alloc (by simp) _).alloc (by simp <;> omega) _).alloc (by simp <;> omega) _).alloc (by simp <;> omega) _

theorem mul_bounds {a b : Int} (ha : a.natAbs ≤ 1000000) (hb : b.natAbs ≤ 1000000) : -1000000000000 ≤ a * b ∧ a * b ≤ 1000000000000 := by
  have := mul_abs ha hb
  omega

end Go.Proofs.YtedenhfpbabjkaaGreatDoor
