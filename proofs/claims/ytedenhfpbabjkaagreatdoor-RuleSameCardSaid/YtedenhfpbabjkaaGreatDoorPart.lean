/-
  WHICH WORDS OF A float64 ARE PARTS OF NUMBERS: integers from -1000000 to 1000000, and no nought with a sign; and what the comparisons, the cut to an integer and its like say of the other words. No program in it. By an AI agent.
-/
import Derived.Test.YtedenhfpbabjkaaGreatDoorFloat
namespace Go.Proofs.YtedenhfpbabjkaaGreatDoor
namespace Flt
open Ieee

/-- x is the word of the integer n within the bounds. -/
def Part (x : Nat) (n : Int) : Prop := x < 2 ^ 64 ∧ IsN (double.read x) (decide (n < 0)) n ∧ -1000000 ≤ n ∧ n ≤ 1000000

theorem read_eq (x : Nat) (hx : x < 2 ^ 64) : double.read x =
    (if x % 2 ^ 63 < 2 ^ 52 then .number (decide (2 ^ 63 ≤ x)) (x % 2 ^ 63) (-1074) else if x % 2 ^ 63 < 2047 * 2 ^ 52 then .number (decide (2 ^ 63 ≤ x)) (2 ^ 52 + (x % 2 ^ 63) % 2 ^ 52) (-1074 + ((x % 2 ^ 63) / 2 ^ 52 - 1 : Nat))
      else if x % 2 ^ 63 = 2047 * 2 ^ 52 then .infinity (decide (2 ^ 63 ≤ x)) else .nan (decide (2 ^ 63 ≤ x)) (x % 2 ^ 63 - 2047 * 2 ^ 52)) := by
  have := read_word (decide (2 ^ 63 ≤ x)) (x % 2 ^ 63) (Nat.mod_lt _ (Nat.two_pow_pos 63))
  rw [← eq_word hx] at this
  exact this

/-- What a word stands for: a NaN, an infinity, a number of no digits behind the point that is great, a number with digits behind it. -/
theorem read_cases (x : Nat) (hx : x < 2 ^ 64) :
    (∃ s t, double.read x = .nan s t) ∨ (∃ s, double.read x = .infinity s) ∨ (∃ m e : Nat, double.read x = .number (decide (2 ^ 63 ≤ x)) m (e : Int) ∧ 2 ^ 52 ≤ m) ∨
    (∃ m k : Nat, double.read x = .number (decide (2 ^ 63 ≤ x)) m (-(k : Int)) ∧ 0 < k ∧ (m = 0 ↔ x % 2 ^ 63 = 0)) := by
  rw [read_eq x hx]
  by_cases h1 : x % 2 ^ 63 < 2 ^ 52
  · rw [if_pos h1]
    exact Or.inr (Or.inr (Or.inr ⟨_, 1074, rfl, by omega, Iff.rfl⟩))
  · rw [if_neg h1]
    by_cases h2 : x % 2 ^ 63 < 2047 * 2 ^ 52
    · rw [if_pos h2]
      by_cases h3 : 1074 ≤ (x % 2 ^ 63) / 2 ^ 52 - 1
      · refine Or.inr (Or.inr (Or.inl ⟨2 ^ 52 + (x % 2 ^ 63) % 2 ^ 52, (x % 2 ^ 63) / 2 ^ 52 - 1 - 1074, ?_, by omega⟩))
        clear h1 h2
        generalize x % 2 ^ 63 / 2 ^ 52 - 1 = q at h3
        obtain ⟨j, rfl⟩ := Nat.exists_eq_add_of_le h3
        rw [Nat.add_sub_cancel_left, Int.natCast_add]
        have e : (-1074 : Int) + (((1074 : Nat) : Int) + (j : Int)) = (j : Int) := by omega
        rw [e]
      · refine Or.inr (Or.inr (Or.inr ⟨2 ^ 52 + (x % 2 ^ 63) % 2 ^ 52, 1074 - ((x % 2 ^ 63) / 2 ^ 52 - 1), ?_, by omega, by omega⟩))
        clear h1 h2
        generalize x % 2 ^ 63 / 2 ^ 52 - 1 = q at h3
        have e0 : 1074 - q + q = 1074 := Nat.sub_add_cancel (by omega)
        generalize 1074 - q = j at e0
        have e : (-1074 : Int) + (q : Int) = -(j : Int) := by omega
        rw [e]
    · rw [if_neg h2]
      by_cases h4 : x % 2 ^ 63 = 2047 * 2 ^ 52
      · rw [if_pos h4]; exact Or.inr (Or.inl ⟨_, rfl⟩)
      · rw [if_neg h4]; exact Or.inl ⟨_, _, rfl⟩

/-- The word without its sign. -/
theorem read_abs (x : Nat) (hx : x < 2 ^ 64) : double.read (x % 2 ^ 63) = match double.read x with
    | .nan _ t => .nan false t
    | .infinity _ => .infinity false
    | .number _ m e => .number false m e := by
  rw [read_eq x hx, read_eq (x % 2 ^ 63) (by omega)]
  have e1 : x % 2 ^ 63 % 2 ^ 63 = x % 2 ^ 63 := by omega
  have e2 : (decide (2 ^ 63 ≤ x % 2 ^ 63)) = false := by simp; omega
  rw [e1, e2]
  by_cases h1 : x % 2 ^ 63 < 2 ^ 52
  · simp only [if_pos h1]
  · by_cases h2 : x % 2 ^ 63 < 2047 * 2 ^ 52
    · simp only [if_neg h1, if_pos h2]
    · by_cases h3 : x % 2 ^ 63 = 2047 * 2 ^ 52
      · simp only [if_neg h1, if_neg h2, if_pos h3]
      · simp only [if_neg h1, if_neg h2, if_neg h3]

/-- The words of the constants. -/
def w0 : Nat := 0
def wM : Nat := 4696837146684686336
def wm : Nat := 13920209183539462144
theorem num_small (x : Nat) (n : Int) (hn : n.natAbs < 2 ^ 53) (h : FloatKind.f64.nearest n = x) : IsN (double.read x) (decide (n < 0)) n := h ▸ nearest_num n hn
theorem num_0 : IsN (double.read 0) false 0 := num_small 0 0 (by decide) (by decide +kernel)
theorem num_M : IsN (double.read 4696837146684686336) false 1000000 := num_small _ 1000000 (by decide) (by decide +kernel)
theorem num_m : IsN (double.read 13920209183539462144) true (-1000000) := num_small _ (-1000000) (by decide) (by decide +kernel)
theorem num_1 : IsN (double.read 4607182418800017408) false 1 := num_small _ 1 (by decide) (by decide +kernel)

/-- The sign's bit of a part. -/
theorem sign_of {x : Nat} (hx : x < 2 ^ 64) {s : Bool} {n : Int} (h : IsN (double.read x) s n) : s = decide (2 ^ 63 ≤ x) := by
  obtain ⟨k, e, _⟩ := h
  rcases read_cases x hx with ⟨_, _, h⟩ | ⟨_, h⟩ | ⟨_, _, h, _⟩ | ⟨_, _, h, _⟩ <;> rw [h] at e <;> first | (injection e with e1; exact e1.symm) | cases e

end Flt
end Go.Proofs.YtedenhfpbabjkaaGreatDoor
