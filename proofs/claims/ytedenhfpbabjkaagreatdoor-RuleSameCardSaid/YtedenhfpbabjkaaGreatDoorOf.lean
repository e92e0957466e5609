/-
  THE REFERENCE's PAIRS: of a number the pair, of another none; and back. By an AI agent.
-/
import Derived.Test.YtedenhfpbabjkaaGreatDoorForm
import Derived.Laws.ResultCell
namespace Go.Proofs.YtedenhfpbabjkaaGreatDoor
open Go.RowKit Flt
set_option linter.unusedVariables false

/-- A pair of integers, as a value. -/
def pairV (a b : Int) : Value := .agg #[.int .i64 a, .int .i64 b]

theorem part_zero {x : Nat} (h : Part x 0) : x = 0 := by
  have hs := sign_of h.1 h.2.1
  obtain ⟨hx, ⟨k, e, _⟩, _⟩ := h
  rcases read_cases x hx with ⟨_, _, h⟩ | ⟨_, h⟩ | ⟨_, _, h, hm⟩ | ⟨m, j, h, hj, hm⟩ <;> rw [h] at e
  · cases e
  · cases e
  · injection e with _ e2; simp at e2; omega
  · injection e with _ e2
    have : m = 0 := by rw [e2]; simp
    have := hm.1 this
    simp at hs
    omega

theorem part_cases {x : Nat} {a : Int} (h : Part x a) : (x = 0 ∧ a = 0) ∨ (a ≠ 0 ∧ (FloatKind.f64.format.order x 0 == some .eq) = false) := by
  by_cases h0 : a = 0
  · subst h0; exact Or.inl ⟨part_zero h, rfl⟩
  · refine Or.inr ⟨h0, beq_false_of_ne ?_⟩
    intro e
    have h1 : FloatKind.f64.format.order x 0 = some (compare a 0) := order_num h.2.1 num_0
    exact h0 (Int.compare_eq_eq.1 (Option.some.inj (h1.symm.trans e)))

theorem part_int {x : Nat} {a : Int} (h : Part x a) : floatToIntVal .f64 x .i64 = some a := by
  have h1 : (FloatKind.f64.decode x).toInt .zero = some a := toInt_num h.2.1
  unfold floatToIntVal
  rw [h1]
  obtain ⟨_, _, h2, h3⟩ := h
  have e1 : IntKind.min .i64 = -9223372036854775808 := rfl
  have e2 : IntKind.max .i64 = 9223372036854775807 := rfl
  simp only [e1, e2]
  rw [if_pos (by omega)]

/-- The word of an integer. -/
def fl (n : Int) : Nat := floatOfInt .f64 n

theorem fl_num (n : Int) (hn : n.natAbs < 2 ^ 53) : Ieee.Format.order Ieee.double = Ieee.Format.order Ieee.double ∧ IsN (Ieee.double.read (fl n)) (decide (n < 0)) n := ⟨rfl, nearest_num n hn⟩

theorem fl_lt (n : Int) : fl n < 2 ^ 64 := Ieee.Format.write_lt Ieee.double (.number (n < 0) n.natAbs 0)

theorem part_fl (n : Int) (h0 : -1000000 ≤ n) (h1 : n ≤ 1000000) : Part (fl n) n :=
  ⟨fl_lt n, nearest_num n (by omega), h0, h1⟩

theorem part_ge {x : Nat} {a : Int} (h : Part x a) : (FloatKind.f64.format.order x 13920209183539462144 == some .gt || FloatKind.f64.format.order x 13920209183539462144 == some .eq) = true := by
  have h1 : FloatKind.f64.format.order x 13920209183539462144 = some (compare a (-1000000)) := order_num h.2.1 num_m
  rw [h1]
  obtain ⟨_, _, h2, h3⟩ := h
  rcases Int.lt_trichotomy a (-1000000) with h4 | h4 | h4
  · omega
  · rw [Int.compare_eq_eq.2 h4]; rfl
  · rw [Int.compare_eq_gt.2 h4]; rfl

theorem part_le {x : Nat} {a : Int} (h : Part x a) : (FloatKind.f64.format.order x 4696837146684686336 == some .lt || FloatKind.f64.format.order x 4696837146684686336 == some .eq) = true := by
  have h1 : FloatKind.f64.format.order x 4696837146684686336 = some (compare a 1000000) := order_num h.2.1 num_M
  rw [h1]
  obtain ⟨_, _, h2, h3⟩ := h
  rcases Int.lt_trichotomy a 1000000 with h4 | h4 | h4
  · rw [Int.compare_eq_lt.2 h4]; rfl
  · rw [Int.compare_eq_eq.2 h4]; rfl
  · omega

theorem part_same {x y : Nat} {a : Int} (h : Part x a) (k : Part y a) : FloatKind.f64.format.order x y = some .eq := by
  have h1 : FloatKind.f64.format.order x y = some (compare a a) := order_num h.2.1 k.2.1
  rw [Int.compare_eq_eq.2 rfl] at h1
  exact h1

theorem conv64 (x : Nat) (n : Int) (h : floatToIntVal .f64 x .i64 = some n) (w : World) : (convert 69 2 (.float .f64 x)).run Tryz.prog w = .ok (.int .i64 n) w :=
  run_convert_float_int w _ _ .f64 .i64 x n (by rw [Tryz.underlying69]; rfl) Tryz.underlying2 h
theorem convInt (x : Nat) (n : Int) (h : floatToIntVal .f64 x .i64 = some n) (w : World) : (convert 69 3 (.float .f64 x)).run Tryz.prog w = .ok (.int .i64 n) w :=
  run_convert_float_int w _ _ .f64 .i64 x n (by rw [Tryz.underlying69]; rfl) Tryz.underlying3 h
theorem quo0 (w : World) : (binOp .quo 69 (.float .f64 4607182418800017408) (.float .f64 0)).run Tryz.prog w = .ok (.float .f64 9218868437227405312) w :=
  run_float_arith w .quo _ .f64 _ _ _ (by decide +kernel)
theorem quoN (w : World) : (binOp .quo 69 (.float .f64 4607182418800017408) (.float .f64 9223372036854775808)).run Tryz.prog w = .ok (.float .f64 18442240474082181120) w :=
  run_float_arith w .quo _ .f64 _ _ _ (by decide +kernel)
theorem inf0 : (FloatKind.f64.format.order 9218868437227405312 0 == some .lt) = false := by decide +kernel
theorem infN : (FloatKind.f64.format.order 18442240474082181120 0 == some .lt) = true := by decide +kernel
theorem eq00 : (FloatKind.f64.format.order 0 0 == some .eq) = true := by decide +kernel

theorem below2 (w : World) (o p : Obj) : Below w.heap.size w ((w.alloc o).alloc p) := ((Below.refl _ w).alloc (Nat.le_refl _) _).alloc (by simp) _
theorem below1 (w : World) (o : Obj) : Below w.heap.size w (w.alloc o) := (Below.refl _ w).alloc (Nat.le_refl _) _

/-- x is within the bounds, and cut to an integer it is z. -/
structure InR (x : Nat) (z : Int) : Prop where
  ge : (FloatKind.f64.format.order x 13920209183539462144 == some .gt || FloatKind.f64.format.order x 13920209183539462144 == some .eq) = true
  le : (FloatKind.f64.format.order x 4696837146684686336 == some .lt || FloatKind.f64.format.order x 4696837146684686336 == some .eq) = true
  cv : floatToIntVal .f64 x .i64 = some z

theorem in_neg : InR 9223372036854775808 0 := ⟨by decide +kernel, by decide +kernel, by decide +kernel⟩
theorem eq_neg : FloatKind.f64.format.order (floatOfInt .f64 0) 9223372036854775808 = some .eq := by decide +kernel

/-- What the tests of the reference say of any word. -/
inductive Cls (x : Nat) : Prop where
  | low (h : (FloatKind.f64.format.order x 13920209183539462144 == some .gt || FloatKind.f64.format.order x 13920209183539462144 == some .eq) = false)
  | high (h : (FloatKind.f64.format.order x 13920209183539462144 == some .gt || FloatKind.f64.format.order x 13920209183539462144 == some .eq) = true)
      (k : (FloatKind.f64.format.order x 4696837146684686336 == some .lt || FloatKind.f64.format.order x 4696837146684686336 == some .eq) = false)
  | off (z : Int) (h : InR x z) (k : FloatKind.f64.format.order (floatOfInt .f64 z) x ≠ some .eq)
  | neg (h : x = 9223372036854775808)
  | part (a : Int) (h : Part x a)

theorem cls (x : Nat) (hx : x < 2 ^ 64) : Cls x := by
  rcases part_or x hx with ⟨n, h⟩ | h | h
  · exact .part n h
  · exact .neg h
  · cases hg : (FloatKind.f64.format.order x 13920209183539462144 == some .gt || FloatKind.f64.format.order x 13920209183539462144 == some .eq) with
    | false => exact .low hg
    | true =>
      cases hl : (FloatKind.f64.format.order x 4696837146684686336 == some .lt || FloatKind.f64.format.order x 4696837146684686336 == some .eq) with
      | false => exact .high hg hl
      | true =>
        obtain ⟨z, h1, h2, h3, h4⟩ := h.rg (by simpa using (show (Ieee.double.order x 13920209183539462144 == some .gt || Ieee.double.order x 13920209183539462144 == some .eq) = true from hg)) (by simpa using (show (Ieee.double.order x 4696837146684686336 == some .lt || Ieee.double.order x 4696837146684686336 == some .eq) = true from hl))
        refine .off z ⟨hg, hl, ?_⟩ h4
        unfold floatToIntVal
        rw [show (FloatKind.f64.decode x).toInt .zero = some z from h1]
        have e1 : IntKind.min .i64 = -9223372036854775808 := rfl
        have e2 : IntKind.max .i64 = 9223372036854775807 := rfl
        simp only [e1, e2]
        rw [if_pos (by omega)]

theorem in_part {x : Nat} {a : Int} (h : Part x a) : InR x a := ⟨part_ge h, part_le h, part_int h⟩

/-- Within the bounds: cut to z, and either like z or not. -/
theorem cls_in {x : Nat} (h : Cls x) : (FloatKind.f64.format.order x 13920209183539462144 == some .gt || FloatKind.f64.format.order x 13920209183539462144 == some .eq) = false ∨
    ((FloatKind.f64.format.order x 13920209183539462144 == some .gt || FloatKind.f64.format.order x 13920209183539462144 == some .eq) = true ∧ (FloatKind.f64.format.order x 4696837146684686336 == some .lt || FloatKind.f64.format.order x 4696837146684686336 == some .eq) = false) ∨
    ∃ z, InR x z ∧ (FloatKind.f64.format.order (floatOfInt .f64 z) x ≠ some .eq ∨ FloatKind.f64.format.order (floatOfInt .f64 z) x = some .eq ∧ (x = 9223372036854775808 ∨ Part x z)) := by
  cases h with
  | low h => exact Or.inl h
  | high h k => exact Or.inr (Or.inl ⟨h, k⟩)
  | off z h k => exact Or.inr (Or.inr ⟨z, h, Or.inl k⟩)
  | neg h => subst h; exact Or.inr (Or.inr ⟨0, in_neg, Or.inr ⟨eq_neg, Or.inl rfl⟩⟩)
  | part a h => exact Or.inr (Or.inr ⟨a, in_part h, Or.inr ⟨part_same (part_fl a h.2.2.1 h.2.2.2) h, Or.inr h⟩⟩)

end Go.Proofs.YtedenhfpbabjkaaGreatDoor
