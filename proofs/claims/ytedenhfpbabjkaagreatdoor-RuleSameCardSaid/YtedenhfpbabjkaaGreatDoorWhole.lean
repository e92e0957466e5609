/-
  The walk of PhasorWhole: whatever the integers, true. By an AI agent.
-/
import Derived.Test.YtedenhfpbabjkaaGreatDoorNorm
import Derived.Test.YtedenhfpbabjkaaGreatDoorBack
namespace Go.Proofs.YtedenhfpbabjkaaGreatDoor
open Go.RowKit Flt
set_option linter.unusedVariables false

/-- A pair lies in block B. -/
structure Pr (w : World) (B : Nat) (a b : Int) : Prop where
  c0 : w.cell? ⟨B, 0, none⟩ = some (.int .i64 a)
  c1 : w.cell? ⟨B, 1, none⟩ = some (.int .i64 b)
  lt : B < w.heap.size

theorem Pr.below {w w' : World} {B : Nat} {a b : Int} (h : Pr w B a b) (hb : Below w.heap.size w w') : Pr w' B a b :=
  ⟨(hb.cell (p := ⟨B, 0, none⟩) h.lt).trans h.c0, (hb.cell (p := ⟨B, 1, none⟩) h.lt).trans h.c1, Nat.lt_of_lt_of_le h.lt hb.size⟩
theorem Pr.drew {w : World} {B : Nat} {a b : Int} (h : Pr w B a b) : Pr w.drew B a b := ⟨h.c0, h.c1, h.lt⟩
theorem Pr.up {w W : World} {B : Nat} {a b : Int} (h : Pr w B a b) (hW : upOf w W) : Pr W B a b := h.below hW
theorem Pr.new (w : World) (a b : Int) : Pr (w.alloc (.cells #[.int .i64 a, .int .i64 b] 46)) w.heap.size a b :=
  ⟨by rw [World.cell?_alloc_at (hn := by simp)]; rfl, by rw [World.cell?_alloc_at (hn := by simp)]; rfl, by simp⟩
theorem Pr.old {w : World} {B : Nat} {a b : Int} (h : Pr w B a b) (o : Obj) : Pr (w.alloc o) B a b := h.below (below1 w o)

theorem rnorm_bel (a b : Int) (ha : -1000000 ≤ a ∧ a ≤ 1000000) (hb : -1000000 ≤ b ∧ b ≤ 1000000) (w : World) :
    Calls Tryz.prog 30 #[.agg #[.int .i64 a, .int .i64 b]] w fun e w' => e = .returned (.int .i64 (a * a + b * b)) ∧ Below w.heap.size w w' := by
  refine (rnorm_any a b ha hb w).mono ?_
  rintro e w' ⟨rfl, rfl⟩
  exact ⟨rfl, below1 _ _⟩

theorem tmod_700 (x : Int) : -699 ≤ x.tmod 700 ∧ x.tmod 700 ≤ 699 := by
  have h1 := Int.tmod_lt_of_pos x (show (0 : Int) < 700 by omega)
  have h2 := Int.tmod_lt_of_pos (-x) (show (0 : Int) < 700 by omega)
  rw [Int.neg_tmod] at h2
  omega

theorem small_mul {a b : Int} (ha : -699 ≤ a ∧ a ≤ 699) (hb : -699 ≤ b ∧ b ≤ 699) : -488601 ≤ a * b ∧ a * b ≤ 488601 := by
  have h : (a * b).natAbs ≤ 699 * 699 := by rw [Int.natAbs_mul]; exact Nat.mul_le_mul (by omega) (by omega)
  omega

theorem norm_prod (p q r s : Int) : (p * r - q * s) * (p * r - q * s) + (p * s + q * r) * (p * s + q * r) = (p * p + q * q) * (r * r + s * s) := by grind

end Go.Proofs.YtedenhfpbabjkaaGreatDoor
