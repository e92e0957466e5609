/-
  Compare of both texts: by the square of the length, then by the real, then by the imaginary part. By an AI agent.
-/
import Derived.Test.YtmbinnahndiboaaDoorReck
import Derived.Handy
namespace Go.Proofs.YtmbinnahndiboaaDoor
open Go.RowKit Flt
set_option linter.unusedVariables false

def cmpI (a b : Int) : Int := if a < b then -1 else if b < a then 1 else 0
def cmp3 (n a b m c d : Int) : Int := if cmpI n m ≠ 0 then cmpI n m else if cmpI a c ≠ 0 then cmpI a c else cmpI b d

theorem cmpI_range (a b : Int) : -1 ≤ cmpI a b ∧ cmpI a b ≤ 1 := by unfold cmpI; split <;> (try split) <;> omega
theorem cmpI_neg (a b : Int) : cmpI b a = -cmpI a b := by
  unfold cmpI
  rcases Int.lt_trichotomy a b with h | h | h
  · simp [h, show ¬ b < a by omega]
  · subst h; simp
  · simp [h, show ¬ a < b by omega]
theorem cmpI_zero {a b : Int} : cmpI a b = 0 ↔ a = b := by
  unfold cmpI
  rcases Int.lt_trichotomy a b with h | h | h
  · simp [h]; omega
  · subst h; simp
  · simp [h, show ¬ a < b by omega]; omega
theorem cmpI_neg_iff {a b : Int} : cmpI a b = -1 ↔ a < b := by
  unfold cmpI
  rcases Int.lt_trichotomy a b with h | h | h
  · simp [h]
  · subst h; simp
  · simp [h, show ¬ a < b by omega]

theorem cmp3_range (n a b m c d : Int) : -1 ≤ cmp3 n a b m c d ∧ cmp3 n a b m c d ≤ 1 := by
  unfold cmp3
  split
  · exact cmpI_range _ _
  · split
    · exact cmpI_range _ _
    · exact cmpI_range _ _

theorem cmp3_swap (n a b m c d : Int) : cmp3 m c d n a b = -cmp3 n a b m c d := by
  unfold cmp3
  rw [cmpI_neg n m, cmpI_neg a c, cmpI_neg b d]
  by_cases h1 : cmpI n m = 0
  · by_cases h2 : cmpI a c = 0
    · simp [h1, h2]
    · simp [h1, h2]
  · simp [h1]

theorem cmp3_le (n a b m c d : Int) : cmp3 n a b m c d ≤ 0 ↔ (n < m ∨ n = m ∧ (a < c ∨ a = c ∧ b ≤ d)) := by
  unfold cmp3 cmpI
  rcases Int.lt_trichotomy n m with h | h | h
  · simp [h]
  · subst h
    rcases Int.lt_trichotomy a c with h | h | h
    · simp [h]
    · subst h
      rcases Int.lt_trichotomy b d with h | h | h
      · simp [h]; omega
      · subst h; simp
      · simp [h, show ¬ b < d by omega]
    · simp [h, show ¬ a < c by omega]; omega
  · simp [h, show ¬ n < m by omega]; omega

theorem cmp3_trans {n a b m c d k e f : Int} (h1 : cmp3 n a b m c d ≤ 0) (h2 : cmp3 m c d k e f ≤ 0) : cmp3 n a b k e f ≤ 0 := by
  rw [cmp3_le] at *
  omega

set_option maxRecDepth 100000 in
theorem less_any (a b : Int) (w : World) :
    Calls Tryd.prog 35 #[.int .i64 a, .int .i64 b] w fun e w' => e = .returned (.int .i64 (cmpI a b)) ∧ w' = w := by
  unfold cmpI
  rcases Int.lt_trichotomy a b with h | h | h
  · go_enter Tryd.func35, Tryd.ntmps35
    go_wp2
    go_ret
    exact ⟨by first | rfl | simp, rfl⟩
  · subst h
    have h1 : ¬ a < a := by omega
    go_enter Tryd.func35, Tryd.ntmps35
    go_wp2
    go_ret
    exact ⟨by first | rfl | simp, rfl⟩
  · have h1 : ¬ a < b := by omega
    go_enter Tryd.func35, Tryd.ntmps35
    go_wp2
    go_ret
    exact ⟨by first | rfl | simp, rfl⟩

set_option maxRecDepth 100000 in
theorem nan_int (a : Int) (w : World) :
    Calls Tryd.prog 48 #[.int .i64 a] w fun e w' => e = .returned (.bool false) ∧ w' = w := by
  go_enter Tryd.func48, Tryd.ntmps48
  go_wp2
  go_ret
  exact ⟨by first | rfl | simp, rfl⟩

set_option maxRecDepth 100000 in
set_option maxHeartbeats 4000000 in
theorem cmp_int (a b : Int) (w : World) :
    Calls Tryd.prog 37 #[.int .i64 a, .int .i64 b] w fun e w' => e = .returned (.int .i64 (cmpI a b)) ∧ w' = w := by
  unfold cmpI
  have hn := fun a w => nan_int a w
  rcases Int.lt_trichotomy a b with h | h | h
  · go_enter Tryd.func37, Tryd.ntmps37
    go_wp2_with (go_at_call 48; refine (hn _ _).mono ?_; rintro e w1 ⟨rfl, rfl⟩)
    go_ret
    exact ⟨by first | rfl | simp, rfl⟩
  · subst h
    have h1 : ¬ a < a := by omega
    go_enter Tryd.func37, Tryd.ntmps37
    go_wp2_with (go_at_call 48; refine (hn _ _).mono ?_; rintro e w1 ⟨rfl, rfl⟩)
    go_ret
    exact ⟨by first | rfl | simp, rfl⟩
  · have h1 : ¬ a < b := by omega
    go_enter Tryd.func37, Tryd.ntmps37
    go_wp2_with (go_at_call 48; refine (hn _ _).mono ?_; rintro e w1 ⟨rfl, rfl⟩)
    go_ret
    exact ⟨by first | rfl | simp, rfl⟩

set_option maxRecDepth 100000 in
theorem nan_part (x : Nat) (a : Int) (h : Part x a) (w : World) :
    Calls Tryd.prog 49 #[.float .f64 x] w fun e w' => e = .returned (.bool false) ∧ w' = w := by
  have h1 : FloatKind.f64.format.order x x = some .eq := part_same h h
  go_enter Tryd.func49, Tryd.ntmps49
  go_wp2
  go_ret
  exact ⟨by first | rfl | simp, rfl⟩

set_option maxRecDepth 100000 in
set_option maxHeartbeats 4000000 in
theorem cmp_part (x y : Nat) (a b : Int) (h : Part x a) (k : Part y b) (w : World) :
    Calls Tryd.prog 38 #[.float .f64 x, .float .f64 y] w fun e w' => e = .returned (.int .i64 (cmpI a b)) ∧ w' = w := by
  have hx := fun w => nan_part x a h w
  have hy := fun w => nan_part y b k w
  have ho : FloatKind.f64.format.order x y = some (compare a b) := order_num h.2.1 k.2.1
  clear h k
  unfold cmpI
  rcases Int.lt_trichotomy a b with h | h | h
  · rw [Int.compare_eq_lt.2 h] at ho
    go_enter Tryd.func38, Tryd.ntmps38
    go_wp2_with (go_at_call 49; fail)
    refine (hx _).mono ?_
    rintro e w1 ⟨rfl, rfl⟩
    go_wp2_with (go_at_call 49; fail)
    refine (hy _).mono ?_
    rintro e w1 ⟨rfl, rfl⟩
    go_wp2
    go_ret
    exact ⟨by first | rfl | simp, rfl⟩
  · subst h
    rw [Int.compare_eq_eq.2 rfl] at ho
    go_enter Tryd.func38, Tryd.ntmps38
    go_wp2_with (go_at_call 49; fail)
    refine (hx _).mono ?_
    rintro e w1 ⟨rfl, rfl⟩
    go_wp2_with (go_at_call 49; fail)
    refine (hy _).mono ?_
    rintro e w1 ⟨rfl, rfl⟩
    go_wp2
    go_ret
    exact ⟨by first | rfl | simp, rfl⟩
  · have h1 : ¬ a < b := by omega
    rw [Int.compare_eq_gt.2 h] at ho
    go_enter Tryd.func38, Tryd.ntmps38
    go_wp2_with (go_at_call 49; fail)
    refine (hx _).mono ?_
    rintro e w1 ⟨rfl, rfl⟩
    go_wp2_with (go_at_call 49; fail)
    refine (hy _).mono ?_
    rintro e w1 ⟨rfl, rfl⟩
    go_wp2
    go_ret
    exact ⟨by first | rfl | simp, rfl⟩

/-- The first that isn't 0. -/
def or3 (a b c : Int) : Int := if a ≠ 0 then a else if b ≠ 0 then b else c

set_option maxRecDepth 100000 in
set_option maxHeartbeats 4000000 in
theorem or_any (B : Nat) (a b c : Int) (w : World) (c0 : w.cell? ⟨B, 0, none⟩ = some (.int .i64 a)) (c1 : w.cell? ⟨B, 1, none⟩ = some (.int .i64 b)) (c2 : w.cell? ⟨B, 2, none⟩ = some (.int .i64 c)) :
    Calls Tryd.prog 36 #[.slice (some ⟨B, 0, none⟩) 3 3] w fun e w' => e = .returned (.int .i64 (or3 a b c)) ∧ Below w.heap.size w w' := by
  unfold or3
  by_cases h0 : a = 0
  · subst h0
    by_cases h1 : b = 0
    · subst h1
      by_cases h2 : c = 0
      · subst h2
        go_enter Tryd.func36, Tryd.ntmps36
        go_wp2
        go_rounds 4
        all_goals go_ret
        all_goals exact ⟨rfl, Below.refl _ _⟩
      · have e2 : (c == 0) = false := beq_false_of_ne h2
        go_enter Tryd.func36, Tryd.ntmps36
        go_wp2
        go_rounds 4
        all_goals go_ret
        all_goals exact ⟨rfl, Below.refl _ _⟩
    · have e1 : (b == 0) = false := beq_false_of_ne h1
      go_enter Tryd.func36, Tryd.ntmps36
      go_wp2
      go_rounds 4
      all_goals go_ret
      all_goals exact ⟨rfl, Below.refl _ _⟩
  · have e0 : (a == 0) = false := beq_false_of_ne h0
    go_enter Tryd.func36, Tryd.ntmps36
    go_wp2
    go_rounds 4
    all_goals go_ret
    all_goals exact ⟨rfl, Below.refl _ _⟩

end Go.Proofs.YtmbinnahndiboaaDoor
