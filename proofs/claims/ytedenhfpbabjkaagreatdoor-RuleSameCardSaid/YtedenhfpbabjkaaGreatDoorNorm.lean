/-
  Norm of both texts: the sum of the squares. By an AI agent.
-/
import Derived.Test.YtedenhfpbabjkaaGreatDoorAdds
import Derived.Test.YtedenhfpbabjkaaGreatDoorRefSums
namespace Go.Proofs.YtedenhfpbabjkaaGreatDoor
open Go.RowKit Flt
set_option linter.unusedVariables false

theorem xor_top (x : Nat) (hx : x < 2 ^ 64) : x ^^^ 2 ^ 63 = Ieee.double.word (!decide (2 ^ 63 ≤ x)) (x % 2 ^ 63) := by
  have hw : Ieee.double.signWeight = 2 ^ 63 := rfl
  have hr : x % 2 ^ 63 < 2 ^ 63 := Nat.mod_lt _ (Nat.two_pow_pos 63)
  have key : ∀ q, q = 0 ∨ q = 1 → (2 ^ 63 * q + x % 2 ^ 63) ^^^ 2 ^ 63 = 2 ^ 63 * (1 - q) + x % 2 ^ 63 := by
    intro q hq
    apply Nat.eq_of_testBit_eq
    intro j
    rw [Nat.testBit_xor, Nat.testBit_two_pow_mul_add _ hr, Nat.testBit_two_pow_mul_add _ hr, Nat.testBit_two_pow]
    by_cases hj : j < 63
    · simp [hj, show ¬ 63 = j by omega]
    · rcases hq with rfl | rfl
      · by_cases h63 : 63 = j
        · subst h63; simp
        · obtain ⟨k, hk⟩ : ∃ k, j - 63 = k + 1 := ⟨j - 64, by omega⟩
          simp only [hj, if_false, h63, hk]
          simp [Nat.testBit_succ]
      · by_cases h63 : 63 = j
        · subst h63; simp
        · obtain ⟨k, hk⟩ : ∃ k, j - 63 = k + 1 := ⟨j - 64, by omega⟩
          simp only [hj, if_false, h63, hk]
          simp [Nat.testBit_succ]
  by_cases h : 2 ^ 63 ≤ x
  · have e : x = 2 ^ 63 * 1 + x % 2 ^ 63 := by omega
    have k := key 1 (Or.inr rfl)
    rw [← e] at k
    rw [k]
    simp [Ieee.Format.word, h]
  · have e : x = 2 ^ 63 * 0 + x % 2 ^ 63 := by omega
    have k := key 0 (Or.inl rfl)
    rw [← e] at k
    rw [k]
    simp [Ieee.Format.word, h, hw]

theorem read_neg (x : Nat) (hx : x < 2 ^ 64) : Ieee.double.read (x ^^^ 2 ^ 63) = (Ieee.double.read x).opposite := by
  rw [xor_top x hx, read_word _ _ (Nat.mod_lt _ (Nat.two_pow_pos 63)), read_eq x hx]
  by_cases h1 : x % 2 ^ 63 < 2 ^ 52
  · simp only [if_pos h1]; rfl
  · by_cases h2 : x % 2 ^ 63 < 2047 * 2 ^ 52
    · simp only [if_neg h1, if_pos h2]; rfl
    · by_cases h3 : x % 2 ^ 63 = 2047 * 2 ^ 52
      · simp only [if_neg h1, if_neg h2, if_pos h3]; rfl
      · simp only [if_neg h1, if_neg h2, if_neg h3]; rfl

theorem neg_sn {x : Nat} {s : Bool} {n : Int} (h : Sn x s n) : Sn (Op.negFloat .f64 x) (!s) (-n) := by
  have e : Op.negFloat .f64 x = x ^^^ 2 ^ 63 := rfl
  rw [e]
  refine ⟨?_, by rw [read_neg x h.lt]; exact opp_num h.num⟩
  rw [xor_top x h.lt]
  have hw : Ieee.double.signWeight = 2 ^ 63 := rfl
  unfold Ieee.Format.word
  split <;> omega

/-- The square of a number's length, in words. -/
theorem c_norm {x y : Nat} {a b : Int} (h : Num x y a b) : ∃ r i, cMulBits x y x (Op.negFloat .f64 y) = some (r, i) ∧ ∃ s, Sn r s (a * a + b * b) := by
  obtain ⟨⟨_, _, a0, a1⟩, ⟨_, _, b0, b1⟩⟩ := id h
  have ha := abs_small a0 a1
  have hb := abs_small b0 b1
  have hb' : (-b).natAbs ≤ 1000000 := by omega
  have e1 := mul_abs ha ha
  have e2 := mul_abs hb hb'
  have e3 := mul_abs ha hb'
  have e4 := mul_abs hb ha
  have sx := (part_fw h.1).sn
  have sy := (part_fw h.2).sn
  have sn := neg_sn sy
  obtain ⟨ac, h1, f1⟩ := f_mul sx sx (by omega)
  obtain ⟨bd, h2, f2⟩ := f_mul sy sn (by omega)
  obtain ⟨r, h3, s3, f3⟩ := f_sub f1 f2 (by omega)
  obtain ⟨ad, h4, f4⟩ := f_mul sx sn (by omega)
  obtain ⟨bc, h5, f5⟩ := f_mul sy sx (by omega)
  obtain ⟨i, h6, f6⟩ := f_add f4 f5 (by omega)
  refine ⟨r, i, ?_, s3, ?_⟩
  · unfold cMulBits
    rw [h1, h2]; simp only [Option.bind_some]
    rw [h3, h4, h5]; simp only [Option.bind_some]
    rw [h6]; rfl
  · have e : a * a - b * -b = a * a + b * b := by rw [Int.mul_neg]; omega
    rw [← e]; exact f3

theorem sn_int {x : Nat} {s : Bool} {n : Int} (h : Sn x s n) (h0 : -9000000000000000 ≤ n) (h1 : n ≤ 9000000000000000) : floatToIntVal .f64 x .i64 = some n := by
  have h2 : (FloatKind.f64.decode x).toInt .zero = some n := toInt_num h.num
  unfold floatToIntVal
  rw [h2]
  have e1 : IntKind.min .i64 = -9223372036854775808 := rfl
  have e2 : IntKind.max .i64 = 9223372036854775807 := rfl
  simp only [e1, e2]
  rw [if_pos (by omega)]

theorem sq_bounds {a b : Int} (a0 : -1000000 ≤ a) (a1 : a ≤ 1000000) (b0 : -1000000 ≤ b) (b1 : b ≤ 1000000) : 0 ≤ a * a + b * b ∧ a * a + b * b ≤ 2000000000000 := by
  have h1 := mul_abs (abs_small a0 a1) (abs_small a0 a1)
  have h2 := mul_abs (abs_small b0 b1) (abs_small b0 b1)
  have h3 : 0 ≤ a * a := by
    rcases Int.le_total 0 a with h | h
    · exact Int.mul_nonneg h h
    · exact Int.mul_nonneg_of_nonpos_of_nonpos h h
  have h4 : 0 ≤ b * b := by
    rcases Int.le_total 0 b with h | h
    · exact Int.mul_nonneg h h
    · exact Int.mul_nonneg_of_nonpos_of_nonpos h h
  omega

set_option maxRecDepth 100000 in
set_option maxHeartbeats 4000000 in
theorem norm_yes (x y : Nat) (a b : Int) (h : Num x y a b) (w : World) :
    Calls Tryz.prog 28 #[.complex .f64 x y] w fun e w' => e = .returned (.int .i64 (a * a + b * b)) ∧ Below w.heap.size w w' := by
  have hF := fun w => formed_yes x y a b h w
  obtain ⟨r, i, hm, s, hs⟩ := c_norm h
  have hb := sq_bounds h.1.2.2.1 h.1.2.2.2 h.2.2.2.1 h.2.2.2.2
  have hi := sn_int hs (by omega) (by omega)
  have hmul : ∀ W : World, (binOp .mul 40 (.complex .f64 x y) (.complex .f64 x (Op.negFloat .f64 y))).run Tryz.prog W = .ok (.complex .f64 r i) W := fun W => run_complex_mul W _ _ _ _ _ _ _ hm
  have hc := conv64 r _ hi
  generalize a * a + b * b = N at hc ⊢
  have hneg : Op.unary .neg (.float .f64 y) = pure (.float .f64 (Op.negFloat .f64 y)) := rfl
  generalize Op.negFloat .f64 y = ny at hmul hneg
  clear h hm hs hi hb
  go_enter Tryz.func28, Tryz.ntmps28
  go_wp2_with (go_at_call 41; refine (hF _).mono ?_; rintro e w1 ⟨rfl, hb1⟩)
  go_ret
  exact ⟨rfl, hb1⟩

set_option maxRecDepth 100000 in
set_option maxHeartbeats 4000000 in
theorem rnorm_any (a b : Int) (ha : -1000000 ≤ a ∧ a ≤ 1000000) (hb : -1000000 ≤ b ∧ b ≤ 1000000) (w : World) :
    Calls Tryz.prog 30 #[.agg #[.int .i64 a, .int .i64 b]] w fun e w' => e = .returned (.int .i64 (a * a + b * b)) ∧ w' = w.alloc (.cells #[.int .i64 a, .int .i64 b] 46) := by
  have h1 := mul_abs (abs_small ha.1 ha.2) (abs_small ha.1 ha.2)
  have h2 := mul_abs (abs_small hb.1 hb.2) (abs_small hb.1 hb.2)
  have w1 : wrap64 (a * a) = a * a := by unfold wrap64; omega
  have w2 : wrap64 (b * b) = b * b := by unfold wrap64; omega
  have w3 : wrap64 (a * a + b * b) = a * a + b * b := by unfold wrap64; omega
  have b1 : -1000000000000 ≤ a * a ∧ a * a ≤ 1000000000000 := by omega
  have b2 : -1000000000000 ≤ b * b ∧ b * b ≤ 1000000000000 := by omega
  clear h1 h2
  go_enter Tryz.func30, Tryz.ntmps30
  go_wp2
  go_ret
  exact ⟨rfl, rfl⟩

end Go.Proofs.YtedenhfpbabjkaaGreatDoor
