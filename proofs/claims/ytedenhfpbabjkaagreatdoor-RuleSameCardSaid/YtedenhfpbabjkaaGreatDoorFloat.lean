/-
  NUMBERS IN FLOATS: which words of a float64 stand for an integer of less than 54 digits, and that sums, products and comparisons of such are those of the integers. No program in it. By an AI agent.
-/
import Ieee.Arith
import Derived.Laws.FloatArith
namespace Go.Proofs.YtedenhfpbabjkaaGreatDoor
namespace Flt
open Ieee

def sg (s : Bool) (m : Nat) : Int := if s then -(m : Int) else (m : Int)

/-- The datum stands for n, with the sign s. -/
def IsN (d : Datum) (s : Bool) (n : Int) : Prop := ∃ k : Nat, d = .number s (n.natAbs * 2 ^ k) (-(k : Int)) ∧ (n ≠ 0 → s = decide (n < 0))

theorem sg_of {s : Bool} {n : Int} (h : n ≠ 0 → s = decide (n < 0)) (c : Nat) : sg s (n.natAbs * c) = n * c := by
  by_cases h0 : n = 0
  · subst h0; simp [sg]
  · have hs := h h0
    unfold sg
    by_cases hn : n < 0
    · rw [hs]; simp only [hn, decide_true, if_true]
      rw [Int.natCast_mul, ← Int.neg_mul]
      congr 1; omega
    · rw [hs]; simp only [hn, decide_false]
      rw [if_neg (by simp), Int.natCast_mul]
      congr 1; omega

theorem signed_eq (s : Bool) (m u : Nat) : signed s m u = sg s (m * 2 ^ u) := by
  unfold signed sg; rw [Nat.shiftLeft_eq]

theorem sg_mul (s : Bool) (m c : Nat) : sg s (m * c) = sg s m * c := by
  unfold sg; split <;> simp [Int.natCast_mul, Int.neg_mul]

theorem compare_scale (a b : Int) (c : Nat) (hc : 0 < c) : compare (a * c) (b * c) = compare a b := by
  have hc' : (0 : Int) < c := by omega
  rcases Int.lt_trichotomy a b with h | h | h
  · rw [show compare a b = .lt from Int.compare_eq_lt.2 h, Int.compare_eq_lt]; exact Int.mul_lt_mul_of_pos_right h hc'
  · subst h; simp
  · rw [show compare a b = .gt from Int.compare_eq_gt.2 h, Int.compare_eq_gt]; exact Int.mul_lt_mul_of_pos_right h hc'

/-- How two numbers stand to each other. -/
theorem order_numbers (s t : Bool) (m m' k l : Nat) : (Datum.number s m (-(k : Int))).order (.number t m' (-(l : Int))) = some (compare (sg s (m * 2 ^ l)) (sg t (m' * 2 ^ k))) := by
  simp only [Datum.order, signed_eq]
  congr 1
  by_cases h : k ≤ l
  · have e1 : min (-(k : Int)) (-(l : Int)) = -(l : Int) := by omega
    rw [e1, show (-(k : Int) - -(l : Int)).toNat = l - k by omega, show (-(l : Int) - -(l : Int)).toNat = 0 by omega]
    rw [← compare_scale _ _ (2 ^ k) (Nat.two_pow_pos k), ← sg_mul, ← sg_mul]
    congr 2
    · rw [Nat.mul_assoc, ← Nat.pow_add]; congr 2; omega
    · simp
  · have e1 : min (-(k : Int)) (-(l : Int)) = -(k : Int) := by omega
    rw [e1, show (-(k : Int) - -(k : Int)).toNat = 0 by omega, show (-(l : Int) - -(k : Int)).toNat = k - l by omega]
    rw [← compare_scale _ _ (2 ^ l) (Nat.two_pow_pos l), ← sg_mul, ← sg_mul]
    congr 2
    · simp
    · rw [Nat.mul_assoc, ← Nat.pow_add]; congr 2; omega

theorem order_num {a b : Datum} {s t : Bool} {n m : Int} (ha : IsN a s n) (hb : IsN b t m) : a.order b = some (compare n m) := by
  obtain ⟨k, rfl, hs⟩ := ha
  obtain ⟨l, rfl, ht⟩ := hb
  rw [order_numbers, Nat.mul_assoc, Nat.mul_assoc, sg_of hs, sg_of ht, Nat.mul_comm (2 ^ l), compare_scale _ _ _ (Nat.mul_pos (Nat.two_pow_pos k) (Nat.two_pow_pos l))]

theorem opp_num {a : Datum} {s : Bool} {n : Int} (ha : IsN a s n) : IsN a.opposite (!s) (-n) := by
  obtain ⟨k, rfl, hs⟩ := ha
  refine ⟨k, by simp [Datum.opposite], fun h => ?_⟩
  have := hs (by omega)
  subst this
  rcases Int.lt_trichotomy n 0 with h1 | h1 | h1
  · simp [h1]; omega
  · omega
  · simp [show ¬ n < 0 by omega]; omega

theorem signed_num {s : Bool} {n : Int} (hs : n ≠ 0 → s = decide (n < 0)) (k u : Nat) : signed s (n.natAbs * 2 ^ k) u = n * (2 ^ (k + u) : Nat) := by
  rw [signed_eq, Nat.mul_assoc, ← Nat.pow_add, sg_of hs]

theorem sum_num {a b : Datum} {s t : Bool} {n m : Int} (ha : IsN a s n) (hb : IsN b t m) : ∃ d, a.sum b = some d ∧ IsN d (if n + m = 0 then s && t else decide (n + m < 0)) (n + m) := by
  obtain ⟨k, rfl, hs⟩ := ha
  obtain ⟨l, rfl, ht⟩ := hb
  simp only [Datum.sum]
  refine ⟨_, rfl, max k l, ?_, fun h => by rw [if_neg h]⟩
  have e1 : min (-(k : Int)) (-(l : Int)) = -((max k l : Nat) : Int) := by omega
  rw [e1, signed_num hs, signed_num ht]
  rw [show k + (-(k : Int) - -((max k l : Nat) : Int)).toNat = max k l by omega, show l + (-(l : Int) - -((max k l : Nat) : Int)).toNat = max k l by omega]
  have hp : 0 < 2 ^ (max k l) := Nat.two_pow_pos _
  generalize 2 ^ (max k l) = p at hp
  rw [← Int.add_mul]
  have h0 : ((n + m) * (p : Int) = 0) = (n + m = 0) := by
    apply propext; rw [Int.mul_eq_zero]; constructor
    · rintro (h | h)
      · exact h
      · omega
    · exact Or.inl
  have h1 : ((n + m) * (p : Int) < 0) = (n + m < 0) := by
    apply propext
    constructor
    · intro h
      apply Int.not_le.1
      intro h2
      have := Int.mul_nonneg h2 (by omega : (0 : Int) ≤ p)
      omega
    · intro h
      exact Int.mul_neg_of_neg_of_pos h (by omega)
  simp only [h0, h1, Int.natAbs_mul, Int.natAbs_natCast]

theorem product_num {a b : Datum} {s t : Bool} {n m : Int} (ha : IsN a s n) (hb : IsN b t m) : ∃ d, a.product b = some d ∧ IsN d (s ^^ t) (n * m) := by
  obtain ⟨k, rfl, hs⟩ := ha
  obtain ⟨l, rfl, ht⟩ := hb
  simp only [Datum.product]
  refine ⟨_, rfl, k + l, ?_, fun h => ?_⟩
  · congr 1
    · rw [Int.natAbs_mul, Nat.pow_add, Nat.mul_mul_mul_comm]
    · omega
  · have hn : n ≠ 0 := by rintro rfl; simp at h
    have hm : m ≠ 0 := by rintro rfl; simp at h
    rw [hs hn, ht hm]
    rcases Int.lt_trichotomy n 0 with h1 | h1 | h1
    · rcases Int.lt_trichotomy m 0 with h2 | h2 | h2
      · simp [h1, h2]; exact Int.le_of_lt (Int.mul_pos_of_neg_of_neg h1 h2)
      · omega
      · simp [h1, show ¬ m < 0 by omega]; exact Int.mul_neg_of_neg_of_pos h1 h2
    · omega
    · rcases Int.lt_trichotomy m 0 with h2 | h2 | h2
      · simp [show ¬ n < 0 by omega, h2]; exact Int.mul_neg_of_pos_of_neg h1 h2
      · omega
      · simp [show ¬ n < 0 by omega, show ¬ m < 0 by omega]; exact Int.le_of_lt (Int.mul_pos h1 h2)

/-- 'm / 2 ^ k', as the cut towards zero has it. -/
theorem cut_zero (s : Bool) (m k : Nat) : Toward.zero.cut s m k = m / 2 ^ k := by
  simp only [Toward.cut, Bool.toNat_false, Nat.add_zero, Nat.one_shiftLeft]
  by_cases h : k ≤ m.log2 + 2
  · rw [Nat.min_eq_left h]
  · rw [Nat.min_eq_right (by omega)]
    have h1 : m < 2 ^ (m.log2 + 2) := Nat.lt_of_lt_of_le Nat.lt_log2_self (Nat.pow_le_pow_right (by omega) (by omega))
    have h2 : m < 2 ^ k := Nat.lt_of_lt_of_le h1 (Nat.pow_le_pow_right (by omega) (by omega))
    rw [Nat.div_eq_of_lt h1, Nat.div_eq_of_lt h2]

theorem integral_number (s : Bool) (m k : Nat) : (Datum.number s m (-(k : Int))).integral .zero = .number s (m / 2 ^ k) 0 := by
  simp only [Datum.integral]
  rw [show (-(k : Int)).toNat = 0 by omega, show (- -(k : Int)).toNat = k by omega, Nat.shiftLeft_zero, cut_zero]

theorem toInt_number (s : Bool) (m k : Nat) : (Datum.number s m (-(k : Int))).toInt .zero = some (sg s (m / 2 ^ k)) := by
  rw [Datum.toInt, integral_number]
  simp [signed_eq]

theorem integral_num {a : Datum} {s : Bool} {n : Int} (ha : IsN a s n) : IsN (a.integral .zero) s n := by
  obtain ⟨k, rfl, hs⟩ := ha
  rw [integral_number, Nat.mul_div_cancel _ (Nat.two_pow_pos k)]
  exact ⟨0, by simp, hs⟩

theorem toInt_num {a : Datum} {s : Bool} {n : Int} (ha : IsN a s n) : a.toInt .zero = some n := by
  obtain ⟨k, rfl, hs⟩ := ha
  rw [toInt_number, Nat.mul_div_cancel _ (Nat.two_pow_pos k)]
  have := sg_of hs 1
  simpa using this

theorem cut_even_exact (s : Bool) (q j : Nat) (hq : 0 < q) : Toward.even.cut s (q * 2 ^ j) j = q := by
  have hj : j ≤ (q * 2 ^ j).log2 + 2 := by
    have h1 : 2 ^ j ≤ q * 2 ^ j := Nat.le_mul_of_pos_left _ hq
    have := (Nat.le_log2 (n := q * 2 ^ j) (k := j) (Nat.ne_of_gt (Nat.mul_pos hq (Nat.two_pow_pos j)))).2 h1
    omega
  simp only [Toward.cut, Nat.one_shiftLeft, Nat.min_eq_left hj]
  rw [Nat.mul_mod_left, Nat.mul_div_cancel _ (Nat.two_pow_pos j)]
  have : 0 < 2 ^ j := Nat.two_pow_pos j
  simp

theorem log2_mul_pow (n k : Nat) (hn : 0 < n) : (n * 2 ^ k).log2 = n.log2 + k := by
  refine (Nat.log2_eq_iff (Nat.ne_of_gt (Nat.mul_pos hn (Nat.two_pow_pos k)))).2 ⟨?_, ?_⟩
  · rw [Nat.pow_add]; exact Nat.mul_le_mul_right _ (Nat.log2_self_le (Nat.ne_of_gt hn))
  · rw [show n.log2 + k + 1 = (n.log2 + 1) + k by omega, Nat.pow_add]
    exact Nat.mul_lt_mul_of_pos_right Nat.lt_log2_self (Nat.two_pow_pos k)

/-- The rung of an integer. -/
theorem nearest_rung (s : Bool) (N k : Nat) (h0 : 0 < N) (h1 : N < 2 ^ 53) :
    double.nearest s (N * 2 ^ k) (-(k : Int)) = double.word s ((N.log2 + 1022) * 2 ^ 52 + N * 2 ^ (52 - N.log2)) := by
  have hL : N.log2 < 53 := (Nat.log2_lt (Nat.ne_of_gt h0)).2 h1
  have hm : N * 2 ^ k ≠ 0 := Nat.ne_of_gt (Nat.mul_pos h0 (Nat.two_pow_pos k))
  have hl : double.leastPlace = -1074 := by decide
  have hb : double.binade = 2 ^ 52 := rfl
  have hf : double.fractionBits = 52 := rfl
  have hi : double.infRung = 2047 * 2 ^ 52 := by decide
  simp only [Format.nearest, hm, if_false, log2_mul_pow N k h0, hl, hb, hf, hi]
  have e1 : max (-(k : Int) + ((N.log2 + k : Nat) : Int) - ((52 : Nat) : Int)) (-1074) = (N.log2 : Int) - 52 := by omega
  rw [e1]
  have kept : Toward.even.cut s ((N * 2 ^ k) <<< (-(k : Int) - ((N.log2 : Int) - 52)).toNat) ((N.log2 : Int) - 52 - -(k : Int)).toNat = N * 2 ^ (52 - N.log2) := by
    by_cases hk : k ≤ 52 - N.log2
    · rw [show (-(k : Int) - ((N.log2 : Int) - 52)).toNat = 52 - N.log2 - k by omega, show ((N.log2 : Int) - 52 - -(k : Int)).toNat = 0 by omega]
      rw [Nat.shiftLeft_eq, Nat.mul_assoc, ← Nat.pow_add, show k + (52 - N.log2 - k) = 52 - N.log2 by omega]
      have := cut_even_exact s (N * 2 ^ (52 - N.log2)) 0 (Nat.mul_pos h0 (Nat.two_pow_pos _))
      simpa using this
    · rw [show (-(k : Int) - ((N.log2 : Int) - 52)).toNat = 0 by omega, show ((N.log2 : Int) - 52 - -(k : Int)).toNat = k - (52 - N.log2) by omega, Nat.shiftLeft_zero]
      have := cut_even_exact s (N * 2 ^ (52 - N.log2)) (k - (52 - N.log2)) (Nat.mul_pos h0 (Nat.two_pow_pos _))
      rw [Nat.mul_assoc, ← Nat.pow_add, show 52 - N.log2 + (k - (52 - N.log2)) = k by omega] at this
      exact this
  rw [kept, show ((N.log2 : Int) - 52 - -1074).toNat = N.log2 + 1022 by omega]
  have hq : N * 2 ^ (52 - N.log2) < 2 ^ 53 := by
    have : N * 2 ^ (52 - N.log2) < 2 ^ (N.log2 + 1) * 2 ^ (52 - N.log2) := Nat.mul_lt_mul_of_pos_right Nat.lt_log2_self (Nat.two_pow_pos _)
    rw [← Nat.pow_add, show N.log2 + 1 + (52 - N.log2) = 53 by omega] at this
    exact this
  rw [Nat.min_eq_left]
  clear kept e1 hi hf hb hl hm
  generalize N * 2 ^ (52 - N.log2) = q at hq
  generalize N.log2 = L at hL
  show (L + 1022) * 2 ^ 52 + q ≤ 2047 * 2 ^ 52
  omega

theorem read_word (s : Bool) (r : Nat) (hr : r < 2 ^ 63) : double.read (double.word s r) =
    (if r < 2 ^ 52 then .number s r (-1074) else if r < 2047 * 2 ^ 52 then .number s (2 ^ 52 + r % 2 ^ 52) (-1074 + (r / 2 ^ 52 - 1 : Nat)) else if r = 2047 * 2 ^ 52 then .infinity s else .nan s (r - 2047 * 2 ^ 52)) := by
  have hl : double.leastPlace = -1074 := by decide
  have hb : double.binade = 2 ^ 52 := rfl
  have hi : double.infRung = 2047 * 2 ^ 52 := by decide
  have hw : double.signWeight = 2 ^ 63 := rfl
  have e1 : (double.word s r / 2 ^ 63 % 2 == 1) = s := by
    unfold Format.word
    cases s
    · simp only [Bool.false_eq_true, if_false, Nat.div_eq_of_lt hr]; rfl
    · simp only [if_true, hw]
      rw [show (2 ^ 63 + r) / 2 ^ 63 = 1 by omega]; rfl
  have e2 : double.word s r % 2 ^ 63 = r := by
    unfold Format.word
    cases s
    · simp only [Bool.false_eq_true, if_false]; omega
    · simp only [if_true, hw]; omega
  simp only [Format.read, hl, hb, hi, hw, e1, e2]

theorem eq_word {x : Nat} (hx : x < 2 ^ 64) : x = double.word (decide (2 ^ 63 ≤ x)) (x % 2 ^ 63) := by
  have hw : double.signWeight = 2 ^ 63 := rfl
  unfold Format.word
  by_cases h : 2 ^ 63 ≤ x
  · simp only [h, decide_true, if_true, hw]; omega
  · simp only [h, decide_false, Bool.false_eq_true, if_false]; omega

/-- An integer of less than 54 digits, written, is read as it was. -/
theorem write_num {d : Datum} {s : Bool} {n : Int} (hd : IsN d s n) (hn : n.natAbs < 2 ^ 53) : IsN (double.read (double.write d)) s n := by
  obtain ⟨k, rfl, hs⟩ := hd
  simp only [Format.write]
  by_cases h0 : n = 0
  · subst h0
    have : double.nearest s ((0 : Int).natAbs * 2 ^ k) (-(k : Int)) = double.word s 0 := by simp [Format.nearest]
    rw [this, read_word s 0 (by omega)]
    refine ⟨1074, ?_, hs⟩
    generalize 2 ^ 1074 = p
    rw [Int.natAbs_zero, Nat.zero_mul]; rfl
  · have hp : 0 < n.natAbs := by omega
    have hL : n.natAbs.log2 < 53 := (Nat.log2_lt (by omega)).2 hn
    rw [nearest_rung s _ k hp hn]
    generalize hN : n.natAbs = N at *
    have hq : N * 2 ^ (52 - N.log2) < 2 ^ 53 := by
      have : N * 2 ^ (52 - N.log2) < 2 ^ (N.log2 + 1) * 2 ^ (52 - N.log2) := Nat.mul_lt_mul_of_pos_right Nat.lt_log2_self (Nat.two_pow_pos _)
      rw [← Nat.pow_add, show N.log2 + 1 + (52 - N.log2) = 53 by omega] at this
      exact this
    have hq0 : 2 ^ 52 ≤ N * 2 ^ (52 - N.log2) := by
      have : 2 ^ N.log2 * 2 ^ (52 - N.log2) ≤ N * 2 ^ (52 - N.log2) := Nat.mul_le_mul_right _ (Nat.log2_self_le (by omega))
      rw [← Nat.pow_add, show N.log2 + (52 - N.log2) = 52 by omega] at this
      exact this
    generalize hqq : N * 2 ^ (52 - N.log2) = q at *
    rw [read_word s _ (by omega), if_neg (by omega), if_pos (by omega)]
    refine ⟨52 - N.log2, ?_, hs⟩
    rw [hN, hqq]
    congr 1
    · omega
    · omega

theorem nearest_num (n : Int) (hn : n.natAbs < 2 ^ 53) : IsN (double.read (FloatKind.f64.nearest n)) (decide (n < 0)) n := by
  have : IsN (.number (decide (n < 0)) n.natAbs 0) (decide (n < 0)) n := ⟨0, by simp, fun _ => rfl⟩
  exact write_num this hn

end Flt
end Go.Proofs.YtedenhfpbabjkaaGreatDoor
