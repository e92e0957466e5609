/-
  EVERY WORD OF A float64 IS A PART OF A NUMBER, OR THE NOUGHT WITH A SIGN, OR NEITHER: what the tests of both texts answer at each. No program in it. By an AI agent.
-/
import Derived.Test.YtedenhfpbabjkaaGreatDoorPart
namespace Go.Proofs.YtedenhfpbabjkaaGreatDoor
namespace Flt
open Ieee

/-- y is what the cut to an integer gives for x; of a NaN nothing is asked. -/
def Tr (x y : Nat) : Prop := (∃ s t, double.read x = .nan s t) ∨ y = double.write ((double.read x).integral .zero)

theorem order_big {s t : Bool} {m e : Nat} {n : Int} {b : Datum} (hm : 2 ^ 52 ≤ m) (hb : IsN b t n) (h0 : -1000000 ≤ n) (h1 : n ≤ 1000000) :
    (Datum.number s m (e : Int)).order b = some (if s then .lt else .gt) := by
  obtain ⟨k, rfl, hs⟩ := hb
  simp only [Datum.order]
  rw [show min (e : Int) (-(k : Int)) = -(k : Int) by omega, signed_eq, signed_num hs]
  rw [show ((e : Int) - -(k : Int)).toNat = e + k by omega, show k + (-(k : Int) - -(k : Int)).toNat = k by omega, Nat.pow_add, ← Nat.mul_assoc, sg_mul, compare_scale _ _ _ (Nat.two_pow_pos k)]
  have h2 : 2 ^ 52 ≤ m * 2 ^ e := Nat.le_trans hm (Nat.le_mul_of_pos_right _ (Nat.two_pow_pos e))
  generalize m * 2 ^ e = q at h2
  cases s
  · simp only [sg, Bool.false_eq_true, if_false]
    rw [Int.compare_eq_gt.2 (by omega)]
  · simp only [sg, if_true]
    rw [Int.compare_eq_lt.2 (by omega)]

theorem sg_natAbs (s : Bool) (t : Nat) : (sg s t).natAbs = t := by unfold sg; split <;> omega

/-- A number that is t whole, cut. -/
theorem num_cut {s : Bool} {t k : Nat} (j : Nat) (hk : k = j) : IsN (.number s (t * 2 ^ k) (-(j : Int))) s (sg s t) := by
  subst hk
  refine ⟨k, by rw [sg_natAbs], fun h => ?_⟩
  cases s
  · simp [sg] <;> omega
  · have : t ≠ 0 := by rintro rfl; simp [sg] at h
    simp [sg] <;> omega

theorem num_cut0 (s : Bool) (t : Nat) : IsN (.number s t 0) s (sg s t) := by
  have := num_cut (s := s) (t := t) (k := 0) 0 rfl
  simpa using this

/-- How a number stands to an integer. -/
theorem order_at {s t : Bool} {m k : Nat} {n : Int} {b : Datum} (hb : IsN b t n) : (Datum.number s m (-(k : Int))).order b = some (compare (sg s m) (n * (2 ^ k : Nat))) := by
  obtain ⟨j, rfl, hs⟩ := hb
  rw [order_numbers, Nat.mul_assoc, sg_of hs, sg_mul s, Nat.mul_comm (2 ^ j), Int.natCast_mul, ← Int.mul_assoc, compare_scale _ _ _ (Nat.two_pow_pos j)]

/-- What is not whole is like no integer. -/
theorem order_off {s t : Bool} {m k : Nat} {n : Int} {b : Datum} (hb : IsN b t n) (h : ∀ q, m ≠ q * 2 ^ k) : (Datum.number s m (-(k : Int))).order b ≠ some .eq := by
  rw [order_at hb]
  intro e
  have e := Option.some.inj e
  rw [Int.compare_eq_eq] at e
  have e2 := congrArg Int.natAbs e
  rw [sg_natAbs, Int.natAbs_mul, Int.natAbs_natCast] at e2
  exact h _ e2

/-- A word that is neither a part nor a nought. -/
structure Bad (x : Nat) : Prop where
  nz : double.order x 0 ≠ some .eq
  tr : ∀ y, Tr x y → double.order x y = some .eq → double.order (x % 2 ^ 63) 4696837146684686336 ≠ some .lt ∧ double.order (x % 2 ^ 63) 4696837146684686336 ≠ some .eq
  rg : (double.order x 13920209183539462144 = some .gt ∨ double.order x 13920209183539462144 = some .eq) → (double.order x 4696837146684686336 = some .lt ∨ double.order x 4696837146684686336 = some .eq) →
    ∃ z, (double.read x).toInt .zero = some z ∧ -1000000 ≤ z ∧ z ≤ 1000000 ∧ double.order (FloatKind.f64.nearest z) x ≠ some .eq

theorem order_swap_ne {a b : Datum} (h : a.order b ≠ some .eq) (hb : ∃ s m e, a = .number s m e) (hc : ∃ s m e, b = .number s m e) : b.order a ≠ some .eq := by
  obtain ⟨s, m, e, rfl⟩ := hb
  obtain ⟨t, n, f, rfl⟩ := hc
  simp only [Datum.order] at h ⊢
  rw [Int.min_comm]
  intro hh
  apply h
  have := Option.some.inj hh
  rw [Int.compare_eq_eq] at this
  rw [this, Int.compare_eq_eq.2 rfl]

theorem part_or (x : Nat) (hx : x < 2 ^ 64) : (∃ n, Part x n) ∨ x = 2 ^ 63 ∨ Bad x := by
  rcases read_cases x hx with ⟨s, t, h⟩ | ⟨s, h⟩ | ⟨m, e, h, hm⟩ | ⟨m, k, h, hk, hm⟩
  · refine Or.inr (Or.inr ⟨?_, ?_, ?_⟩)
    · simp [Format.order, h, Datum.order]
    · intro y _ hy
      simp [Format.order, h, Datum.order] at hy
    · intro h1
      simp [Format.order, h, Datum.order] at h1
  · have ha := read_abs x hx
    rw [h] at ha
    refine Or.inr (Or.inr ⟨?_, ?_, ?_⟩)
    · obtain ⟨k, e, _⟩ := num_0
      rw [Format.order, h, e]; cases s <;> simp [Datum.order]
    · intro y _ _
      obtain ⟨k, e, _⟩ := num_M
      rw [Format.order, ha, e]
      simp [Datum.order]
    · intro h1 h2
      obtain ⟨k, e, _⟩ := num_M
      obtain ⟨k', e', _⟩ := num_m
      rw [Format.order, h, e'] at h1
      rw [Format.order, h, e] at h2
      cases s <;> simp [Datum.order] at h1 h2
  · have ha := read_abs x hx
    rw [h] at ha
    refine Or.inr (Or.inr ⟨?_, ?_, ?_⟩)
    · rw [Format.order, h, order_big hm num_0 (by omega) (by omega)]; split <;> simp
    · intro y _ _
      rw [Format.order, ha, order_big hm num_M (by omega) (by omega)]; simp
    · intro h1 h2
      rw [Format.order, h, order_big hm num_M (by omega) (by omega)] at h2
      rw [Format.order, h, order_big hm num_m (by omega) (by omega)] at h1
      split at h1 <;> simp_all
  · have ha := read_abs x hx
    rw [h] at ha
    by_cases h0 : m = 0
    · have h1 := hm.1 h0
      by_cases h2 : 2 ^ 63 ≤ x
      · exact Or.inr (Or.inl (by omega))
      · obtain rfl : x = 0 := by omega
        exact Or.inl ⟨0, hx, num_0, by omega, by omega⟩
    · by_cases hw : m = m / 2 ^ k * 2 ^ k
      · generalize m / 2 ^ k = t at hw
        subst hw
        have hn := num_cut (s := decide (2 ^ 63 ≤ x)) (t := t) (k := k) k rfl
        rw [← h] at hn
        by_cases ht : t ≤ 1000000
        · refine Or.inl ⟨sg (decide (2 ^ 63 ≤ x)) t, hx, ?_, ?_, ?_⟩
          · have ht0 : t ≠ 0 := by rintro rfl; simp at h0
            have : decide (sg (decide (2 ^ 63 ≤ x)) t < 0) = decide (2 ^ 63 ≤ x) := by
              cases decide (2 ^ 63 ≤ x)
              · simp [sg]
              · simp [sg]; omega
            rw [this]; exact hn
          · unfold sg; split <;> omega
          · unfold sg; split <;> omega
        · have hn2 := num_cut (s := false) (t := t) (k := k) k rfl
          have ha' : double.read (x % 2 ^ 63) = .number false (t * 2 ^ k) (-(k : Int)) := ha
          rw [← ha'] at hn2
          refine Or.inr (Or.inr ⟨?_, ?_, ?_⟩)
          · rw [Format.order, order_num hn num_0]
            intro e
            have e := Option.some.inj e
            rw [Int.compare_eq_eq] at e
            have := sg_natAbs (decide (2 ^ 63 ≤ x)) t
            omega
          · intro y _ _
            rw [Format.order, order_num hn2 num_M, Int.compare_eq_gt.2 (by simp [sg]; omega)]
            simp
          · intro h1 h2
            rw [Format.order, order_num hn num_m] at h1
            rw [Format.order, order_num hn num_M] at h2
            have h1' : -1000000 ≤ sg (decide (2 ^ 63 ≤ x)) t := by
              rcases h1 with e | e
              · have := Int.compare_eq_gt.1 (Option.some.inj e); omega
              · have := Int.compare_eq_eq.1 (Option.some.inj e); omega
            have h2' : sg (decide (2 ^ 63 ≤ x)) t ≤ 1000000 := by
              rcases h2 with e | e
              · have := Int.compare_eq_lt.1 (Option.some.inj e); omega
              · have := Int.compare_eq_eq.1 (Option.some.inj e); omega
            have := sg_natAbs (decide (2 ^ 63 ≤ x)) t
            omega
      · have hq : ∀ q, m ≠ q * 2 ^ k := by
          rintro q rfl
          rw [Nat.mul_div_cancel _ (Nat.two_pow_pos k)] at hw
          exact hw rfl
        refine Or.inr (Or.inr ⟨?_, ?_, ?_⟩)
        · rw [Format.order, h]; exact order_off num_0 hq
        · intro y hy hyo
          have ha' : double.read (x % 2 ^ 63) = .number false m (-(k : Int)) := ha
          rw [Format.order, ha', order_at num_M]
          by_cases ht : m / 2 ^ k ≤ 1000000
          · exfalso
            rcases hy with ⟨_, _, e⟩ | rfl
            · rw [h] at e; cases e
            · rw [Format.order, h, integral_number] at hyo
              exact order_off (write_num (num_cut0 _ _) (by rw [sg_natAbs]; omega)) hq hyo
          · have h3 : 1000001 * 2 ^ k ≤ m := (Nat.le_div_iff_mul_le (Nat.two_pow_pos k)).1 (by omega)
            have hp := Nat.two_pow_pos k
            generalize 2 ^ k = p at h3 hp
            rw [Int.compare_eq_gt.2 (by simp only [sg, Bool.false_eq_true, if_false]; omega)]
            simp
        · intro h1 h2
          rw [Format.order, h, order_at num_m] at h1
          rw [Format.order, h, order_at num_M] at h2
          have hp := Nat.two_pow_pos k
          have h1' : -1000000 * ((2 ^ k : Nat) : Int) ≤ sg (decide (2 ^ 63 ≤ x)) m := by
            rcases h1 with e | e
            · have := Int.compare_eq_gt.1 (Option.some.inj e); omega
            · have := Int.compare_eq_eq.1 (Option.some.inj e); omega
          have h2' : sg (decide (2 ^ 63 ≤ x)) m ≤ 1000000 * ((2 ^ k : Nat) : Int) := by
            rcases h2 with e | e
            · have := Int.compare_eq_lt.1 (Option.some.inj e); omega
            · have := Int.compare_eq_eq.1 (Option.some.inj e); omega
          have hm' : m ≤ 1000000 * 2 ^ k := by
            have := sg_natAbs (decide (2 ^ 63 ≤ x)) m
            generalize 2 ^ k = p at h1' h2' hp ⊢
            omega
          have ht : m / 2 ^ k ≤ 1000000 := Nat.le_of_lt_succ ((Nat.div_lt_iff_lt_mul hp).2 (by clear h1' h2' h1 h2 hm hx; generalize 2 ^ k = p at hm' hp ⊢; omega))
          have hz := sg_natAbs (decide (2 ^ 63 ≤ x)) (m / 2 ^ k)
          refine ⟨sg (decide (2 ^ 63 ≤ x)) (m / 2 ^ k), by rw [h, toInt_number], by omega, by omega, ?_⟩
          have hn := nearest_num (sg (decide (2 ^ 63 ≤ x)) (m / 2 ^ k)) (by omega)
          rw [Format.order, h]
          obtain ⟨j, e, _⟩ := id hn
          exact order_swap_ne (order_off hn hq) ⟨_, _, _, rfl⟩ ⟨_, _, _, e⟩

theorem abs_num {x : Nat} (hx : x < 2 ^ 64) {s : Bool} {n : Int} (h : IsN (double.read x) s n) : IsN (double.read (x % 2 ^ 63)) false (n.natAbs : Int) := by
  have ha := read_abs x hx
  obtain ⟨k, e, _⟩ := h
  rw [e] at ha
  exact ⟨k, by rw [ha]; simp, fun _ => by simp⟩

theorem part_not {x : Nat} {n : Int} (h : Part x n) (h' : x = 2 ^ 63 ∨ Bad x) : False := by
  obtain ⟨hx, hn, h0, h1⟩ := h
  rcases h' with rfl | h'
  · have hs := sign_of hx hn
    have h2 : double.order (2 ^ 63) 0 = some (compare n 0) := order_num hn num_0
    have h3 : double.order (2 ^ 63) 0 = some .eq := by decide +kernel
    have := Int.compare_eq_eq.1 (Option.some.inj (h2.symm.trans h3))
    subst this
    simp at hs
  · have hb : n.natAbs < 2 ^ 53 := by omega
    have h2 := h'.tr _ (Or.inr rfl) (by
      have := order_num hn (write_num (integral_num hn) hb)
      rw [Int.compare_eq_eq.2 rfl] at this
      exact this)
    have h3 : double.order (x % 2 ^ 63) 4696837146684686336 = some (compare (n.natAbs : Int) 1000000) := order_num (abs_num hx hn) num_M
    rcases Int.lt_trichotomy (n.natAbs : Int) 1000000 with h4 | h4 | h4
    · rw [Int.compare_eq_lt.2 h4] at h3; exact h2.1 h3
    · rw [Int.compare_eq_eq.2 h4] at h3; exact h2.2 h3
    · omega

end Flt
end Go.Proofs.YtedenhfpbabjkaaGreatDoor
