/-
  A field that was laid is taken off as it was; a field that is cut off anywhere lacks something.
-/
import Derived.Test.YtjannmoijoakcaaBerRefTake
import Derived.Test.YtjannmoijoakcaaBerField
namespace Go.Proofs.Ytjannmoijoakcaa.Ber
open Go.RowKit

theorem be_succ (k N : Nat) : be (k + 1) N = be k (N / 256) ++ [UInt8.ofNat N] := by
  unfold be
  rw [List.range_succ, List.map_append]
  congr 1
  · apply List.map_congr_left
    intro i hi
    have hik : i < k := List.mem_range.1 hi
    rw [show 8 * (k + 1 - 1 - i) = 8 + 8 * (k - 1 - i) by omega, Nat.pow_add, ← Nat.div_div_eq_div_mul]
  · simp

theorem un_be (k : Nat) : ∀ N, N < 256 ^ k → un (be k N) = N := by
  induction k with
  | zero => intro N h; simp at h; subst h; rfl
  | succ k ih =>
    intro N h
    rw [be_succ]
    have h1 : un (be k (N / 256) ++ [UInt8.ofNat N]) = un (be k (N / 256)) * 256 + (UInt8.ofNat N).toNat := by simp [un, List.foldl_append]
    rw [Nat.pow_succ] at h
    rw [h1, ih (N / 256) (by omega), UInt8.toNat_ofNat']
    omega

theorem wide_fits (n : Nat) (h : n < 4294967296) : n < 256 ^ wide n := by
  unfold wide
  repeat' split
  all_goals simp only [Nat.reducePow] <;> omega

theorem cutLen_lenOf (n : Nat) (h : n ≤ 2147483647) (x : List UInt8) : cutLen (lenOf (n : Int) ++ x) = (n, (lenOf (n : Int)).length, 0) := by
  unfold lenOf
  rw [if_neg (by omega)]
  by_cases h1 : (n : Int) < 128
  · rw [if_pos h1]
    have e : (UInt8.ofNat (n : Int).toNat).toNat = n := by rw [UInt8.toNat_ofNat', Int.toNat_natCast, Nat.mod_eq_of_lt (by omega)]
    rw [List.singleton_append, cutLen, if_pos (by omega), e]
    rfl
  · rw [if_neg h1, Int.toNat_natCast]
    have hw := wide_le n
    have e : (UInt8.ofNat (128 + wide n)).toNat = 128 + wide n := by rw [UInt8.toNat_ofNat', Nat.mod_eq_of_lt (by omega)]
    rw [List.cons_append, cutLen, e, if_neg (by omega), if_neg (by omega), show 128 + wide n - 128 = wide n by omega]
    rw [if_neg (by rw [List.length_append, be_length]; omega)]
    have ht : (be (wide n) n ++ x).take (wide n) = be (wide n) n := by
      rw [List.take_append_of_le_length (by rw [be_length]; omega), List.take_of_length_le (by rw [be_length]; omega)]
    rw [ht, un_be _ _ (wide_fits n (by omega)), List.length_cons, be_length, Nat.add_comm]

theorem takeOf_field (tag : UInt8) (l m : List UInt8) (hl : l.length ≤ 2147483647) :
    takeOf (fieldOf tag l ++ m) = if tag.toNat % 32 = 31 then (0, [], [], 2) else (tag.toNat, l, m, 0) := by
  have hc := cutLen_lenOf l.length hl (l ++ m)
  have e : fieldOf tag l ++ m = tag :: (lenOf (l.length : Int) ++ (l ++ m)) := by simp [fieldOf]
  rw [e, takeOf]
  by_cases h1 : tag.toNat % 32 = 31
  · rw [if_pos h1, if_pos h1]
  · have er : cutRest (lenOf (l.length : Int) ++ (l ++ m)) = l ++ m := by
      rw [cutRest, hc, if_pos rfl]
      exact List.drop_left
    rw [if_neg h1, if_neg h1, hc, if_neg (by simp), er, if_neg (by rw [List.length_append]; simp only; omega)]
    simp only [List.take_left, List.drop_left]

theorem cutLen_part (n : Nat) (h : n ≤ 2147483647) (j : Nat) (hj : j < (lenOf (n : Int)).length) : (cutLen ((lenOf (n : Int)).take j)).2.2 = 5 := by
  unfold lenOf at hj ⊢
  rw [if_neg (by omega)] at hj ⊢
  by_cases h1 : (n : Int) < 128
  · rw [if_pos h1] at hj ⊢
    simp only [List.length_singleton] at hj
    obtain rfl : j = 0 := by omega
    rfl
  · rw [if_neg h1, Int.toNat_natCast] at hj ⊢
    have hw := wide_le n
    have e : (UInt8.ofNat (128 + wide n)).toNat = 128 + wide n := by rw [UInt8.toNat_ofNat', Nat.mod_eq_of_lt (by omega)]
    cases j with
    | zero => rfl
    | succ j =>
      rw [List.length_cons, be_length] at hj
      rw [List.take_succ_cons, cutLen, e, if_neg (by omega), if_neg (by omega), if_pos (by rw [List.length_take, be_length]; omega)]

theorem takeOf_part (tag : UInt8) (l : List UInt8) (hl : l.length ≤ 2147483647) (ht : tag.toNat % 32 ≠ 31) (i : Nat) (hi : i < (fieldOf tag l).length) : takeOf ((fieldOf tag l).take i) = (0, [], [], 5) := by
  cases i with
  | zero => rfl
  | succ j =>
    rw [fieldOf, List.take_succ_cons, takeOf, if_neg ht]
    rw [fieldOf_length] at hi
    by_cases h : j < (lenOf (l.length : Int)).length
    · rw [List.take_append_of_le_length (by omega), if_pos (by rw [cutLen_part l.length hl j h]; simp), cutLen_part l.length hl j h]
    · have e : (lenOf (l.length : Int) ++ l).take j = lenOf (l.length : Int) ++ l.take (j - (lenOf (l.length : Int)).length) := by
        rw [List.take_append, List.take_of_length_le (by omega)]
      have hc := cutLen_lenOf l.length hl (l.take (j - (lenOf (l.length : Int)).length))
      have er : cutRest (lenOf (l.length : Int) ++ l.take (j - (lenOf (l.length : Int)).length)) = l.take (j - (lenOf (l.length : Int)).length) := by
        rw [cutRest, hc, if_pos rfl]
        exact List.drop_left
      rw [e, hc, if_neg (by simp), er, if_pos (by rw [List.length_take]; simp only; omega)]

end Go.Proofs.Ytjannmoijoakcaa.Ber
