/-
  What layer 1 makes of numbers: the bytes of a length and of an integer, told as lists. No program is named here.
-/
import Derived.Test.YtjannmoijoakcaaWords
namespace Go.Proofs.Ytjannmoijoakcaa.Ber
open Go.RowKit

/-- The lowest k bytes of N, the highest first. -/
def be (k N : Nat) : List UInt8 := (List.range k).map fun i => UInt8.ofNat (N / 2 ^ (8 * (k - 1 - i)))

theorem be_length (k N : Nat) : (be k N).length = k := by simp [be]
theorem be_get (k N i : Nat) (h : i < k) : (be k N)[i]? = some (UInt8.ofNat (N / 2 ^ (8 * (k - 1 - i)))) := by
  simp [be, List.getElem?_range h]

/-- How many bytes a length takes that one byte can't hold. -/
def wide (n : Nat) : Nat := if n < 256 then 1 else if n < 65536 then 2 else if n < 16777216 then 3 else 4

/-- The shortest length of n. -/
def lenOf (n : Int) : List UInt8 :=
  if n < 0 ∨ 2147483647 < n then [] else if n < 128 then [UInt8.ofNat n.toNat] else UInt8.ofNat (128 + wide n.toNat) :: be (wide n.toNat) n.toNat

theorem wide_le (n : Nat) : 1 ≤ wide n ∧ wide n ≤ 4 := by unfold wide; split <;> (try split) <;> (try split) <;> omega

theorem wide_more (n k : Nat) (hn : n < 2147483648) (h1 : 1 ≤ k) (hk : k < wide n) : n / 2 ^ (8 * k) ≠ 0 := by
  intro h
  rw [Nat.div_eq_zero_iff] at h
  have hp : 0 < 2 ^ (8 * k) := Nat.two_pow_pos _
  have hlt : n < 2 ^ (8 * k) := by omega
  have hw := wide_le n
  have hc : k = 1 ∨ k = 2 ∨ k = 3 := by omega
  unfold wide at hk
  rcases hc with rfl | rfl | rfl <;> simp at hlt <;> split at hk <;> (try split at hk) <;> (try split at hk) <;> omega

theorem wide_done (n : Nat) (hn : n < 2147483648) : n / 2 ^ (8 * wide n) = 0 := by
  rw [Nat.div_eq_zero_iff]
  right
  unfold wide
  split
  · omega
  · split
    · omega
    · split <;> omega

/-- How many bytes an integer takes. -/
def isize (n : Int) : Nat :=
  if -128 ≤ n ∧ n < 128 then 1 else if -32768 ≤ n ∧ n < 32768 then 2 else if -8388608 ≤ n ∧ n < 8388608 then 3 else
  if -2147483648 ≤ n ∧ n < 2147483648 then 4 else if -549755813888 ≤ n ∧ n < 549755813888 then 5 else
  if -140737488355328 ≤ n ∧ n < 140737488355328 then 6 else if -36028797018963968 ≤ n ∧ n < 36028797018963968 then 7 else 8

/-- An integer's content. -/
def intOfs (n : Int) : List UInt8 := be (isize n) (IntKind.u64.wrap n).toNat

theorem isize_le (n : Int) : 1 ≤ isize n ∧ isize n ≤ 8 := by
  unfold isize
  repeat' split
  all_goals omega

theorem isize_more (n : Int) (k : Nat) (h0 : -9223372036854775808 ≤ n) (h1 : n ≤ 9223372036854775807) (hk1 : 1 ≤ k) (hk : k < isize n) : n / 2 ^ (8 * k - 1) ≠ n / 9223372036854775808 := by
  have hle := isize_le n
  have hc : k = 1 ∨ k = 2 ∨ k = 3 ∨ k = 4 ∨ k = 5 ∨ k = 6 ∨ k = 7 := by omega
  unfold isize at hk
  rcases hc with rfl | rfl | rfl | rfl | rfl | rfl | rfl <;> simp only [Nat.reduceMul, Nat.reduceSub, Int.reducePow] <;>
    (repeat' (split at hk)) <;> omega

theorem isize_done (n : Int) (h0 : -9223372036854775808 ≤ n) (h1 : n ≤ 9223372036854775807) : n / 2 ^ (8 * isize n - 1) = n / 9223372036854775808 := by
  unfold isize
  repeat' split
  all_goals simp only [Nat.reduceMul, Nat.reduceSub, Int.reducePow] <;> omega

theorem isize_low (n : Int) (k : Nat) (hk1 : 1 ≤ k) (hk : k < isize n) : n / 2 ^ (8 * k - 1) ≠ 0 ∧ n / 2 ^ (8 * k - 1) ≠ -1 := by
  have hle := isize_le n
  have hc : k = 1 ∨ k = 2 ∨ k = 3 ∨ k = 4 ∨ k = 5 ∨ k = 6 ∨ k = 7 := by omega
  unfold isize at hk
  rcases hc with rfl | rfl | rfl | rfl | rfl | rfl | rfl <;> simp only [Nat.reduceMul, Nat.reduceSub, Int.reducePow] <;>
    (repeat' (split at hk)) <;> omega

theorem isize_end (n : Int) (h : isize n < 8) : n / 2 ^ (8 * isize n - 1) = 0 ∨ n / 2 ^ (8 * isize n - 1) = -1 := by
  unfold isize at h ⊢
  repeat' split
  all_goals simp only [Nat.reduceMul, Nat.reduceSub, Int.reducePow] <;> simp_all <;> omega

/-- One store of a loop that fills a row, byte by byte. -/
theorem filled (l : List UInt8) (n k : Nat) (b : UInt8) (z : Value) (hl : l.length = n) (hk : k < n) (hb : l[k]? = some b) :
    (bys (l.take k) ++ List.replicate (n - k) z).set k (c8 b) = bys (l.take (k + 1)) ++ List.replicate (n - (k + 1)) z := by
  have h1 : (bys (l.take k)).length = k := by simp [bys]; omega
  rw [List.set_append_right _ _ (by omega), h1, Nat.sub_self, show n - k = (n - (k + 1)) + 1 by omega, List.replicate_succ, List.set_cons_zero]
  rw [show l.take (k + 1) = l.take k ++ [b] by rw [List.take_add_one, hb]; rfl]
  simp [bys]

theorem filled_at (l : List UInt8) (n k : Nat) (z : Value) (hl : l.length = n) (hk : k < n) :
    (bys (l.take k) ++ List.replicate (n - k) z)[k]? = some z := by
  have h1 : (bys (l.take k)).length = k := by simp [bys]; omega
  rw [List.getElem?_append_right (by omega), h1, Nat.sub_self]
  simp [show 0 < n - k by omega]

end Go.Proofs.Ytjannmoijoakcaa.Ber
