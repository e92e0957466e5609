/-
  What layer 1 makes of numbers: the bytes of a length and of an integer, told as lists. No program is named here.
-/
import Derived.Test.YtjannmoijoakcaaWords
namespace Go.Proofs.Ytjannmoijoakcaa.Ber
open Go.RowKit

/-- The lowest k bytes of N, the highest first. -/
def be (k N : Nat) : List UInt8 := (List.range k).map fun i => UInt8.ofNat (N / 2 ^ (8 * (k - 1 - i)))

theorem be_length (k N : Nat) : (be k N).length = k := by simp [be]
theorem be_get (k N i : Nat) (h : i < k) : (be k N)[i]? = some (UInt8.ofNat (N / 2 ^ (8 * (k - 1 - i)))) := by
  simp [be, List.getElem?_range h]

/-- How many bytes a length takes that one byte can't hold. -/
def wide (n : Nat) : Nat := if n < 256 then 1 else if n < 65536 then 2 else if n < 16777216 then 3 else 4

/-- The shortest length of n. -/
def lenOf (n : Int) : List UInt8 :=
  if n < 0 ∨ 2147483647 < n then [] else if n < 128 then [UInt8.ofNat n.toNat] else UInt8.ofNat (128 + wide n.toNat) :: be (wide n.toNat) n.toNat

theorem wide_le (n : Nat) : 1 ≤ wide n ∧ wide n ≤ 4 := by unfold wide; split <;> (try split) <;> (try split) <;> omega

theorem wide_more (n k : Nat) (hn : n < 2147483648) (h1 : 1 ≤ k) (hk : k < wide n) : n / 2 ^ (8 * k) ≠ 0 := by
  intro h
  rw [Nat.div_eq_zero_iff] at h
  have hp : 0 < 2 ^ (8 * k) := Nat.two_pow_pos _
  have hlt : n < 2 ^ (8 * k) := by omega
  have hw := wide_le n
  have hc : k = 1 ∨ k = 2 ∨ k = 3 := by omega
  unfold wide at hk
  rcases hc with rfl | rfl | rfl <;> simp at hlt <;> split at hk <;> (try split at hk) <;> (try split at hk) <;> omega

theorem wide_done (n : Nat) (hn : n < 2147483648) : n / 2 ^ (8 * wide n) = 0 := by
  rw [Nat.div_eq_zero_iff]
  right
  unfold wide
  split
  · omega
  · split
    · omega
    · split <;> omega

/-- One store of a loop that fills a row, byte by byte. -/
theorem filled (l : List UInt8) (n k : Nat) (b : UInt8) (z : Value) (hl : l.length = n) (hk : k < n) (hb : l[k]? = some b) :
    (bys (l.take k) ++ List.replicate (n - k) z).set k (c8 b) = bys (l.take (k + 1)) ++ List.replicate (n - (k + 1)) z := by
  have h1 : (bys (l.take k)).length = k := by simp [bys]; omega
  rw [List.set_append_right _ _ (by omega), h1, Nat.sub_self, show n - k = (n - (k + 1)) + 1 by omega, List.replicate_succ, List.set_cons_zero]
  rw [show l.take (k + 1) = l.take k ++ [b] by rw [List.take_add_one, hb]; rfl]
  simp [bys]

theorem filled_at (l : List UInt8) (n k : Nat) (z : Value) (hl : l.length = n) (hk : k < n) :
    (bys (l.take k) ++ List.replicate (n - k) z)[k]? = some z := by
  have h1 : (bys (l.take k)).length = k := by simp [bys]; omega
  rw [List.getElem?_append_right (by omega), h1, Nat.sub_self]
  simp [show 0 < n - k by omega]

end Go.Proofs.Ytjannmoijoakcaa.Ber
