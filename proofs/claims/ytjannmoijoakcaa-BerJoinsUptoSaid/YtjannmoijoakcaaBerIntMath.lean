/-
  What bytes are as an integer, and that an integer's content is read as that integer, and no other content is.
-/
import Derived.Test.YtjannmoijoakcaaBerRefInt
namespace Go.Proofs.Ytjannmoijoakcaa.Ber
open Go.RowKit

def signed (b : UInt8) : Int := if b.toNat < 128 then b.toNat else (b.toNat : Int) - 256

/-- Bytes as a two's complement, the highest first. -/
def sv : List UInt8 → Int
  | [] => 0
  | b :: r => r.foldl (fun n c => n * 256 + (c.toNat : Int)) (signed b)

theorem sv_snoc (l : List UInt8) (c : UInt8) (h : l ≠ []) : sv (l ++ [c]) = sv l * 256 + (c.toNat : Int) := by
  cases l with
  | nil => exact absurd rfl h
  | cons b r => simp [sv, List.foldl_append]

def uv (l : List UInt8) : Int := l.foldl (fun n c => n * 256 + (c.toNat : Int)) 0

theorem foldl_from (r : List UInt8) : ∀ n : Int, r.foldl (fun n c => n * 256 + (c.toNat : Int)) n = n * 256 ^ r.length + uv r := by
  induction r with
  | nil => intro n; simp [uv]
  | cons c r ih =>
    intro n
    rw [uv, List.foldl_cons, List.foldl_cons, ih, ih (0 * 256 + _), List.length_cons, Int.pow_succ, Int.add_mul]
    simp only [Int.zero_mul, Int.zero_add]
    rw [show n * 256 * 256 ^ r.length = n * (256 ^ r.length * 256) by rw [Int.mul_assoc, Int.mul_comm 256]]
    omega

theorem uv_cons (c : UInt8) (r : List UInt8) : uv (c :: r) = (c.toNat : Int) * 256 ^ r.length + uv r := by
  rw [uv, List.foldl_cons, foldl_from]
  simp

theorem sv_cons (c : UInt8) (r : List UInt8) : sv (c :: r) = signed c * 256 ^ r.length + uv r := foldl_from r _

theorem uv_range (r : List UInt8) : 0 ≤ uv r ∧ uv r < 256 ^ r.length := by
  induction r with
  | nil => simp [uv]
  | cons c r ih =>
    rw [uv_cons, List.length_cons, Int.pow_succ]
    have hc := c.toNat_lt
    have hp : (0 : Int) < 256 ^ r.length := Int.pow_pos (by omega)
    have h1 : 0 ≤ (c.toNat : Int) * 256 ^ r.length := Int.mul_nonneg (by omega) (by omega)
    have h2 : (c.toNat : Int) * 256 ^ r.length ≤ 255 * 256 ^ r.length := Int.mul_le_mul_of_nonneg_right (by omega) (by omega)
    constructor
    · omega
    · rw [Int.mul_comm (256 ^ r.length) 256]
      omega

/-- An integer's content that is longer than it needs be. -/
def longer : List UInt8 → Bool
  | a :: b :: _ => (a.toNat == 0 && decide (b.toNat < 128)) || (a.toNat == 255 && decide (128 ≤ b.toNat))
  | _ => false

theorem isize_iff (n : Int) (j : Nat) (h1 : 1 ≤ j) (h8 : j ≤ 8) (h0 : -9223372036854775808 ≤ n) (h9 : n ≤ 9223372036854775807) : isize n ≤ j ↔ -(128 * 256 ^ (j - 1)) ≤ n ∧ n < 128 * 256 ^ (j - 1) := by
  have hc : j = 1 ∨ j = 2 ∨ j = 3 ∨ j = 4 ∨ j = 5 ∨ j = 6 ∨ j = 7 ∨ j = 8 := by omega
  unfold isize
  rcases hc with rfl | rfl | rfl | rfl | rfl | rfl | rfl | rfl <;> simp only [Nat.reduceSub, Int.reducePow, Int.reduceMul, Int.reduceNeg] <;>
    (repeat' split) <;> omega

theorem sv_range (l : List UInt8) (h : l ≠ []) : -(128 * 256 ^ (l.length - 1)) ≤ sv l ∧ sv l < 128 * 256 ^ (l.length - 1) := by
  cases l with
  | nil => exact absurd rfl h
  | cons a r =>
    rw [sv_cons, List.length_cons, Nat.add_sub_cancel]
    have hu := uv_range r
    have ha := a.toNat_lt
    have hs : -128 ≤ signed a ∧ signed a ≤ 127 := by
      unfold signed
      split <;> omega
    have h1 : (-128) * 256 ^ r.length ≤ signed a * 256 ^ r.length := Int.mul_le_mul_of_nonneg_right hs.1 (by omega)
    have h2 : signed a * 256 ^ r.length ≤ 127 * 256 ^ r.length := Int.mul_le_mul_of_nonneg_right hs.2 (by omega)
    omega

theorem pow_grows (m : Nat) : ∀ d : Nat, (256 : Int) ^ m ≤ 256 ^ (m + d)
  | 0 => Int.le_refl _
  | d + 1 => by
    have h := pow_grows m d
    have hp : (0 : Int) < 256 ^ (m + d) := Int.pow_pos (by omega)
    rw [← Nat.add_assoc, Int.pow_succ]
    omega

theorem sv_i64 (l : List UInt8) (h8 : l.length ≤ 8) : -9223372036854775808 ≤ sv l ∧ sv l ≤ 9223372036854775807 := by
  rcases Nat.eq_zero_or_pos l.length with h0 | h0
  · obtain rfl := List.eq_nil_of_length_eq_zero h0
    simp [sv]
  · have h := sv_range l (by intro e; subst e; simp at h0)
    have hp : (256 : Int) ^ (l.length - 1) ≤ 256 ^ 7 := by
      have := pow_grows (l.length - 1) (7 - (l.length - 1))
      rwa [show l.length - 1 + (7 - (l.length - 1)) = 7 by omega] at this
    simp only [Int.reducePow] at hp
    omega

theorem longer_iff (a b : UInt8) (r : List UInt8) : longer (a :: b :: r) = true ↔ -(128 * 256 ^ r.length) ≤ sv (a :: b :: r) ∧ sv (a :: b :: r) < 128 * 256 ^ r.length := by
  rw [sv_cons, uv_cons, List.length_cons, Int.pow_succ]
  have hu := uv_range r
  have ha := a.toNat_lt
  have hb := b.toNat_lt
  generalize (256 : Int) ^ r.length = p at *
  have hp : 0 < p := by omega
  have hsa : signed a = if a.toNat < 128 then (a.toNat : Int) else (a.toNat : Int) - 256 := rfl
  have e : signed a * (p * 256) + ((b.toNat : Int) * p + uv r) = (signed a * 256 + (b.toNat : Int)) * p + uv r := by
    rw [Int.add_mul, Int.mul_assoc (signed a) 256 p, Int.mul_comm 256 p]
    omega
  rw [e]
  generalize hq : signed a * 256 + (b.toNat : Int) = q
  have key : (-(128 * p) ≤ q * p + uv r ∧ q * p + uv r < 128 * p) ↔ (-128 ≤ q ∧ q < 128) := by
    constructor
    · rintro ⟨h1, h2⟩
      constructor
      · rcases Int.lt_or_le q (-128) with h | h
        · have : q * p ≤ (-129) * p := Int.mul_le_mul_of_nonneg_right (by omega) (by omega)
          omega
        · exact h
      · rcases Int.lt_or_le q 128 with h | h
        · exact h
        · have : 128 * p ≤ q * p := Int.mul_le_mul_of_nonneg_right h (by omega)
          omega
    · rintro ⟨h1, h2⟩
      have h3 : (-128) * p ≤ q * p := Int.mul_le_mul_of_nonneg_right h1 (by omega)
      have h4 : q * p ≤ 127 * p := Int.mul_le_mul_of_nonneg_right (by omega) (by omega)
      omega
  rw [key]
  simp only [longer, Bool.or_eq_true, Bool.and_eq_true, beq_iff_eq, decide_eq_true_eq]
  split at hsa <;> omega

/-- The lowest k bytes of an integer. -/
def bei (k : Nat) (n : Int) : List UInt8 := (List.range k).map fun i => UInt8.ofNat (n / 2 ^ (8 * (k - 1 - i)) % 256).toNat

theorem byte_eq {x y : UInt8} (h : c8 x = c8 y) : x = y := by
  simp only [c8, Value.int.injEq, true_and] at h
  exact UInt8.toNat_inj.1 (by omega)

theorem be_bei (k : Nat) (n : Int) (h8 : k ≤ 8) : be k (IntKind.u64.wrap n).toNat = bei k n := by
  unfold be bei
  apply List.map_congr_left
  intro i hi
  have hik : i < k := List.mem_range.1 hi
  apply byte_eq
  rw [c8_int n (k - 1 - i) (by omega), c8_ofNat, Int.toNat_of_nonneg (by omega)]
  congr 1
  omega

theorem bei_succ (k : Nat) (n : Int) : bei (k + 1) n = bei k (n / 256) ++ [UInt8.ofNat (n % 256).toNat] := by
  unfold bei
  rw [List.range_succ, List.map_append]
  congr 1
  · apply List.map_congr_left
    intro i hi
    have hik : i < k := List.mem_range.1 hi
    congr 3
    rw [show 8 * (k + 1 - 1 - i) = 8 + 8 * (k - 1 - i) by omega, Int.pow_add, ← Int.ediv_ediv_of_nonneg (by decide)]
    rfl
  · simp

theorem bei_length (k : Nat) (n : Int) : (bei k n).length = k := by simp [bei]

theorem bei_sv (l : List UInt8) : ∀ (m : List UInt8), m.reverse = l → m ≠ [] → bei m.length (sv m) = m := by
  induction l with
  | nil => intro m hm h; exact absurd (List.reverse_eq_nil_iff.1 hm) h
  | cons c r ih =>
    intro m hm _
    have e : m = r.reverse ++ [c] := by
      rw [← List.reverse_reverse m, hm]
      simp
    subst e
    have hc := c.toNat_lt
    rw [List.length_append, List.length_singleton, bei_succ]
    by_cases hr : r.reverse = []
    · rw [hr]
      simp only [List.nil_append, List.length_nil]
      have : sv [c] % 256 = (c.toNat : Int) := by
        simp only [sv, List.foldl_nil, signed]
        split <;> omega
      rw [this]
      simp [bei]
    · rw [sv_snoc _ _ hr]
      have h1 : (sv r.reverse * 256 + (c.toNat : Int)) / 256 = sv r.reverse := by omega
      have h2 : (sv r.reverse * 256 + (c.toNat : Int)) % 256 = (c.toNat : Int) := by omega
      rw [h1, h2, ih r.reverse (List.reverse_reverse r) hr]
      simp

theorem sv_bei (k : Nat) : ∀ n : Int, 1 ≤ k → -(128 * 256 ^ (k - 1)) ≤ n → n < 128 * 256 ^ (k - 1) → sv (bei k n) = n := by
  induction k with
  | zero => intro n h; omega
  | succ k ih =>
    intro n _ h1 h2
    rw [bei_succ]
    rcases Nat.eq_zero_or_pos k with h0 | h0
    · subst h0
      simp only [Nat.zero_add, Nat.sub_self, Int.pow_zero, Int.mul_one] at h1 h2
      simp only [bei, List.range_zero, List.map_nil, List.nil_append, sv, List.foldl_nil, signed]
      rw [UInt8.toNat_ofNat', Nat.mod_eq_of_lt (by omega)]
      split <;> omega
    · have hne : bei k (n / 256) ≠ [] := by
        intro e
        have := bei_length k (n / 256)
        rw [e] at this
        simp at this
        omega
      have hp : (256 : Int) ^ (k + 1 - 1) = 256 ^ (k - 1) * 256 := by
        rw [← Int.pow_succ]
        congr 1
        omega
      rw [hp] at h1 h2
      rw [sv_snoc _ _ hne, ih (n / 256) h0 (by omega) (by omega), UInt8.toNat_ofNat', Nat.mod_eq_of_lt (by omega)]
      omega

theorem sv_intOfs (n : Int) (h0 : -9223372036854775808 ≤ n) (h1 : n ≤ 9223372036854775807) : sv (intOfs n) = n := by
  have hi := isize_le n
  unfold intOfs
  rw [be_bei _ _ hi.2]
  have h := (isize_iff n (isize n) hi.1 hi.2 h0 h1).1 (Nat.le_refl _)
  exact sv_bei _ n hi.1 h.1 h.2

theorem intOfs_length (n : Int) : (intOfs n).length = isize n := be_length _ _

/-- Which contents come back. -/
theorem intOfs_sv (l : List UInt8) (h1 : 1 ≤ l.length) (h8 : l.length ≤ 8) : intOfs (sv l) = l ↔ longer l = false := by
  have hne : l ≠ [] := by intro e; subst e; simp at h1
  have hr := sv_i64 l h8
  have hs := sv_range l hne
  have hle : isize (sv l) ≤ l.length := (isize_iff (sv l) l.length h1 h8 hr.1 hr.2).2 hs
  have hi := isize_le (sv l)
  constructor
  · intro h
    have hlen : isize (sv l) = l.length := by rw [← intOfs_length, h]
    match l, h1, h8, hr, hlen, hle with
    | [a], _, _, _, _, _ => rfl
    | a :: b :: r, _, h8, hr, hlen, _ =>
      rw [Bool.eq_false_iff]
      intro hl
      have h2 := (longer_iff a b r).1 hl
      have h3 := (isize_iff (sv (a :: b :: r)) (r.length + 1) (by omega) (by simp at h8; omega) hr.1 hr.2).2 (by simpa using h2)
      simp at hlen
      omega
  · intro h
    have hlen : isize (sv l) = l.length := by
      match l, h1, h8, hr, hle, hi, h with
      | [a], _, _, _, hle, hi, _ => simp at hle ⊢; omega
      | a :: b :: r, _, h8, hr, hle, _, h =>
        rcases Nat.lt_or_ge (isize (sv (a :: b :: r))) (r.length + 2) with h3 | h3
        · have h4 := (isize_iff (sv (a :: b :: r)) (r.length + 1) (by omega) (by simp at h8; omega) hr.1 hr.2).1 (by omega)
          have h5 := (longer_iff a b r).2 (by simpa using h4)
          rw [h5] at h
          cases h
        · simp at hle ⊢
          omega
    unfold intOfs
    rw [hlen, be_bei _ _ h8, bei_sv _ l rfl hne]

/-- What bytes are as an integer: the value, and the error. -/
def toInt (l : List UInt8) : Int × Int := if 1 ≤ l.length ∧ l.length ≤ 8 ∧ longer l = false then (sv l, 0) else (0, 2)

theorem toInt_intOfs (n : Int) (h0 : -9223372036854775808 ≤ n) (h1 : n ≤ 9223372036854775807) : toInt (intOfs n) = (n, 0) := by
  have hi := isize_le n
  have hl := intOfs_length n
  have hs := sv_intOfs n h0 h1
  unfold toInt
  rw [if_pos ⟨by omega, by omega, (intOfs_sv (intOfs n) (by omega) (by omega)).1 (by rw [hs])⟩, hs]

end Go.Proofs.Ytjannmoijoakcaa.Ber
