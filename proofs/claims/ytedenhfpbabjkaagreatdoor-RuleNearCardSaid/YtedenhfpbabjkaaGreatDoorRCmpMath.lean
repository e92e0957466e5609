/-
  How two texts stand, and two values. By an AI agent.
-/
import Derived.Test.YtedenhfpbabjkaaGreatDoorRSame
import Derived.Test.YtedenhfpbabjkaaGreatDoorMB
import Derived.Lib.Bytealg
namespace Go.Proofs.YtedenhfpbabjkaaGreatDoor
open Go.RowKit
set_option linter.unusedVariables false

theorem u8_lt {a b : UInt8} : a < b ↔ a.toNat < b.toNat := Iff.rfl

theorem bytes_cmp : ∀ (x y : List UInt8), Lib.compareBytes x y = if Op.bytesLess x y then -1 else if Op.bytesLess y x then 1 else 0
  | [], [] => by simp [Lib.compareBytes, Op.bytesLess]
  | [], _ :: _ => by simp [Lib.compareBytes, Op.bytesLess]
  | _ :: _, [] => by simp [Lib.compareBytes, Op.bytesLess]
  | a :: x, b :: y => by
    have ih := bytes_cmp x y
    unfold Lib.compareBytes Op.bytesLess
    by_cases h1 : a < b
    · simp [h1]
    · by_cases h2 : b < a
      · have : a ≠ b := by rintro rfl; exact h1 h2
        simp [h1, h2, this]
      · obtain rfl : a = b := u8_ext (by rw [u8_lt] at h1 h2; omega)
        simp [h1, ih]

theorem cb_swap : ∀ (x y : List UInt8), Lib.compareBytes y x = -Lib.compareBytes x y
  | [], [] => by simp [Lib.compareBytes]
  | [], _ :: _ => by simp [Lib.compareBytes]
  | _ :: _, [] => by simp [Lib.compareBytes]
  | a :: x, b :: y => by
    have ih := cb_swap x y
    unfold Lib.compareBytes
    by_cases h1 : a < b
    · have h2 : ¬ b < a := by rw [u8_lt] at h1 ⊢; omega
      simp [h1, h2]
    · by_cases h2 : b < a
      · simp [h1, h2]
      · simp [h1, h2, ih]

theorem cb_zero : ∀ (x y : List UInt8), Lib.compareBytes x y = 0 ↔ x = y
  | [], [] => by simp [Lib.compareBytes]
  | [], _ :: _ => by simp [Lib.compareBytes]
  | _ :: _, [] => by simp [Lib.compareBytes]
  | a :: x, b :: y => by
    have ih := cb_zero x y
    unfold Lib.compareBytes
    by_cases h1 : a < b
    · have : a ≠ b := by rintro rfl; rw [u8_lt] at h1; omega
      simp [h1, this]
    · by_cases h2 : b < a
      · have : a ≠ b := by rintro rfl; rw [u8_lt] at h2; omega
        simp [h1, h2, this]
      · obtain rfl : a = b := u8_ext (by rw [u8_lt] at h1 h2; omega)
        simp [h1, ih]

theorem bytes_cmp2 (x y : List UInt8) : Lib.compareBytes x y = if Op.bytesLess x y then -1 else if x == y then 0 else 1 := by
  have h := bytes_cmp x y
  have h0 := cb_zero x y
  by_cases h1 : Op.bytesLess x y = true
  · rw [h, if_pos h1, if_pos h1]
  · rw [if_neg h1] at h ⊢
    by_cases h2 : x = y
    · rw [if_pos (by simp [h2])]; exact h0.2 h2
    · rw [if_neg (by simp [h2])]
      split at h
      · exact h
      · exact absurd (h0.1 h) h2

/-- How two numbers of the plane stand. -/
def cmpQ (a b c d : Int) : Int := cmp3 (a * a + b * b) a b (c * c + d * d) c d
theorem cmpQ_swap (a b c d : Int) : cmpQ c d a b = -cmpQ a b c d := cmp3_swap _ _ _ _ _ _
theorem cmpQ_zero (a b c d : Int) : cmpQ a b c d = 0 ↔ a = c ∧ b = d := by
  constructor
  · intro h
    have h1 := (cmp3_le (a * a + b * b) a b (c * c + d * d) c d).1 (by unfold cmpQ at h; omega)
    have h2 := (cmp3_le (c * c + d * d) c d (a * a + b * b) a b).1 (by have := cmpQ_swap a b c d; unfold cmpQ at h this; omega)
    generalize a * a + b * b = n at *
    generalize c * c + d * d = m at *
    omega
  · rintro ⟨rfl, rfl⟩
    unfold cmpQ cmp3
    simp [cmpI_zero.2]

/-- How two values stand. -/
inductive CmpIs (n a b : List UInt8) : List UInt8 → List UInt8 → Int → Int → Prop where
  | err {f : Int} (h : BothIs n a b [] [] f) (hf : f ≠ 0) : CmpIs n a b [] [] 0 f
  | int {x y : List UInt8} {p q : Int} (ht : (typ n).2 = 3) (h : BothIs n a b x y 0) (hp : IsInt x p) (hq : IsInt y q) : CmpIs n a b x y (cmpI p q) 0
  | plane {x y : List UInt8} {p q r s : Int} (ht : (typ n).2 = 4) (h : BothIs n a b x y 0) (hp : Small p) (hq : Small q) (hr : Small r) (hs : Small s) (hx : x = text p q) (hy : y = text r s) : CmpIs n a b x y (cmpQ p q r s) 0
  | text {x y : List UInt8} (ht : (typ n).2 = 1 ∨ (typ n).2 = 2) (h : BothIs n a b x y 0) : CmpIs n a b x y (Lib.compareBytes x y) 0

theorem cmp_or (n a b : List UInt8) : ∃ x y c f, CmpIs n a b x y c f := by
  obtain ⟨x, y, f, h⟩ := both_or n a b
  rcases both_cases h with ⟨hf, rfl, rfl, _⟩ | ⟨rfl, h0, h1, hx, hy⟩
  · exact ⟨_, _, _, _, .err h hf⟩
  · obtain ⟨hr, h3, h4⟩ := norm_is h0
    obtain ⟨_, k3, k4⟩ := norm_is h1
    have : ((typ n).2 = 1 ∨ (typ n).2 = 2) ∨ (typ n).2 = 3 ∨ (typ n).2 = 4 := by omega
    rcases this with e | e | e
    · exact ⟨_, _, _, _, .text e h⟩
    · obtain ⟨p, hp⟩ := h3 e
      obtain ⟨q, hq⟩ := k3 e
      rw [← hx] at hp
      rw [← hy] at hq
      exact ⟨_, _, _, _, .int e h hp hq⟩
    · obtain ⟨p, q, hp, hq, ex⟩ := h4 e
      obtain ⟨r, s, hr', hs, ey⟩ := k4 e
      rw [← hx] at ex
      rw [← hy] at ey
      exact ⟨_, _, _, _, .plane e h hp hq hr' hs ex ey⟩

end Go.Proofs.YtedenhfpbabjkaaGreatDoor
