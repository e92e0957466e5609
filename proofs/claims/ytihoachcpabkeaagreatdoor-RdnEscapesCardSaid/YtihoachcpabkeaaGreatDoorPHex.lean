/-
  strconv.ParseUint at two bytes, base 16, eight bits: what two hexadecimal digits stand for. By an AI agent.
-/
import Derived.Test.YtihoachcpabkeaaGreatDoorPSpec
import Derived.Test.YtihoachcpabkeaaGreatDoorMC
namespace Go.Proofs.YtihoachcpabkeaaGreatDoor
open Go.RowKit
set_option linter.unusedVariables false

/-- How the library looks at a digit: a figure, a letter that is one, a letter that is none, no letter. -/
inductive HexIs (c : UInt8) (L : Int) : Prop where
  | fig (h0 : 48 ≤ c.toNat) (h1 : c.toNat ≤ 57) (e : hexV c = some (c.toNat - 48))
  | ltr (h : c.toNat < 48 ∨ 57 < c.toNat) (h0 : 97 ≤ L) (h1 : L ≤ 122) (h2 : L < 103) (e : hexV c = some (L - 87).toNat)
  | far (h : c.toNat < 48 ∨ 57 < c.toNat) (h0 : 97 ≤ L) (h1 : L ≤ 122) (h2 : 103 ≤ L) (e : hexV c = none)
  | low (h : c.toNat < 48 ∨ 57 < c.toNat) (h0 : L < 97) (e : hexV c = none)
  | high (h : c.toNat < 48 ∨ 57 < c.toNat) (h0 : 97 ≤ L) (h1 : 122 < L) (e : hexV c = none)

theorem hex_fin : ∀ j : Fin 256, hexV (UInt8.ofNat j.val) =
    (if 48 ≤ j.val ∧ j.val ≤ 57 then some (j.val - 48) else if 97 ≤ bits BinOp.or IntKind.u8 ((j.val : Nat) : Int) 32 ∧ bits BinOp.or IntKind.u8 ((j.val : Nat) : Int) 32 < 103 then some (bits BinOp.or IntKind.u8 ((j.val : Nat) : Int) 32 - 87).toNat else none) := by decide +kernel

theorem hex_is (c : UInt8) : HexIs c (bits BinOp.or IntKind.u8 (c.toNat : Int) 32) := by
  have h := hex_fin ⟨c.toNat, c.toNat_lt⟩
  simp only at h
  rw [show UInt8.ofNat c.toNat = c by simp] at h
  generalize bits BinOp.or IntKind.u8 (c.toNat : Int) 32 = L at *
  by_cases h1 : 48 ≤ c.toNat ∧ c.toNat ≤ 57
  · rw [if_pos h1] at h
    exact .fig h1.1 h1.2 h
  · rw [if_neg h1] at h
    have hn : c.toNat < 48 ∨ 57 < c.toNat := by omega
    by_cases h2 : 97 ≤ L ∧ L < 103
    · rw [if_pos h2] at h
      exact .ltr hn h2.1 (by omega) h2.2 h
    · rw [if_neg h2] at h
      by_cases h3 : L < 97
      · exact .low hn h3 h
      · by_cases h4 : L ≤ 122
        · exact .far hn (by omega) h4 (by omega) h
        · exact .high hn (by omega) (by omega) h

set_option maxHeartbeats 4000000 in
theorem lowerc_any (c : Int) (w : World) : Calls Tryz.prog 142 #[.int .u8 c] w fun e w' => e = .returned (.int .u8 (bits BinOp.or IntKind.u8 c 32)) ∧ w' = w := by
  go_enter Tryz.func142, Tryz.ntmps142
  go_wp2
  go_ret
  exact ⟨rfl, rfl⟩

/-- What has been gathered when i digits have been read. -/
structure HexAt (d e : UInt8) (i n : Nat) : Prop where
  zero : i = 0 → n = 0
  one : i = 1 → hexV d = some n
  two : i = 2 → ∃ a b, hexV d = some a ∧ hexV e = some b ∧ n = 16 * a + b
  small : n < 256
  less : i ≤ 1 → n < 16

/-- What the library answers of two digits. -/
def hex2 (d e : UInt8) : Option Nat := (hexV d).bind fun a => (hexV e).map fun b => 16 * a + b
theorem HexAt.first {d e : UInt8} {k : Nat} (h : hexV d = some k) : HexAt d e 1 k := ⟨by omega, fun _ => h, by omega, by have := hexV_lt h; omega, fun _ => hexV_lt h⟩
theorem HexAt.second {d e : UInt8} {n k : Nat} (h : HexAt d e 1 n) (hk : hexV e = some k) : HexAt d e 2 (16 * n + k) :=
  ⟨by omega, by omega, fun _ => ⟨n, k, h.one rfl, hk, rfl⟩, by have := hexV_lt hk; have := h.less (Nat.le_refl 1); omega, by omega⟩

end Go.Proofs.YtihoachcpabkeaaGreatDoor
