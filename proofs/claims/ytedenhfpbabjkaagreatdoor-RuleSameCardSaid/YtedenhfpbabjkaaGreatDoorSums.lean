/-
  Sums and products of numbers of the plane: in words, and as both texts reckon them. By an AI agent.
-/
import Derived.Test.YtedenhfpbabjkaaGreatDoorOf
import Derived.Laws.ComplexArith
namespace Go.Proofs.YtedenhfpbabjkaaGreatDoor
open Go.RowKit Flt
set_option linter.unusedVariables false

/-- A word that stands for n with the sign s; for n as it is printed. -/
structure Sn (x : Nat) (s : Bool) (n : Int) : Prop where
  lt : x < 2 ^ 64
  num : IsN (Ieee.double.read x) s n
structure Fw (x : Nat) (n : Int) : Prop where
  lt : x < 2 ^ 64
  num : IsN (Ieee.double.read x) (decide (n < 0)) n

theorem Fw.sn {x : Nat} {n : Int} (h : Fw x n) : Sn x (decide (n < 0)) n := ⟨h.lt, h.num⟩
theorem part_fw {x : Nat} {n : Int} (h : Part x n) : Fw x n := ⟨h.1, h.2.1⟩
theorem Fw.part {x : Nat} {n : Int} (h : Fw x n) (h0 : -1000000 ≤ n) (h1 : n ≤ 1000000) : Part x n := ⟨h.lt, h.num, h0, h1⟩
theorem fw_fl (n : Int) (h : n.natAbs < 2 ^ 53) : Fw (fl n) n := ⟨fl_lt n, nearest_num n h⟩

theorem sn_write {d : Ieee.Datum} {s : Bool} {n : Int} (hd : IsN d s n) (hn : n.natAbs < 2 ^ 53) : Sn (Ieee.double.write d) s n := ⟨Ieee.Format.write_lt Ieee.double d, write_num hd hn⟩

theorem f_add {x y : Nat} {s t : Bool} {n m : Int} (hx : Sn x s n) (hy : Sn y t m) (hb : (n + m).natAbs < 2 ^ 53) :
    ∃ r, floatBits .add .f64 x y = some r ∧ Sn r (if n + m = 0 then s && t else decide (n + m < 0)) (n + m) := by
  obtain ⟨d, e, hd⟩ := sum_num hx.num hy.num
  refine ⟨Ieee.double.write d, ?_, sn_write hd hb⟩
  show ((Ieee.double.read x).sum (Ieee.double.read y)).map Ieee.double.write = _
  rw [e]; rfl

theorem f_sub {x y : Nat} {s t : Bool} {n m : Int} (hx : Sn x s n) (hy : Sn y t m) (hb : (n - m).natAbs < 2 ^ 53) :
    ∃ r, floatBits .sub .f64 x y = some r ∧ ∃ u, Sn r u (n - m) := by
  obtain ⟨d, e, hd⟩ := sum_num hx.num (opp_num hy.num)
  rw [← Int.sub_eq_add_neg] at hd
  refine ⟨Ieee.double.write d, ?_, _, sn_write hd hb⟩
  show ((Ieee.double.read x).sum (Ieee.double.read y).opposite).map Ieee.double.write = _
  rw [e]; rfl

theorem f_mul {x y : Nat} {s t : Bool} {n m : Int} (hx : Sn x s n) (hy : Sn y t m) (hb : (n * m).natAbs < 2 ^ 53) :
    ∃ r, floatBits .mul .f64 x y = some r ∧ Sn r (s ^^ t) (n * m) := by
  obtain ⟨d, e, hd⟩ := product_num hx.num hy.num
  refine ⟨Ieee.double.write d, ?_, sn_write hd hb⟩
  show ((Ieee.double.read x).product (Ieee.double.read y)).map Ieee.double.write = _
  rw [e]; rfl

/-- A sum of words without signed noughts. -/
theorem fw_add {x y : Nat} {n m : Int} (hx : Fw x n) (hy : Fw y m) (hb : (n + m).natAbs < 2 ^ 53) : ∃ r, floatBits .add .f64 x y = some r ∧ Fw r (n + m) := by
  obtain ⟨r, h, hr⟩ := f_add hx.sn hy.sn hb
  refine ⟨r, h, hr.lt, ?_⟩
  have e : (if n + m = 0 then decide (n < 0) && decide (m < 0) else decide (n + m < 0)) = decide (n + m < 0) := by
    split
    · rename_i h0
      rw [h0]
      by_cases h1 : n < 0
      · have : ¬ m < 0 := by omega
        simp [h1, this]
      · simp [h1]
    · rfl
  rw [← e]; exact hr.num

/-- The nought taken off its sign. -/
theorem fw_plus0 {x : Nat} {s : Bool} {n : Int} (hx : Sn x s n) (hb : n.natAbs < 2 ^ 53) : ∃ r, floatBits .add .f64 x 0 = some r ∧ Fw r n := by
  have h0 : Sn 0 false 0 := ⟨by decide, num_0⟩
  obtain ⟨r, h, hr⟩ := f_add hx h0 (by simpa using hb)
  refine ⟨r, h, hr.lt, ?_⟩
  have hn := hr.num
  simp only [Int.add_zero, Bool.and_false] at hn
  have e : (if n = 0 then false else decide (n < 0)) = decide (n < 0) := by
    split
    · rename_i h0; rw [h0]; rfl
    · rfl
  rw [e] at hn; exact hn

theorem fw_unique {x : Nat} {n m : Int} (h : Fw x n) (k : Fw x m) : n = m := Option.some.inj ((toInt_num h.num).symm.trans (toInt_num k.num))

theorem fw_out {x : Nat} {n : Int} (h : Fw x n) (hn : ¬ (-1000000 ≤ n ∧ n ≤ 1000000)) : x = 2 ^ 63 ∨ Bad x := by
  rcases part_or x h.lt with ⟨m, hm⟩ | h'
  · have := fw_unique h (part_fw hm)
    subst this
    exact absurd ⟨hm.2.2.1, hm.2.2.2⟩ hn
  · exact h'

theorem abs_small {a : Int} (h0 : -1000000 ≤ a) (h1 : a ≤ 1000000) : a.natAbs ≤ 1000000 := by omega
theorem mul_abs {a b : Int} (ha : a.natAbs ≤ 1000000) (hb : b.natAbs ≤ 1000000) : (a * b).natAbs ≤ 1000000000000 := by
  rw [Int.natAbs_mul]; exact Nat.mul_le_mul ha hb

/-- The sum of two numbers, in words. -/
theorem c_add {x y u v : Nat} {a b c d : Int} (h : Num x y a b) (k : Num u v c d) : ∃ r i, cSumBits .add .f64 x y u v = some (r, i) ∧ Fw r (a + c) ∧ Fw i (b + d) := by
  obtain ⟨⟨_, _, a0, a1⟩, ⟨_, _, b0, b1⟩⟩ := id h
  obtain ⟨⟨_, _, c0, c1⟩, ⟨_, _, d0, d1⟩⟩ := id k
  obtain ⟨r, hr, fr⟩ := fw_add (part_fw h.1) (part_fw k.1) (by omega)
  obtain ⟨i, hi, fi⟩ := fw_add (part_fw h.2) (part_fw k.2) (by omega)
  exact ⟨r, i, by unfold cSumBits; rw [hr, hi]; rfl, fr, fi⟩

/-- The product of two numbers, and 0, in words. -/
theorem c_mul {x y u v : Nat} {a b c d : Int} (h : Num x y a b) (k : Num u v c d) :
    ∃ r i r' i', cMulBits x y u v = some (r, i) ∧ cSumBits .add .f64 r i 0 0 = some (r', i') ∧ Fw r' (a * c - b * d) ∧ Fw i' (a * d + b * c) := by
  obtain ⟨⟨_, _, a0, a1⟩, ⟨_, _, b0, b1⟩⟩ := id h
  obtain ⟨⟨_, _, c0, c1⟩, ⟨_, _, d0, d1⟩⟩ := id k
  have ha := abs_small a0 a1
  have hb := abs_small b0 b1
  have hc := abs_small c0 c1
  have hd := abs_small d0 d1
  have e1 := mul_abs ha hc
  have e2 := mul_abs hb hd
  have e3 := mul_abs ha hd
  have e4 := mul_abs hb hc
  obtain ⟨ac, h1, f1⟩ := f_mul (part_fw h.1).sn (part_fw k.1).sn (by omega)
  obtain ⟨bd, h2, f2⟩ := f_mul (part_fw h.2).sn (part_fw k.2).sn (by omega)
  obtain ⟨r, h3, s3, f3⟩ := f_sub f1 f2 (by omega)
  obtain ⟨ad, h4, f4⟩ := f_mul (part_fw h.1).sn (part_fw k.2).sn (by omega)
  obtain ⟨bc, h5, f5⟩ := f_mul (part_fw h.2).sn (part_fw k.1).sn (by omega)
  obtain ⟨i, h6, f6⟩ := f_add f4 f5 (by omega)
  obtain ⟨r', h7, f7⟩ := fw_plus0 f3 (by omega)
  obtain ⟨i', h8, f8⟩ := fw_plus0 f6 (by omega)
  refine ⟨r, i, r', i', ?_, ?_, f7, f8⟩
  · unfold cMulBits
    rw [h1, h2]; simp only [Option.bind_some]
    rw [h3, h4, h5]; simp only [Option.bind_some]
    rw [h6]; rfl
  · unfold cSumBits
    rw [h7, h8]; rfl

/-- Within the bounds. -/
def InB (n m : Int) : Prop := (-1000000 ≤ n ∧ n ≤ 1000000) ∧ (-1000000 ≤ m ∧ m ≤ 1000000)

theorem fw_nonum {x y : Nat} {n m : Int} (h : Fw x n) (k : Fw y m) (hn : ¬ InB n m) : NoNum x y := by
  by_cases h1 : -1000000 ≤ n ∧ n ≤ 1000000
  · exact Or.inr (fw_out k (fun h2 => hn ⟨h1, h2⟩))
  · exact Or.inl (fw_out h h1)

theorem fw_num {x y : Nat} {n m : Int} (h : Fw x n) (k : Fw y m) (hn : InB n m) : Num x y n m := ⟨h.part hn.1.1 hn.1.2, k.part hn.2.1 hn.2.2⟩

end Go.Proofs.YtedenhfpbabjkaaGreatDoor
