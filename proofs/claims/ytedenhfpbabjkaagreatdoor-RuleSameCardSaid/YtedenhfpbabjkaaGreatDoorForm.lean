/-
  THE TESTS OF PARTS: math's Signbit, Trunc and Abs; formedPart, Formed. By an AI agent.
-/
import Derived.Test.YtedenhfpbabjkaaGreatDoorWords
import Derived.Test.YtedenhfpbabjkaaGreatDoorPart2
import Derived.Test.YtedenhfpbabjkaaGreatDoorSeat
import Derived.Test.YtedenhfpbabjkaaGreatDoorGrow
import Derived.Laws.Externs
import Derived.WalkLawsBesides
namespace Go.Proofs.YtedenhfpbabjkaaGreatDoor
open Go.RowKit Flt

theorem run_float64bits (b : Nat) (w : World) : (callFunc 120 #[.float .f64 b]).run Tryz.prog w = .ok (.value (.int .u64 b)) w := by
  rw [run_callFunc_extern Tryz.func120 (by kernel_rfl) (by kernel_rfl) (by kernel_rfl) (e := Extern.MathFloatBits.float64bits) (by kernel_rfl)]
  rfl

theorem run_frombits (n : Nat) (w : World) : (callFunc 123 #[.int .u64 (n : Int)]).run Tryz.prog w = .ok (.value (.float .f64 n)) w := by
  rw [run_callFunc_extern Tryz.func123 (by kernel_rfl) (by kernel_rfl) (by kernel_rfl) (e := Extern.MathFloatBits.float64frombits) (by kernel_rfl)]
  rfl

theorem sign_wrap (x : Nat) (hx : x < 2 ^ 64) : decide (wrap64 (x : Int) < 0) = decide (2 ^ 63 ≤ x) := by
  simp only [decide_eq_decide]
  unfold wrap64
  omega

theorem and_abs (x : Nat) (hx : x < 2 ^ 64) : bits .andNot .u64 (x : Int) 9223372036854775808 = ((x % 2 ^ 63 : Nat) : Int) := by
  have h : ∀ z : Int, 0 ≤ z → z < 18446744073709551616 → bits .andNot .u64 z 9223372036854775808 = z % 9223372036854775808 := by
    intro z h0 h1
    go_bits2
  rw [h _ (by omega) (by omega)]
  omega

theorem trunc_at (x : Nat) : Extern.MathFloor.toIntegral "math.archTrunc" .zero #[.float .f64 x] = (match FloatKind.f64.decode x with
    | .nan s t => if FloatKind.f64.format.quiet t = t then pure (.float .f64 x) else choose (.extern "math.Floor,Ceil,Trunc,RoundToEven.signallingNaN kept" 2) >>= fun kept => pure (.float .f64 (if kept == 1 then x else FloatKind.f64.encode (.nan s (FloatKind.f64.format.quiet t))))
    | d => pure (.float .f64 (FloatKind.f64.encode (d.integral .zero)))) := rfl

theorem run_trunc (x : Nat) (w : World) : ∃ y w', (callFunc 121 #[.float .f64 x]).run Tryz.prog w = .ok (.value (.float .f64 y)) w' ∧ Tr x y ∧ Below w.heap.size w w' := by
  have e0 : (callFunc 121 #[.float .f64 x]).run Tryz.prog w = ((Extern.MathFloor.toIntegral "math.archTrunc" .zero #[.float .f64 x]).run Tryz.prog w).andThen fun v w' => .ok (.value v) w' := by
    rw [run_callFunc_extern Tryz.func121 (by kernel_rfl) (by kernel_rfl) (by kernel_rfl) (e := Extern.MathFloor.toIntegral "math.archTrunc" .zero) (by kernel_rfl)]
  rw [e0]
  rw [trunc_at]
  cases h : FloatKind.f64.decode x with
  | nan s t =>
    have hn : ∃ s t, Ieee.double.read x = .nan s t := ⟨s, t, h⟩
    by_cases hq : FloatKind.f64.format.quiet t = t
    · simp only [hq, if_true, Sem.run_pure, Result.andThen]
      exact ⟨x, w, rfl, Or.inl hn, Below.refl _ _⟩
    · simp only [hq, if_false, Sem.run_bind, run_choose_drew]
      split
      · exact ⟨_, _, rfl, Or.inl hn, Below.refl _ _⟩
      · exact ⟨_, _, rfl, Or.inl hn, (Below.refl _ _).drew⟩
  | infinity s => exact ⟨_, _, rfl, Or.inr (by rw [show Ieee.double.read x = _ from h]; rfl), Below.refl _ _⟩
  | number s m e => exact ⟨_, _, rfl, Or.inr (by rw [show Ieee.double.read x = _ from h]; rfl), Below.refl _ _⟩

set_option maxRecDepth 100000 in
set_option maxHeartbeats 4000000 in
theorem signbit_any (x : Nat) (hx : x < 2 ^ 64) (w : World) :
    Calls Tryz.prog 96 #[.float .f64 x] w fun e w' => e = .returned (.bool (decide (2 ^ 63 ≤ x))) ∧ w' = w := by
  go_enter Tryz.func96, Tryz.ntmps96
  go_wp2
  rw [run_float64bits]
  rw [Oper.upon_value]
  go_wp2
  go_ret
  exact ⟨by rw [sign_wrap x hx]; rfl, rfl⟩


set_option maxRecDepth 100000 in
set_option maxHeartbeats 4000000 in
theorem abs_any (x : Nat) (hx : x < 2 ^ 64) (w : World) :
    Calls Tryz.prog 98 #[.float .f64 x] w fun e w' => e = .returned (.float .f64 (x % 2 ^ 63)) ∧ w' = w := by
  go_enter Tryz.func98, Tryz.ntmps98
  go_wp2
  rw [run_float64bits]
  rw [Oper.upon_value]
  go_wp2
  rw [and_abs x hx, run_frombits, Oper.upon_value]
  go_wp2
  go_ret
  exact ⟨rfl, rfl⟩

set_option maxRecDepth 100000 in
set_option maxHeartbeats 4000000 in
theorem trunc_any (x : Nat) (w : World) :
    Calls Tryz.prog 97 #[.float .f64 x] w fun e w' => ∃ y, e = .returned (.float .f64 y) ∧ Tr x y ∧ Below w.heap.size w w' := by
  go_enter Tryz.func97, Tryz.ntmps97
  go_wp2
  obtain ⟨y, w', hr, hy, hb⟩ := run_trunc x w
  rw [hr, Oper.upon_value]
  go_wp2
  go_ret
  exact ⟨y, rfl, hy, hb⟩


set_option maxRecDepth 100000 in
set_option maxHeartbeats 4000000 in
theorem part_yes (x : Nat) (n : Int) (h : Part x n) (w : World) :
    Calls Tryz.prog 66 #[.float .f64 x] w fun e w' => e = .returned (.bool true) ∧ Below w.heap.size w w' := by
  go_enter Tryz.func66, Tryz.ntmps66
  go_wp2_with (first
    | (go_at_call 96; refine (signbit_any x h.1 _).mono ?_; rintro e w' ⟨rfl, rfl⟩)
    | (go_at_call 98; refine (abs_any x h.1 _).mono ?_; rintro e w' ⟨rfl, rfl⟩)
    | (go_at_call 97; refine (trunc_any x _).mono ?_; rintro e w' ⟨y, rfl, hy, hb⟩))
  · have hz : (FloatKind.f64.format.order x 0 == some .eq) = true := by assumption
    go_ret
    have hs := sign_of h.1 h.2.1
    refine ⟨?_, Below.refl _ _⟩
    have hn : n = 0 := by
      have h1 : Ieee.double.order x 0 = some (compare n 0) := order_num h.2.1 num_0
      have h2 : FloatKind.f64.format.order x 0 = some .eq := by simpa using hz
      exact Int.compare_eq_eq.1 (Option.some.inj (h1.symm.trans h2))
    subst hn
    have : decide (9223372036854775808 ≤ x) = false := hs.symm
    show Ending.returned (Value.bool !decide (9223372036854775808 ≤ x)) = _
    rw [this]; rfl
  · go_ret
    refine ⟨?_, by assumption⟩
    have ha := abs_num h.1 h.2.1
    have h1 : FloatKind.f64.format.order (x % 9223372036854775808) 4696837146684686336 = some (compare (n.natAbs : Int) 1000000) := order_num ha num_M
    show Ending.returned (Value.bool (_ || _)) = _
    rw [h1]
    obtain ⟨_, _, h2, h3⟩ := h
    rcases Int.lt_trichotomy (n.natAbs : Int) 1000000 with h4 | h4 | h4
    · rw [Int.compare_eq_lt.2 h4]; rfl
    · rw [Int.compare_eq_eq.2 h4]; rfl
    · omega
  · rename_i hne
    exfalso
    apply hne
    have hb' : n.natAbs < 2 ^ 53 := by obtain ⟨_, _, h2, h3⟩ := h; omega
    rcases hy with ⟨s, t, e⟩ | rfl
    · obtain ⟨k, e', _⟩ := h.2.1; rw [e] at e'; cases e'
    · have h1 : Ieee.double.order x _ = some (compare n n) := order_num h.2.1 (write_num (integral_num h.2.1) hb')
      rw [Int.compare_eq_eq.2 rfl] at h1
      exact h1


/-- The nought with a sign. -/
theorem neg0 : FloatKind.f64.format.order 9223372036854775808 0 = some .eq := by decide +kernel

set_option maxRecDepth 100000 in
set_option maxHeartbeats 4000000 in
theorem part_no (x : Nat) (hx : x < 2 ^ 64) (h : x = 2 ^ 63 ∨ Bad x) (w : World) :
    Calls Tryz.prog 66 #[.float .f64 x] w fun e w' => e = .returned (.bool false) ∧ Below w.heap.size w w' := by
  go_enter Tryz.func66, Tryz.ntmps66
  go_wp2_with (first
    | (go_at_call 96; refine (signbit_any x hx _).mono ?_; rintro e w' ⟨rfl, rfl⟩)
    | (go_at_call 98; refine (abs_any x hx _).mono ?_; rintro e w' ⟨rfl, rfl⟩)
    | (go_at_call 97; refine (trunc_any x _).mono ?_; rintro e w' ⟨y, rfl, hy, hb⟩))
  · have hz : (FloatKind.f64.format.order x 0 == some .eq) = true := by assumption
    go_ret
    refine ⟨?_, Below.refl _ _⟩
    rcases h with rfl | h
    · rfl
    · exact absurd (show Ieee.double.order x 0 = some .eq from by simpa using (show (Ieee.double.order x 0 == some .eq) = true from hz)) h.nz
  · have hz : (FloatKind.f64.format.order x 0 == some .eq) = false := by assumption
    have ho : FloatKind.f64.format.order x y = some .eq := by assumption
    go_ret
    refine ⟨?_, by assumption⟩
    rcases h with rfl | h
    · rw [neg0] at hz; cases hz
    · have h1 := h.tr y hy ho
      show Ending.returned (Value.bool (_ || _)) = _
      have e1 : (FloatKind.f64.format.order (x % 9223372036854775808) 4696837146684686336 == some Ordering.lt) = false := beq_false_of_ne h1.1
      have e2 : (FloatKind.f64.format.order (x % 9223372036854775808) 4696837146684686336 == some Ordering.eq) = false := beq_false_of_ne h1.2
      rw [e1, e2]; rfl
  · go_ret
    exact ⟨rfl, by assumption⟩

/-- The number of z. -/
def Num (x y : Nat) (a b : Int) : Prop := Part x a ∧ Part y b
def NoNum (x y : Nat) : Prop := (x = 2 ^ 63 ∨ Bad x) ∨ (y = 2 ^ 63 ∨ Bad y)
theorem num_or (x y : Nat) (hx : x < 2 ^ 64) (hy : y < 2 ^ 64) : (∃ a b, Num x y a b) ∨ NoNum x y := by
  rcases part_or x hx with ⟨a, ha⟩ | h
  · rcases part_or y hy with ⟨b, hb⟩ | h
    · exact Or.inl ⟨a, b, ha, hb⟩
    · exact Or.inr (Or.inr h)
  · exact Or.inr (Or.inl h)

theorem no_num {x y : Nat} (h : NoNum x y) : ¬ ((∃ a, Part x a) ∧ ∃ b, Part y b) := by
  rintro ⟨⟨a, ha⟩, b, hb⟩
  rcases h with h | h
  · exact part_not ha h
  · exact part_not hb h

/-- A word of 64 bits. -/
structure Word (x : Nat) : Prop where
  lt : x < 2 ^ 64

theorem part_any (x : Nat) (hx : Word x) (w : World) :
    Calls Tryz.prog 66 #[.float .f64 x] w fun e w' => ∃ b, e = .returned (.bool b) ∧ (b = true ↔ ∃ n, Part x n) ∧ Below w.heap.size w w' := by
  rcases part_or x hx.lt with ⟨n, h⟩ | h
  · refine (part_yes x n h w).mono ?_
    rintro e w' ⟨rfl, hb⟩
    exact ⟨true, rfl, ⟨fun _ => ⟨n, h⟩, fun _ => rfl⟩, hb⟩
  · refine (part_no x hx.lt h w).mono ?_
    rintro e w' ⟨rfl, hb⟩
    exact ⟨false, rfl, ⟨fun h => (by cases h), fun ⟨n, hn⟩ => (part_not hn h).elim⟩, hb⟩

structure FormPost (x y : Nat) (w : World) (e : Ending) (w' : World) : Prop where
  out : ∃ b, e = .returned (.bool b) ∧ (b = true ↔ (∃ a, Part x a) ∧ ∃ b, Part y b) ∧ Below w.heap.size w w'

def FormIs (x y : Nat) (b : Bool) : Prop := b = true ↔ (∃ a, Part x a) ∧ ∃ b, Part y b

theorem form_and {x y : Nat} {a b : Bool} (h : a = true ↔ ∃ n, Part x n) (k : b = true ↔ ∃ n, Part y n) : FormIs x y (a && b) := by
  unfold FormIs
  rw [Bool.and_eq_true, h, k]

set_option maxRecDepth 100000 in
set_option maxHeartbeats 4000000 in
theorem formed_any (x y : Nat) (hx : Word x) (hy : Word y) (w : World) :
    Calls Tryz.prog 41 #[.complex .f64 x y] w (FormPost x y w) := by
  go_enter Tryz.func41, Tryz.ntmps41
  go_wp2_with (go_at_call 66; refine (part_any _ ?_ _).mono ?_; assumption; rintro e w' ⟨v, rfl, hv, hb⟩)
  · rename_i w1 v1 hv1 hb1
    go_ret
    exact ⟨v1 && v, rfl, form_and hv1 hv, hb1.trans (hb.mono hb1.size)⟩
  · exfalso; simp_all
  · go_ret
    have : v = false := by simp_all
    subst this
    exact ⟨false, rfl, ⟨fun h => (by cases h), fun h => hv.2 h.1⟩, hb⟩

theorem formed_yes (x y : Nat) (a b : Int) (h : Num x y a b) (w : World) :
    Calls Tryz.prog 41 #[.complex .f64 x y] w fun e w' => e = .returned (.bool true) ∧ Below w.heap.size w w' := by
  refine (formed_any x y ⟨h.1.1⟩ ⟨h.2.1⟩ w).mono ?_
  intro e w' hh
  obtain ⟨v, rfl, hv, hb⟩ := hh.out
  rw [hv.2 ⟨⟨a, h.1⟩, b, h.2⟩]
  exact ⟨rfl, hb⟩

theorem formed_no (x y : Nat) (hx : Word x) (hy : Word y) (h : NoNum x y) (w : World) :
    Calls Tryz.prog 41 #[.complex .f64 x y] w fun e w' => e = .returned (.bool false) ∧ Below w.heap.size w w' := by
  refine (formed_any x y hx hy w).mono ?_
  intro e w' hh
  obtain ⟨v, rfl, hv, hb⟩ := hh.out
  have : v = false := by
    cases v
    · rfl
    · exact absurd (hv.1 rfl) (no_num h)
  rw [this]
  exact ⟨rfl, hb⟩

end Go.Proofs.YtedenhfpbabjkaaGreatDoor
