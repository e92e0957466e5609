/-
  Same. By an AI agent.
-/
import Derived.Test.YtedenhfpbabjkaaGreatDoorRBoth
namespace Go.Proofs.YtedenhfpbabjkaaGreatDoor
open Go.RowKit
set_option linter.unusedVariables false

set_option maxRecDepth 100000 in
set_option maxHeartbeats 8000000 in
theorem same_any (n a b : ByteArray) (ha : a.size ≤ 281474976710656) (hb : b.size ≤ 281474976710656) (x y : List UInt8) (f : Int) (h : BothIs n.data.toList a.data.toList b.data.toList x y f) (w : World) (hT : TT w) :
    Calls Tryz.prog 8 #[.string n, .string a, .string b] w fun e w' => e = .returned (.tuple #[.bool (f == 0 && x == y), .int .i64 f]) ∧ Below w.heap.size w w' := by
  have hB := fun w hT => both_any n a b ha hb x y f h w hT
  have hxy : ((txt x).toList == (txt y).toList) = (x == y) := by rw [txt_bytes, txt_bytes]
  by_cases h0 : f = 0
  · subst h0
    have hr : Hid (((0 : Int) == 0 && x == y) = (x == y)) := hide (by simp)
    generalize txt x = X at *
    generalize txt y = Y at *
    cases hq : (x == y) with
    | true =>
      rw [hq] at hxy hr
      clear hq h
      go_enter Tryz.func8, Tryz.ntmps8
      go_wp2_with (go_at_call 15; fail)
      refine (hB _ hT).mono ?_
      rintro e w1 ⟨rfl, hb1⟩
      go_wp2
      go_ret2
      exact ⟨by rw [hr.out]; rfl, hb1⟩
    | false =>
      rw [hq] at hxy hr
      clear hq h
      go_enter Tryz.func8, Tryz.ntmps8
      go_wp2_with (go_at_call 15; fail)
      refine (hB _ hT).mono ?_
      rintro e w1 ⟨rfl, hb1⟩
      go_wp2
      go_ret2
      exact ⟨by rw [hr.out]; rfl, hb1⟩
  · have hz : (f == 0) = false := beq_false_of_ne h0
    have hr : Hid ((f == 0 && x == y) = false) := hide (by rw [hz]; rfl)
    clear hxy h0 h
    generalize txt x = X at *
    generalize txt y = Y at *
    go_enter Tryz.func8, Tryz.ntmps8
    go_wp2_with (go_at_call 15; fail)
    refine (hB _ hT).mono ?_
    rintro e w1 ⟨rfl, hb1⟩
    go_wp2
    go_ret2
    exact ⟨by rw [hr.out]; rfl, hb1⟩

set_option maxRecDepth 100000 in
set_option maxHeartbeats 8000000 in
theorem rsame_any (n a b : ByteArray) (hn : n.size ≤ 281474976710656) (ha : a.size ≤ 281474976710656) (hb : b.size ≤ 281474976710656) (x y : List UInt8) (f : Int) (h : BothIs n.data.toList a.data.toList b.data.toList x y f) (w : World) (hT : TT w) :
    Calls Tryz.prog 9 #[.string n, .string a, .string b] w fun e w' => e = .returned (.tuple #[.bool (f == 0 && x == y), .int .i64 f]) ∧ Below w.heap.size w w' := by
  have hB := fun w hT => rboth_any n a b hn ha hb x y f h w hT
  have hxy : ((txt x).toList == (txt y).toList) = (x == y) := by rw [txt_bytes, txt_bytes]
  by_cases h0 : f = 0
  · subst h0
    have hr : Hid (((0 : Int) == 0 && x == y) = (x == y)) := hide (by simp)
    generalize txt x = X at *
    generalize txt y = Y at *
    cases hq : (x == y) with
    | true =>
      rw [hq] at hxy hr
      clear hq h
      go_enter Tryz.func9, Tryz.ntmps9
      go_wp2_with (go_at_call 16; fail)
      refine (hB _ hT).mono ?_
      rintro e w1 ⟨rfl, hb1⟩
      go_wp2
      go_ret2
      exact ⟨by rw [hr.out]; rfl, hb1⟩
    | false =>
      rw [hq] at hxy hr
      clear hq h
      go_enter Tryz.func9, Tryz.ntmps9
      go_wp2_with (go_at_call 16; fail)
      refine (hB _ hT).mono ?_
      rintro e w1 ⟨rfl, hb1⟩
      go_wp2
      go_ret2
      exact ⟨by rw [hr.out]; rfl, hb1⟩
  · have hz : (f == 0) = false := beq_false_of_ne h0
    have hr : Hid ((f == 0 && x == y) = false) := hide (by rw [hz]; rfl)
    clear hxy h0 h
    generalize txt x = X at *
    generalize txt y = Y at *
    go_enter Tryz.func9, Tryz.ntmps9
    go_wp2_with (go_at_call 16; fail)
    refine (hB _ hT).mono ?_
    rintro e w1 ⟨rfl, hb1⟩
    go_wp2
    go_ret2
    exact ⟨by rw [hr.out]; rfl, hb1⟩

end Go.Proofs.YtedenhfpbabjkaaGreatDoor
