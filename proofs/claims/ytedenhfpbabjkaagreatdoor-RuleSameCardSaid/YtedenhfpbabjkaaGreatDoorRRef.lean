/-
  The reference's Type. By an AI agent.
-/
import Derived.Test.YtedenhfpbabjkaaGreatDoorRType
namespace Go.Proofs.YtedenhfpbabjkaaGreatDoor
open Go.RowKit
set_option linter.unusedVariables false

theorem lows_own {l L : List UInt8} (h : lows l = L) : lows L = L := by rw [← h, lows_lows]

theorem typ_0 {l : List UInt8} (h : lows l = [111, 98, 106, 101, 99, 116, 99, 108, 97, 115, 115]) : typ l = ([111, 98, 106, 101, 99, 116, 67, 108, 97, 115, 115], 1) := by unfold typ; rw [h]; decide
theorem typ_1 {l : List UInt8} (h : lows l = [99, 110]) : typ l = ([99, 110], 1) := by unfold typ; rw [h]; decide
theorem typ_2 {l : List UInt8} (h : lows l = [111, 117]) : typ l = ([111, 117], 1) := by unfold typ; rw [h]; decide
theorem typ_3 {l : List UInt8} (h : lows l = [111]) : typ l = ([111], 1) := by unfold typ; rw [h]; decide
theorem typ_4 {l : List UInt8} (h : lows l = [100, 99]) : typ l = ([100, 99], 1) := by unfold typ; rw [h]; decide
theorem typ_5 {l : List UInt8} (h : lows l = [117, 105, 100]) : typ l = ([117, 105, 100], 1) := by unfold typ; rw [h]; decide
theorem typ_6 {l : List UInt8} (h : lows l = [100, 101, 115, 99, 114, 105, 112, 116, 105, 111, 110]) : typ l = ([100, 101, 115, 99, 114, 105, 112, 116, 105, 111, 110], 1) := by unfold typ; rw [h]; decide
theorem typ_7 {l : List UInt8} (h : lows l = [109, 97, 105, 108]) : typ l = ([109, 97, 105, 108], 1) := by unfold typ; rw [h]; decide
theorem typ_8 {l : List UInt8} (h : lows l = [117, 115, 101, 114, 112, 97, 115, 115, 119, 111, 114, 100]) : typ l = ([117, 115, 101, 114, 80, 97, 115, 115, 119, 111, 114, 100], 2) := by unfold typ; rw [h]; decide
theorem typ_9 {l : List UInt8} (h : lows l = [114, 101, 102]) : typ l = ([114, 101, 102], 2) := by unfold typ; rw [h]; decide
theorem typ_10 {l : List UInt8} (h : lows l = [115, 101, 114, 105, 97, 108, 110, 117, 109, 98, 101, 114]) : typ l = ([115, 101, 114, 105, 97, 108, 78, 117, 109, 98, 101, 114], 3) := by unfold typ; rw [h]; decide
theorem typ_11 {l : List UInt8} (h : lows l = [112, 111, 115, 105, 116, 105, 111, 110]) : typ l = ([112, 111, 115, 105, 116, 105, 111, 110], 4) := by unfold typ; rw [h]; decide
theorem typ_12 {l : List UInt8} (h : lows l = [97, 108, 105, 97, 115, 101, 100, 111, 98, 106, 101, 99, 116, 110, 97, 109, 101]) : typ l = ([97, 108, 105, 97, 115, 101, 100, 79, 98, 106, 101, 99, 116, 78, 97, 109, 101], 5) := by unfold typ; rw [h]; decide
theorem typ_13 {l : List UInt8} (h : lows l = [109, 101, 109, 98, 101, 114]) : typ l = ([109, 101, 109, 98, 101, 114], 5) := by unfold typ; rw [h]; decide
theorem typ_none {l L : List UInt8} (h : lows l = L)
    (h0 : (L == [111, 98, 106, 101, 99, 116, 99, 108, 97, 115, 115]) = false)
    (h1 : (L == [99, 110]) = false)
    (h2 : (L == [111, 117]) = false)
    (h3 : (L == [111]) = false)
    (h4 : (L == [100, 99]) = false)
    (h5 : (L == [117, 105, 100]) = false)
    (h6 : (L == [100, 101, 115, 99, 114, 105, 112, 116, 105, 111, 110]) = false)
    (h7 : (L == [109, 97, 105, 108]) = false)
    (h8 : (L == [117, 115, 101, 114, 112, 97, 115, 115, 119, 111, 114, 100]) = false)
    (h9 : (L == [114, 101, 102]) = false)
    (h10 : (L == [115, 101, 114, 105, 97, 108, 110, 117, 109, 98, 101, 114]) = false)
    (h11 : (L == [112, 111, 115, 105, 116, 105, 111, 110]) = false)
    (h12 : (L == [97, 108, 105, 97, 115, 101, 100, 111, 98, 106, 101, 99, 116, 110, 97, 109, 101]) = false)
    (h13 : (L == [109, 101, 109, 98, 101, 114]) = false)
    : typ l = ([], 0) := by
  unfold typ
  rw [h]
  unfold tab
  rw [typL, if_neg (fun e => by rw [← e] at h0; exact absurd h0 (by decide))]
  rw [typL, if_neg (fun e => by rw [← e] at h1; exact absurd h1 (by decide))]
  rw [typL, if_neg (fun e => by rw [← e] at h2; exact absurd h2 (by decide))]
  rw [typL, if_neg (fun e => by rw [← e] at h3; exact absurd h3 (by decide))]
  rw [typL, if_neg (fun e => by rw [← e] at h4; exact absurd h4 (by decide))]
  rw [typL, if_neg (fun e => by rw [← e] at h5; exact absurd h5 (by decide))]
  rw [typL, if_neg (fun e => by rw [← e] at h6; exact absurd h6 (by decide))]
  rw [typL, if_neg (fun e => by rw [← e] at h7; exact absurd h7 (by decide))]
  rw [typL, if_neg (fun e => by rw [← e] at h8; exact absurd h8 (by decide))]
  rw [typL, if_neg (fun e => by rw [← e] at h9; exact absurd h9 (by decide))]
  rw [typL, if_neg (fun e => by rw [← e] at h10; exact absurd h10 (by decide))]
  rw [typL, if_neg (fun e => by rw [← e] at h11; exact absurd h11 (by decide))]
  rw [typL, if_neg (fun e => by rw [← e] at h12; exact absurd h12 (by decide))]
  rw [typL, if_neg (fun e => by rw [← e] at h13; exact absurd h13 (by decide))]
  rfl

set_option maxRecDepth 100000 in
set_option maxHeartbeats 16000000 in
theorem rtype_any (s : ByteArray) (h48 : s.size ≤ 281474976710656) (w : World) :
    Calls Tryz.prog 23 #[.string s] w fun e w' => e = .returned (.tuple #[.string (txt (typ s.data.toList).1), .int .i64 (typ s.data.toList).2]) ∧ Below w.heap.size w w' := by
  have hW := fun w => lower_any s h48 w
  generalize hl : s.data.toList = l at *
  replace hl := hide hl
  obtain ⟨L, hL⟩ : ∃ L, lows l = L := ⟨_, rfl⟩
  rw [hL] at hW
  obtain ⟨S, hS0⟩ : ∃ S, txt L = S := ⟨_, rfl⟩
  have hSl : S.toList = L := by rw [← hS0]; exact txt_bytes L
  rw [hS0] at hW
  have hLL := hide hL
  by_cases q0 : L = [111, 98, 106, 101, 99, 116, 99, 108, 97, 115, 115]
  · have ht := hide (typ_0 (hL.trans q0))
    have hS : Hid (S = txt [111, 98, 106, 101, 99, 116, 99, 108, 97, 115, 115]) := hide (by rw [← hS0, q0])
    have e0 : (S.toList == [111, 98, 106, 101, 99, 116, 99, 108, 97, 115, 115]) = true := by rw [hSl, q0]; rfl
    clear hL hLL hS0 hSl q0
    go_enter Tryz.func23, Tryz.ntmps23
    go_wp2_with (go_at_call 45; fail)
    refine (hW _).mono ?_
    rintro e w1 ⟨rfl, hb⟩
    go_wp2
    go_ret2
    exact ⟨by rw [ht.out]; rfl, hb⟩
  have e0 : (S.toList == [111, 98, 106, 101, 99, 116, 99, 108, 97, 115, 115]) = false := by rw [hSl]; exact beq_false_of_ne q0
  by_cases q1 : L = [99, 110]
  · have ht := hide (typ_1 (hL.trans q1))
    have hS : Hid (S = txt [99, 110]) := hide (by rw [← hS0, q1])
    have e1 : (S.toList == [99, 110]) = true := by rw [hSl, q1]; rfl
    clear hL hLL hS0 hSl q1
    go_enter Tryz.func23, Tryz.ntmps23
    go_wp2_with (go_at_call 45; fail)
    refine (hW _).mono ?_
    rintro e w1 ⟨rfl, hb⟩
    go_wp2_with (go_at_call 45; fail)
    refine (hW _).mono ?_
    rintro e w2 ⟨rfl, hb2⟩
    go_wp2
    go_ret2
    exact ⟨by rw [ht.out, hS.out]; rfl, hb.trans (hb2.mono hb.size)⟩
  have e1 : (S.toList == [99, 110]) = false := by rw [hSl]; exact beq_false_of_ne q1
  by_cases q2 : L = [111, 117]
  · have ht := hide (typ_2 (hL.trans q2))
    have hS : Hid (S = txt [111, 117]) := hide (by rw [← hS0, q2])
    have e2 : (S.toList == [111, 117]) = true := by rw [hSl, q2]; rfl
    clear hL hLL hS0 hSl q2
    go_enter Tryz.func23, Tryz.ntmps23
    go_wp2_with (go_at_call 45; fail)
    refine (hW _).mono ?_
    rintro e w1 ⟨rfl, hb⟩
    go_wp2_with (go_at_call 45; fail)
    refine (hW _).mono ?_
    rintro e w2 ⟨rfl, hb2⟩
    go_wp2
    go_ret2
    exact ⟨by rw [ht.out, hS.out]; rfl, hb.trans (hb2.mono hb.size)⟩
  have e2 : (S.toList == [111, 117]) = false := by rw [hSl]; exact beq_false_of_ne q2
  by_cases q3 : L = [111]
  · have ht := hide (typ_3 (hL.trans q3))
    have hS : Hid (S = txt [111]) := hide (by rw [← hS0, q3])
    have e3 : (S.toList == [111]) = true := by rw [hSl, q3]; rfl
    clear hL hLL hS0 hSl q3
    go_enter Tryz.func23, Tryz.ntmps23
    go_wp2_with (go_at_call 45; fail)
    refine (hW _).mono ?_
    rintro e w1 ⟨rfl, hb⟩
    go_wp2_with (go_at_call 45; fail)
    refine (hW _).mono ?_
    rintro e w2 ⟨rfl, hb2⟩
    go_wp2
    go_ret2
    exact ⟨by rw [ht.out, hS.out]; rfl, hb.trans (hb2.mono hb.size)⟩
  have e3 : (S.toList == [111]) = false := by rw [hSl]; exact beq_false_of_ne q3
  by_cases q4 : L = [100, 99]
  · have ht := hide (typ_4 (hL.trans q4))
    have hS : Hid (S = txt [100, 99]) := hide (by rw [← hS0, q4])
    have e4 : (S.toList == [100, 99]) = true := by rw [hSl, q4]; rfl
    clear hL hLL hS0 hSl q4
    go_enter Tryz.func23, Tryz.ntmps23
    go_wp2_with (go_at_call 45; fail)
    refine (hW _).mono ?_
    rintro e w1 ⟨rfl, hb⟩
    go_wp2_with (go_at_call 45; fail)
    refine (hW _).mono ?_
    rintro e w2 ⟨rfl, hb2⟩
    go_wp2
    go_ret2
    exact ⟨by rw [ht.out, hS.out]; rfl, hb.trans (hb2.mono hb.size)⟩
  have e4 : (S.toList == [100, 99]) = false := by rw [hSl]; exact beq_false_of_ne q4
  by_cases q5 : L = [117, 105, 100]
  · have ht := hide (typ_5 (hL.trans q5))
    have hS : Hid (S = txt [117, 105, 100]) := hide (by rw [← hS0, q5])
    have e5 : (S.toList == [117, 105, 100]) = true := by rw [hSl, q5]; rfl
    clear hL hLL hS0 hSl q5
    go_enter Tryz.func23, Tryz.ntmps23
    go_wp2_with (go_at_call 45; fail)
    refine (hW _).mono ?_
    rintro e w1 ⟨rfl, hb⟩
    go_wp2_with (go_at_call 45; fail)
    refine (hW _).mono ?_
    rintro e w2 ⟨rfl, hb2⟩
    go_wp2
    go_ret2
    exact ⟨by rw [ht.out, hS.out]; rfl, hb.trans (hb2.mono hb.size)⟩
  have e5 : (S.toList == [117, 105, 100]) = false := by rw [hSl]; exact beq_false_of_ne q5
  by_cases q6 : L = [100, 101, 115, 99, 114, 105, 112, 116, 105, 111, 110]
  · have ht := hide (typ_6 (hL.trans q6))
    have hS : Hid (S = txt [100, 101, 115, 99, 114, 105, 112, 116, 105, 111, 110]) := hide (by rw [← hS0, q6])
    have e6 : (S.toList == [100, 101, 115, 99, 114, 105, 112, 116, 105, 111, 110]) = true := by rw [hSl, q6]; rfl
    clear hL hLL hS0 hSl q6
    go_enter Tryz.func23, Tryz.ntmps23
    go_wp2_with (go_at_call 45; fail)
    refine (hW _).mono ?_
    rintro e w1 ⟨rfl, hb⟩
    go_wp2_with (go_at_call 45; fail)
    refine (hW _).mono ?_
    rintro e w2 ⟨rfl, hb2⟩
    go_wp2
    go_ret2
    exact ⟨by rw [ht.out, hS.out]; rfl, hb.trans (hb2.mono hb.size)⟩
  have e6 : (S.toList == [100, 101, 115, 99, 114, 105, 112, 116, 105, 111, 110]) = false := by rw [hSl]; exact beq_false_of_ne q6
  by_cases q7 : L = [109, 97, 105, 108]
  · have ht := hide (typ_7 (hL.trans q7))
    have hS : Hid (S = txt [109, 97, 105, 108]) := hide (by rw [← hS0, q7])
    have e7 : (S.toList == [109, 97, 105, 108]) = true := by rw [hSl, q7]; rfl
    clear hL hLL hS0 hSl q7
    go_enter Tryz.func23, Tryz.ntmps23
    go_wp2_with (go_at_call 45; fail)
    refine (hW _).mono ?_
    rintro e w1 ⟨rfl, hb⟩
    go_wp2_with (go_at_call 45; fail)
    refine (hW _).mono ?_
    rintro e w2 ⟨rfl, hb2⟩
    go_wp2
    go_ret2
    exact ⟨by rw [ht.out, hS.out]; rfl, hb.trans (hb2.mono hb.size)⟩
  have e7 : (S.toList == [109, 97, 105, 108]) = false := by rw [hSl]; exact beq_false_of_ne q7
  by_cases q8 : L = [117, 115, 101, 114, 112, 97, 115, 115, 119, 111, 114, 100]
  · have ht := hide (typ_8 (hL.trans q8))
    have hS : Hid (S = txt [117, 115, 101, 114, 112, 97, 115, 115, 119, 111, 114, 100]) := hide (by rw [← hS0, q8])
    have e8 : (S.toList == [117, 115, 101, 114, 112, 97, 115, 115, 119, 111, 114, 100]) = true := by rw [hSl, q8]; rfl
    clear hL hLL hS0 hSl q8
    go_enter Tryz.func23, Tryz.ntmps23
    go_wp2_with (go_at_call 45; fail)
    refine (hW _).mono ?_
    rintro e w1 ⟨rfl, hb⟩
    go_wp2
    go_ret2
    exact ⟨by rw [ht.out]; rfl, hb⟩
  have e8 : (S.toList == [117, 115, 101, 114, 112, 97, 115, 115, 119, 111, 114, 100]) = false := by rw [hSl]; exact beq_false_of_ne q8
  by_cases q9 : L = [114, 101, 102]
  · have ht := hide (typ_9 (hL.trans q9))
    have hS : Hid (S = txt [114, 101, 102]) := hide (by rw [← hS0, q9])
    have e9 : (S.toList == [114, 101, 102]) = true := by rw [hSl, q9]; rfl
    clear hL hLL hS0 hSl q9
    go_enter Tryz.func23, Tryz.ntmps23
    go_wp2_with (go_at_call 45; fail)
    refine (hW _).mono ?_
    rintro e w1 ⟨rfl, hb⟩
    go_wp2
    go_ret2
    exact ⟨by rw [ht.out]; rfl, hb⟩
  have e9 : (S.toList == [114, 101, 102]) = false := by rw [hSl]; exact beq_false_of_ne q9
  by_cases q10 : L = [115, 101, 114, 105, 97, 108, 110, 117, 109, 98, 101, 114]
  · have ht := hide (typ_10 (hL.trans q10))
    have hS : Hid (S = txt [115, 101, 114, 105, 97, 108, 110, 117, 109, 98, 101, 114]) := hide (by rw [← hS0, q10])
    have e10 : (S.toList == [115, 101, 114, 105, 97, 108, 110, 117, 109, 98, 101, 114]) = true := by rw [hSl, q10]; rfl
    clear hL hLL hS0 hSl q10
    go_enter Tryz.func23, Tryz.ntmps23
    go_wp2_with (go_at_call 45; fail)
    refine (hW _).mono ?_
    rintro e w1 ⟨rfl, hb⟩
    go_wp2
    go_ret2
    exact ⟨by rw [ht.out]; rfl, hb⟩
  have e10 : (S.toList == [115, 101, 114, 105, 97, 108, 110, 117, 109, 98, 101, 114]) = false := by rw [hSl]; exact beq_false_of_ne q10
  by_cases q11 : L = [112, 111, 115, 105, 116, 105, 111, 110]
  · have ht := hide (typ_11 (hL.trans q11))
    have hS : Hid (S = txt [112, 111, 115, 105, 116, 105, 111, 110]) := hide (by rw [← hS0, q11])
    have e11 : (S.toList == [112, 111, 115, 105, 116, 105, 111, 110]) = true := by rw [hSl, q11]; rfl
    clear hL hLL hS0 hSl q11
    go_enter Tryz.func23, Tryz.ntmps23
    go_wp2_with (go_at_call 45; fail)
    refine (hW _).mono ?_
    rintro e w1 ⟨rfl, hb⟩
    go_wp2
    go_ret2
    exact ⟨by rw [ht.out]; rfl, hb⟩
  have e11 : (S.toList == [112, 111, 115, 105, 116, 105, 111, 110]) = false := by rw [hSl]; exact beq_false_of_ne q11
  by_cases q12 : L = [97, 108, 105, 97, 115, 101, 100, 111, 98, 106, 101, 99, 116, 110, 97, 109, 101]
  · have ht := hide (typ_12 (hL.trans q12))
    have hS : Hid (S = txt [97, 108, 105, 97, 115, 101, 100, 111, 98, 106, 101, 99, 116, 110, 97, 109, 101]) := hide (by rw [← hS0, q12])
    have e12 : (S.toList == [97, 108, 105, 97, 115, 101, 100, 111, 98, 106, 101, 99, 116, 110, 97, 109, 101]) = true := by rw [hSl, q12]; rfl
    clear hL hLL hS0 hSl q12
    go_enter Tryz.func23, Tryz.ntmps23
    go_wp2_with (go_at_call 45; fail)
    refine (hW _).mono ?_
    rintro e w1 ⟨rfl, hb⟩
    go_wp2
    go_ret2
    exact ⟨by rw [ht.out]; rfl, hb⟩
  have e12 : (S.toList == [97, 108, 105, 97, 115, 101, 100, 111, 98, 106, 101, 99, 116, 110, 97, 109, 101]) = false := by rw [hSl]; exact beq_false_of_ne q12
  by_cases q13 : L = [109, 101, 109, 98, 101, 114]
  · have ht := hide (typ_13 (hL.trans q13))
    have hS : Hid (S = txt [109, 101, 109, 98, 101, 114]) := hide (by rw [← hS0, q13])
    have e13 : (S.toList == [109, 101, 109, 98, 101, 114]) = true := by rw [hSl, q13]; rfl
    clear hL hLL hS0 hSl q13
    go_enter Tryz.func23, Tryz.ntmps23
    go_wp2_with (go_at_call 45; fail)
    refine (hW _).mono ?_
    rintro e w1 ⟨rfl, hb⟩
    go_wp2
    go_ret2
    exact ⟨by rw [ht.out]; rfl, hb⟩
  have e13 : (S.toList == [109, 101, 109, 98, 101, 114]) = false := by rw [hSl]; exact beq_false_of_ne q13
  have ht := hide (typ_none hL (beq_false_of_ne q0) (beq_false_of_ne q1) (beq_false_of_ne q2) (beq_false_of_ne q3) (beq_false_of_ne q4) (beq_false_of_ne q5) (beq_false_of_ne q6) (beq_false_of_ne q7) (beq_false_of_ne q8) (beq_false_of_ne q9) (beq_false_of_ne q10) (beq_false_of_ne q11) (beq_false_of_ne q12) (beq_false_of_ne q13))
  clear hL hLL hS0 hSl q0 q1 q2 q3 q4 q5 q6 q7 q8 q9 q10 q11 q12 q13
  go_enter Tryz.func23, Tryz.ntmps23
  go_wp2_with (go_at_call 45; fail)
  refine (hW _).mono ?_
  rintro e w1 ⟨rfl, hb⟩
  go_wp2
  go_ret2
  exact ⟨by rw [ht.out]; rfl, hb⟩

end Go.Proofs.YtedenhfpbabjkaaGreatDoor
