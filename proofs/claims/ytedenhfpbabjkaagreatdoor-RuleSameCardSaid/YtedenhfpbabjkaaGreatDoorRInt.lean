/-
  integer: the integer of a text. By an AI agent.
-/
import Derived.Test.YtedenhfpbabjkaaGreatDoorRIntMath
import Derived.Test.YtedenhfpbabjkaaGreatDoorRead
import Derived.Test.YtedenhfpbabjkaaGreatDoorRTab
namespace Go.Proofs.YtedenhfpbabjkaaGreatDoor
open Go.RowKit
set_option linter.unusedVariables false

theorem parseint_ok (s : ByteArray) (hs : s.size ≤ 281474976710656) (v : Int) (h : Lib.parseIntB 64 s.data.toList = .ok v) (w : World) :
    Calls Tryz.prog 36 #[.string s, .int .i64 10, .int .i64 64] w fun e w' => e = .returned (.tuple #[.int .i64 v, .nilIface]) ∧ Below w.heap.size w w' := by
  refine (Tryz.strconv_ParseInt_10_at64_ok s (by omega) v h w).mono ?_
  rintro e w' ⟨rfl, hw⟩
  refine ⟨rfl, ?_⟩
  rcases hw with rfl | ⟨t, rfl⟩
  · exact Below.refl _ _
  · exact Lib.bytesWorld_below w _ t

theorem parseint_bad (s : ByteArray) (hs : s.size ≤ 281474976710656) (h : ∀ v, Lib.parseIntB 64 s.data.toList ≠ .ok v) (w : World) (hT : Tabs w) :
    Calls Tryz.prog 36 #[.string s, .int .i64 10, .int .i64 64] w (BadPost w) := by
  obtain ⟨tp, p, hsyn⟩ := hT.syn
  obtain ⟨tq, q, hrng⟩ := hT.rng
  cases he : Lib.parseIntB 64 s.data.toList
  · exact absurd he (h _)
  · refine (Any.strconv_ParseInt_10_at64_syntax_var Tryz.laysC174 s hs he tp p w hsyn).mono ?_
    rintro e w' ⟨N, rfl, _, _, hb⟩
    exact ⟨_, N, rfl, hb⟩
  · refine (Any.strconv_ParseInt_10_at64_range_var Tryz.laysC174 s hs he tq q w hrng).mono ?_
    rintro e w' ⟨N, rfl, _, _, hb⟩
    exact ⟨_, N, rfl, hb⟩

set_option maxRecDepth 100000 in
set_option maxHeartbeats 8000000 in
theorem integer_yes (s : ByteArray) (hs : s.size ≤ 281474976710656) (n : Int) (h : IsInt s.data.toList n) (w : World) (hT : Tabs w) :
    Calls Tryz.prog 18 #[.string s] w fun e w' => e = .returned (.tuple #[.int .i64 n, .bool true]) ∧ Below w.heap.size w w' := by
  have hP := parseint_ok s hs n (parse_int h) w
  obtain ⟨⟨h0, h1⟩, he⟩ := h
  have hF := fun w hT => format_any n (by omega) (by omega) w hT
  have hst := data_cell s _ he
  rw [← hst] at hF
  have hne : (s.toList != s.toList) = false := by simp
  clear he hst
  go_enter Tryz.func18, Tryz.ntmps18
  go_wp2_with (go_at_call 36; fail)
  refine hP.mono ?_
  rintro e w1 ⟨rfl, hb1⟩
  have hT1 := hT.below hb1
  clear hP
  go_wp2_with (go_at_call 37; fail)
  refine (hF _ hT1).mono ?_
  rintro e w2 ⟨rfl, hb2⟩
  clear hF
  go_wp2
  go_ret2
  exact ⟨rfl, hb1.trans (hb2.mono hb1.size)⟩

set_option maxRecDepth 100000 in
set_option maxHeartbeats 8000000 in
theorem integer_no (s : ByteArray) (hs : s.size ≤ 281474976710656) (h : ∀ n, ¬ IsInt s.data.toList n) (w : World) (hT : Tabs w) :
    Calls Tryz.prog 18 #[.string s] w fun e w' => e = .returned (.tuple #[.int .i64 0, .bool false]) ∧ Below w.heap.size w w' := by
  by_cases hv : ∃ v, Lib.parseIntB 64 s.data.toList = .ok v
  · obtain ⟨v, hv⟩ := hv
    have hP := parseint_ok s hs v hv w
    have hbd := Lib.parseIntB_bounds hv
    have e63 : ((2 ^ (64 - 1) : Nat) : Int) = 9223372036854775808 := by decide
    rw [e63] at hbd
    by_cases hlo : v < -999999999999999999
    · clear h hv
      go_enter Tryz.func18, Tryz.ntmps18
      go_wp2_with (go_at_call 36; fail)
      refine hP.mono ?_
      rintro e w1 ⟨rfl, hb1⟩
      clear hP
      go_wp2
      go_ret2
      exact ⟨rfl, hb1⟩
    · by_cases hhi : 999999999999999999 < v
      · clear h hv
        go_enter Tryz.func18, Tryz.ntmps18
        go_wp2_with (go_at_call 36; fail)
        refine hP.mono ?_
        rintro e w1 ⟨rfl, hb1⟩
        clear hP
        go_wp2
        go_ret2
        exact ⟨rfl, hb1⟩
      · have hF := fun w hT => format_any v (by omega) (by omega) w hT
        have hne : ((txt (Lib.itoa v)).toList == s.toList) = false := by
          rw [txt_bytes, Lib.toList_data]
          refine beq_false_of_ne fun e => ?_
          exact h v ⟨⟨by omega, by omega⟩, e.symm⟩
        generalize txt (Lib.itoa v) = X at *
        clear h hv
        go_enter Tryz.func18, Tryz.ntmps18
        go_wp2_with (go_at_call 36; fail)
        refine hP.mono ?_
        rintro e w1 ⟨rfl, hb1⟩
        have hT1 := hT.below hb1
        clear hP
        go_wp2_with (go_at_call 37; fail)
        refine (hF _ hT1).mono ?_
        rintro e w2 ⟨rfl, hb2⟩
        clear hF
        go_wp2
        go_ret2
        exact ⟨rfl, hb1.trans (hb2.mono hb1.size)⟩
  · have hP := parseint_bad s hs (fun v e => hv ⟨v, e⟩) w hT
    clear h hv
    go_enter Tryz.func18, Tryz.ntmps18
    go_wp2_with (go_at_call 36; fail)
    refine hP.mono ?_
    rintro e w1 ⟨v, N, rfl, hb1⟩
    clear hP
    unfold badV
    go_wp2
    go_ret2
    exact ⟨rfl, hb1⟩

end Go.Proofs.YtedenhfpbabjkaaGreatDoor
