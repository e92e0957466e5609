/-
  The walk of DnJoins: whatever the texts, true. By an AI agent.
-/
import Derived.Test.YtkncdohghafeiaaGreatDoorQFew
namespace Go.Proofs.YtkncdohghafeiaaGreatDoor
open Go.RowKit
set_option linter.unusedVariables false

set_option maxRecDepth 100000 in
set_option maxHeartbeats 64000000 in
theorem joins_law (s u : ByteArray) (w : World) (hT : TM w) :
    Calls Tryz.prog 8 #[.string s, .string u] w fun e w' => e = .returned (.bool true) ∧ Below w.heap.size w w' := by
  cases short6_or [s, u] with
  | no h =>
    have hFew := fun (w : World) hS N hN c => few6_any w.heap.size [s, u] false ⟨fun e => (by cases e), fun hh => absurd hh h⟩ (by simp) (w.alloc (.cells #[.string s, .string u] 9)) hS N hN c
    clear h
    go_enter Tryz.func8, Tryz.ntmps8
    go_wp2_with (go_at_call 10; fail)
    refine (awake6_any _ hT).mono ?_
    rintro e w1 ⟨rfl, hb1⟩
    go_wp2_with (go_at_call 11; fail)
    refine (hFew _ (strs6_2 _ _ _ _) 2 rfl 2).mono ?_
    rintro e w2 ⟨rfl, rfl⟩
    have hc2 := hb1.trans ((below1 w1 (.cells #[.string s, .string u] 9)).mono hb1.size)
    clear hFew hb1
    go_wp2_with (go_at_call 10; fail)
    refine (awake6_any _ (hT.below hc2)).mono ?_
    rintro e w3 ⟨rfl, hb3⟩
    have hc3 := hc2.trans (hb3.mono hc2.size)
    clear hb3 hc2
    go_wp2
    go_ret
    exact ⟨rfl, hc3⟩
  | yes h =>
    have hFew := fun (w : World) hS N hN c => few6_any w.heap.size [s, u] true ⟨fun _ => h, fun _ => rfl⟩ (by simp) (w.alloc (.cells #[.string s, .string u] 9)) hS N hN c
    have hzl : s.size ≤ 3000 := h s (by simp)
    have hzm : u.size ≤ 3000 := h u (by simp)
    clear h
    obtain ⟨l, hle⟩ := as_txt s
    rw [hle, txt_size] at hzl
    have hyl : l.length ≤ 1000000 := by omega
    clear hzl
    obtain ⟨m, hme⟩ := as_txt u
    rw [hme, txt_size] at hzm
    have hym : m.length ≤ 1000000 := by omega
    clear hzm
    have hA := fun w hT => pjoin_text l m hyl hym w hT
    have hB := fun w hT => rjoin_text l m hyl hym w hT
    rw [← hle, ← hme] at hA hB
    rcases join_cases l m with ⟨x, hx, hM⟩ | hno
    · rw [hx] at hA hB
      simp only at hA hB
      have hyx : x.length ≤ 1000000 := by have := hM.len; omega
      have hC := fun w hT => pparent_any x hyx w hT
      rw [hM.par] at hC
      simp only at hC
      have hD := fun w hT => pnormal_text m hym w hT
      rw [← hme] at hD
      generalize txt x = X at *
      generalize txt (normT m).1 = N at *
      generalize (normT m).2 = y at *
      clear hx hM hyx hyl hym hle hme
      go_enter Tryz.func8, Tryz.ntmps8
      go_wp2_with (go_at_call 10; fail)
      refine (awake6_any _ hT).mono ?_
      rintro e w1 ⟨rfl, hb1⟩
      go_wp2_with (go_at_call 11; fail)
      refine (hFew _ (strs6_2 _ _ _ _) 2 rfl 2).mono ?_
      rintro e w2 ⟨rfl, rfl⟩
      have hc2 := hb1.trans ((below1 w1 (.cells #[.string s, .string u] 9)).mono hb1.size)
      clear hFew hb1
      go_wp2_with (go_at_call 29; fail)
      refine (hA _ (hT.below hc2)).mono ?_
      rintro e w3 ⟨rfl, hb3⟩
      have hc3 := hc2.trans (hb3.mono hc2.size)
      clear hb3 hc2
      go_wp2_with (go_at_call 30; fail)
      refine (hB _ (hT.below hc3)).mono ?_
      rintro e w4 ⟨rfl, hb4⟩
      have hc4 := hc3.trans (hb4.mono hc3.size)
      clear hb4 hc3
      go_wp2_with (go_at_call 24; fail)
      refine (hC _ (hT.below hc4)).mono ?_
      rintro e w5 ⟨rfl, hb5⟩
      have hc5 := hc4.trans (hb5.mono hc4.size)
      clear hb5 hc4
      go_wp2_with (go_at_call 14; fail)
      refine (hD _ (hT.below hc5)).mono ?_
      rintro e w6 ⟨rfl, hb6⟩
      have hc6 := hc5.trans (hb6.mono hc5.size)
      clear hb6 hc5
      go_wp2
      go_ret
      exact ⟨rfl, hc6⟩
    · generalize txt (joinV l m).1 = X at *
      generalize (joinV l m).2 = y at *
      have hno2 : (y != 0) = true := by unfold bne; rw [hno]; rfl
      clear hyl hym hle hme
      go_enter Tryz.func8, Tryz.ntmps8
      go_wp2_with (go_at_call 10; fail)
      refine (awake6_any _ hT).mono ?_
      rintro e w1 ⟨rfl, hb1⟩
      go_wp2_with (go_at_call 11; fail)
      refine (hFew _ (strs6_2 _ _ _ _) 2 rfl 2).mono ?_
      rintro e w2 ⟨rfl, rfl⟩
      have hc2 := hb1.trans ((below1 w1 (.cells #[.string s, .string u] 9)).mono hb1.size)
      clear hFew hb1
      go_wp2_with (go_at_call 29; fail)
      refine (hA _ (hT.below hc2)).mono ?_
      rintro e w3 ⟨rfl, hb3⟩
      have hc3 := hc2.trans (hb3.mono hc2.size)
      clear hb3 hc2
      go_wp2_with (go_at_call 30; fail)
      refine (hB _ (hT.below hc3)).mono ?_
      rintro e w4 ⟨rfl, hb4⟩
      have hc4 := hc3.trans (hb4.mono hc3.size)
      clear hb4 hc3
      go_wp2
      go_ret
      exact ⟨rfl, hc4⟩

end Go.Proofs.YtkncdohghafeiaaGreatDoor
