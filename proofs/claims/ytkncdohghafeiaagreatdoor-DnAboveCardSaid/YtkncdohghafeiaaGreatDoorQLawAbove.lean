/-
  The walk of DnAbove: whatever the texts, true. By an AI agent.
-/
import Derived.Test.YtkncdohghafeiaaGreatDoorQFew
namespace Go.Proofs.YtkncdohghafeiaaGreatDoor
open Go.RowKit
set_option linter.unusedVariables false

set_option maxRecDepth 100000 in
set_option maxHeartbeats 64000000 in
theorem above_law (s u : ByteArray) (w : World) (hT : TM w) :
    Calls Tryz.prog 7 #[.string s, .string u] w fun e w' => e = .returned (.bool true) ∧ Below w.heap.size w w' := by
  cases short6_or [s, u] with
  | no h =>
    have hFew := fun (w : World) hS N hN c => few6_any w.heap.size [s, u] false ⟨fun e => (by cases e), fun hh => absurd hh h⟩ (by simp) (w.alloc (.cells #[.string s, .string u] 9)) hS N hN c
    clear h
    go_enter Tryz.func7, Tryz.ntmps7
    go_wp2_with (go_at_call 10; fail)
    refine (awake6_any _ hT).mono ?_
    rintro e w1 ⟨rfl, hb1⟩
    go_wp2_with (go_at_call 11; fail)
    refine (hFew _ (strs6_2 _ _ _ _) 2 rfl 2).mono ?_
    rintro e w2 ⟨rfl, rfl⟩
    have hc2 := hb1.trans ((below1 w1 (.cells #[.string s, .string u] 9)).mono hb1.size)
    clear hFew hb1
    go_wp2_with (go_at_call 10; fail)
    refine (awake6_any _ (hT.below hc2)).mono ?_
    rintro e w3 ⟨rfl, hb3⟩
    have hc3 := hc2.trans (hb3.mono hc2.size)
    clear hb3 hc2
    go_wp2
    go_ret
    exact ⟨rfl, hc3⟩
  | yes h =>
    have hFew := fun (w : World) hS N hN c => few6_any w.heap.size [s, u] true ⟨fun _ => h, fun _ => rfl⟩ (by simp) (w.alloc (.cells #[.string s, .string u] 9)) hS N hN c
    have hzl : s.size ≤ 3000 := h s (by simp)
    have hzm : u.size ≤ 3000 := h u (by simp)
    clear h
    obtain ⟨l, hle⟩ := as_txt s
    rw [hle, txt_size] at hzl
    have hyl : l.length ≤ 1000000 := by omega
    clear hzl
    obtain ⟨m, hme⟩ := as_txt u
    rw [hme, txt_size] at hzm
    have hym : m.length ≤ 1000000 := by omega
    clear hzm
    have hA := fun w hT => pparent_any l hyl w hT
    have hB := fun w hT => rparent_any l hyl w hT
    have hC := fun w hT => pdepth_any l hyl w hT
    have hD := fun w hT => rdepth_any l hyl w hT
    have hE := fun w hT => punder_text l m hyl hym w hT
    have hF := fun w hT => runder_text l m hyl hym w hT
    rw [← hle] at hA hB hC hD hE hF
    rw [← hme] at hE hF
    generalize underV l m = b at *
    rcases parent_cases l with ⟨x, hx, hM⟩ | hno
    · rw [hx] at hA hB
      simp only at hA hB
      have hyx : x.length ≤ 1000000 := by have := hM.len; omega
      have hG := fun w hT => punder_text l x hyl hyx w hT
      rw [hM.und, ← hle] at hG
      have hH := fun w hT => pdepth_any x hyx w hT
      have hd := hM.deep
      have hd1 := hM.le
      generalize depthV x = dx at *
      generalize depthV l = dl at *
      generalize txt x = X at *
      have hbq : ((dx : Int) == ((dl : Int) - 1)) = true := by rw [← hd]; simp
      clear hx hM hyx hyl hym hle hme hd
      go_enter Tryz.func7, Tryz.ntmps7
      go_wp2_with (go_at_call 10; fail)
      refine (awake6_any _ hT).mono ?_
      rintro e w1 ⟨rfl, hb1⟩
      go_wp2_with (go_at_call 11; fail)
      refine (hFew _ (strs6_2 _ _ _ _) 2 rfl 2).mono ?_
      rintro e w2 ⟨rfl, rfl⟩
      have hc2 := hb1.trans ((below1 w1 (.cells #[.string s, .string u] 9)).mono hb1.size)
      clear hFew hb1
      go_wp2_with (go_at_call 24; fail)
      refine (hA _ (hT.below hc2)).mono ?_
      rintro e w3 ⟨rfl, hb3⟩
      have hc3 := hc2.trans (hb3.mono hc2.size)
      clear hb3 hc2
      go_wp2_with (go_at_call 25; fail)
      refine (hB _ (hT.below hc3)).mono ?_
      rintro e w4 ⟨rfl, hb4⟩
      have hc4 := hc3.trans (hb4.mono hc3.size)
      clear hb4 hc3
      go_wp2_with (go_at_call 26; fail)
      refine (hC _ (hT.below hc4)).mono ?_
      rintro e w5 ⟨rfl, hb5⟩
      have hc5 := hc4.trans (hb5.mono hc4.size)
      clear hb5 hc4
      go_wp2_with (go_at_call 27; fail)
      refine (hD _ (hT.below hc5)).mono ?_
      rintro e w6 ⟨rfl, hb6⟩
      have hc6 := hc5.trans (hb6.mono hc5.size)
      clear hb6 hc5
      go_wp2_with (go_at_call 21; fail)
      refine (hE _ (hT.below hc6)).mono ?_
      rintro e w7 ⟨rfl, hb7⟩
      have hc7 := hc6.trans (hb7.mono hc6.size)
      clear hb7 hc6
      go_wp2_with (go_at_call 28; fail)
      refine (hF _ (hT.below hc7)).mono ?_
      rintro e w8 ⟨rfl, hb8⟩
      have hc8 := hc7.trans (hb8.mono hc7.size)
      clear hb8 hc7
      go_wp2_with (go_at_call 21; fail)
      refine (hG _ (hT.below hc8)).mono ?_
      rintro e w9 ⟨rfl, hb9⟩
      have hc9 := hc8.trans (hb9.mono hc8.size)
      clear hb9 hc8
      go_wp2_with (go_at_call 26; fail)
      refine (hH _ (hT.below hc9)).mono ?_
      rintro e w10 ⟨rfl, hb10⟩
      have hc10 := hc9.trans (hb10.mono hc9.size)
      clear hb10 hc9
      go_wp2_with (go_at_call 26; fail)
      refine (hC _ (hT.below hc10)).mono ?_
      rintro e w11 ⟨rfl, hb11⟩
      have hc11 := hc10.trans (hb11.mono hc10.size)
      clear hb11 hc10
      go_wp2
      go_ret
      exact ⟨rfl, hc11⟩
    · rw [hno] at hA hB
      simp only at hA hB
      have hd1 := depth_le l
      generalize depthV l = dl at *
      generalize txt [] = X at *
      clear hno hyl hym hle hme
      go_enter Tryz.func7, Tryz.ntmps7
      go_wp2_with (go_at_call 10; fail)
      refine (awake6_any _ hT).mono ?_
      rintro e w1 ⟨rfl, hb1⟩
      go_wp2_with (go_at_call 11; fail)
      refine (hFew _ (strs6_2 _ _ _ _) 2 rfl 2).mono ?_
      rintro e w2 ⟨rfl, rfl⟩
      have hc2 := hb1.trans ((below1 w1 (.cells #[.string s, .string u] 9)).mono hb1.size)
      clear hFew hb1
      go_wp2_with (go_at_call 24; fail)
      refine (hA _ (hT.below hc2)).mono ?_
      rintro e w3 ⟨rfl, hb3⟩
      have hc3 := hc2.trans (hb3.mono hc2.size)
      clear hb3 hc2
      go_wp2_with (go_at_call 25; fail)
      refine (hB _ (hT.below hc3)).mono ?_
      rintro e w4 ⟨rfl, hb4⟩
      have hc4 := hc3.trans (hb4.mono hc3.size)
      clear hb4 hc3
      go_wp2_with (go_at_call 26; fail)
      refine (hC _ (hT.below hc4)).mono ?_
      rintro e w5 ⟨rfl, hb5⟩
      have hc5 := hc4.trans (hb5.mono hc4.size)
      clear hb5 hc4
      go_wp2_with (go_at_call 27; fail)
      refine (hD _ (hT.below hc5)).mono ?_
      rintro e w6 ⟨rfl, hb6⟩
      have hc6 := hc5.trans (hb6.mono hc5.size)
      clear hb6 hc5
      go_wp2_with (go_at_call 21; fail)
      refine (hE _ (hT.below hc6)).mono ?_
      rintro e w7 ⟨rfl, hb7⟩
      have hc7 := hc6.trans (hb7.mono hc6.size)
      clear hb7 hc6
      go_wp2_with (go_at_call 28; fail)
      refine (hF _ (hT.below hc7)).mono ?_
      rintro e w8 ⟨rfl, hb8⟩
      have hc8 := hc7.trans (hb8.mono hc7.size)
      clear hb8 hc7
      go_wp2
      go_ret
      exact ⟨rfl, hc8⟩

end Go.Proofs.YtkncdohghafeiaaGreatDoor
