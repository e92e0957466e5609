/-
  The walk of DnMoves: whatever the texts, true. By an AI agent.
-/
import Derived.Test.YtkncdohghafeiaaGreatDoorQFew
namespace Go.Proofs.YtkncdohghafeiaaGreatDoor
open Go.RowKit
set_option linter.unusedVariables false

set_option maxRecDepth 100000 in
set_option maxHeartbeats 64000000 in
theorem moves_law (s u v : ByteArray) (w : World) (hT : TM w) :
    Calls Tryz.prog 9 #[.string s, .string u, .string v] w fun e w' => e = .returned (.bool true) ∧ Below w.heap.size w w' := by
  cases short6_or [s, u, v] with
  | no h =>
    have hFew := fun (w : World) hS N hN c => few6_any w.heap.size [s, u, v] false ⟨fun e => (by cases e), fun hh => absurd hh h⟩ (by simp) (w.alloc (.cells #[.string s, .string u, .string v] 9)) hS N hN c
    clear h
    go_enter Tryz.func9, Tryz.ntmps9
    go_wp2_with (go_at_call 10; fail)
    refine (awake6_any _ hT).mono ?_
    rintro e w1 ⟨rfl, hb1⟩
    go_wp2_with (go_at_call 11; fail)
    refine (hFew _ (strs6_3 _ _ _ _ _) 3 rfl 3).mono ?_
    rintro e w2 ⟨rfl, rfl⟩
    have hc2 := hb1.trans ((below1 w1 (.cells #[.string s, .string u, .string v] 9)).mono hb1.size)
    clear hFew hb1
    go_wp2_with (go_at_call 10; fail)
    refine (awake6_any _ (hT.below hc2)).mono ?_
    rintro e w3 ⟨rfl, hb3⟩
    have hc3 := hc2.trans (hb3.mono hc2.size)
    clear hb3 hc2
    go_wp2
    go_ret
    exact ⟨rfl, hc3⟩
  | yes h =>
    have hFew := fun (w : World) hS N hN c => few6_any w.heap.size [s, u, v] true ⟨fun _ => h, fun _ => rfl⟩ (by simp) (w.alloc (.cells #[.string s, .string u, .string v] 9)) hS N hN c
    have hzl : s.size ≤ 3000 := h s (by simp)
    have hzf : u.size ≤ 3000 := h u (by simp)
    have hzt : v.size ≤ 3000 := h v (by simp)
    clear h
    obtain ⟨l, hle⟩ := as_txt s
    rw [hle, txt_size] at hzl
    have hyl : l.length ≤ 1000000 := by omega
    clear hzl
    obtain ⟨f, hfe⟩ := as_txt u
    rw [hfe, txt_size] at hzf
    have hyf : f.length ≤ 1000000 := by omega
    clear hzf
    obtain ⟨t, hte⟩ := as_txt v
    rw [hte, txt_size] at hzt
    have hyt : t.length ≤ 1000000 := by omega
    clear hzt
    have hA := fun w hT => pmove_text l f t hyl hyf hyt w hT
    have hB := fun w hT => rmove_text l f t hyl hyf hyt w hT
    rw [← hle, ← hfe, ← hte] at hA hB
    rcases move_cases l f t with ⟨x, hx, hM⟩ | hno
    · rw [hx] at hA hB
      simp only at hA hB
      have hyx : x.length ≤ 1000000 := by have := hM.len; omega
      have hC := fun w hT => pmove_text x t f hyx hyt hyf w hT
      rw [hM.back] at hC
      simp only at hC
      have hD := fun w hT => pnormal_text l hyl w hT
      have hE := fun w hT => punder_text x t hyx hyt w hT
      rw [hM.und] at hE
      have hF := fun w hT => pdepth_any x hyx w hT
      have hG := fun w hT => pdepth_any t hyt w hT
      have hH := fun w hT => pdepth_any l hyl w hT
      have hI := fun w hT => pdepth_any f hyf w hT
      rw [← hte] at hC hE hG
      rw [← hfe] at hC hI
      rw [← hle] at hD hH
      have hd := hM.deep
      have hd1 := hM.d1
      have hd2 := hM.d2
      have hd3 := hM.d3
      have hd4 := hM.d4
      generalize depthV x = dx at *
      generalize depthV t = dt at *
      generalize depthV l = dl at *
      generalize depthV f = df at *
      generalize txt x = X at *
      generalize txt (normT l).1 = N at *
      generalize (normT l).2 = y at *
      have hbq : (((dx : Int) - (dt : Int)) == ((dl : Int) - (df : Int))) = true := by rw [hd]; simp
      clear hx hM hyx hyl hyf hyt hle hfe hte hd
      go_enter Tryz.func9, Tryz.ntmps9
      go_wp2_with (go_at_call 10; fail)
      refine (awake6_any _ hT).mono ?_
      rintro e w1 ⟨rfl, hb1⟩
      go_wp2_with (go_at_call 11; fail)
      refine (hFew _ (strs6_3 _ _ _ _ _) 3 rfl 3).mono ?_
      rintro e w2 ⟨rfl, rfl⟩
      have hc2 := hb1.trans ((below1 w1 (.cells #[.string s, .string u, .string v] 9)).mono hb1.size)
      clear hFew hb1
      go_wp2_with (go_at_call 31; fail)
      refine (hA _ (hT.below hc2)).mono ?_
      rintro e w3 ⟨rfl, hb3⟩
      have hc3 := hc2.trans (hb3.mono hc2.size)
      clear hb3 hc2
      go_wp2_with (go_at_call 32; fail)
      refine (hB _ (hT.below hc3)).mono ?_
      rintro e w4 ⟨rfl, hb4⟩
      have hc4 := hc3.trans (hb4.mono hc3.size)
      clear hb4 hc3
      go_wp2_with (go_at_call 31; fail)
      refine (hC _ (hT.below hc4)).mono ?_
      rintro e w5 ⟨rfl, hb5⟩
      have hc5 := hc4.trans (hb5.mono hc4.size)
      clear hb5 hc4
      go_wp2_with (go_at_call 14; fail)
      refine (hD _ (hT.below hc5)).mono ?_
      rintro e w6 ⟨rfl, hb6⟩
      have hc6 := hc5.trans (hb6.mono hc5.size)
      clear hb6 hc5
      go_wp2_with (go_at_call 21; fail)
      refine (hE _ (hT.below hc6)).mono ?_
      rintro e w7 ⟨rfl, hb7⟩
      have hc7 := hc6.trans (hb7.mono hc6.size)
      clear hb7 hc6
      go_wp2_with (go_at_call 26; fail)
      refine (hF _ (hT.below hc7)).mono ?_
      rintro e w8 ⟨rfl, hb8⟩
      have hc8 := hc7.trans (hb8.mono hc7.size)
      clear hb8 hc7
      go_wp2_with (go_at_call 26; fail)
      refine (hG _ (hT.below hc8)).mono ?_
      rintro e w9 ⟨rfl, hb9⟩
      have hc9 := hc8.trans (hb9.mono hc8.size)
      clear hb9 hc8
      go_wp2_with (go_at_call 26; fail)
      refine (hH _ (hT.below hc9)).mono ?_
      rintro e w10 ⟨rfl, hb10⟩
      have hc10 := hc9.trans (hb10.mono hc9.size)
      clear hb10 hc9
      go_wp2_with (go_at_call 26; fail)
      refine (hI _ (hT.below hc10)).mono ?_
      rintro e w11 ⟨rfl, hb11⟩
      have hc11 := hc10.trans (hb11.mono hc10.size)
      clear hb11 hc10
      go_wp2
      go_ret
      exact ⟨rfl, hc11⟩
    · generalize txt (moveV l f t).1 = X at *
      generalize (moveV l f t).2 = y at *
      have hno2 : (y != 0) = true := by unfold bne; rw [hno]; rfl
      clear hyl hyf hyt hle hfe hte
      go_enter Tryz.func9, Tryz.ntmps9
      go_wp2_with (go_at_call 10; fail)
      refine (awake6_any _ hT).mono ?_
      rintro e w1 ⟨rfl, hb1⟩
      go_wp2_with (go_at_call 11; fail)
      refine (hFew _ (strs6_3 _ _ _ _ _) 3 rfl 3).mono ?_
      rintro e w2 ⟨rfl, rfl⟩
      have hc2 := hb1.trans ((below1 w1 (.cells #[.string s, .string u, .string v] 9)).mono hb1.size)
      clear hFew hb1
      go_wp2_with (go_at_call 31; fail)
      refine (hA _ (hT.below hc2)).mono ?_
      rintro e w3 ⟨rfl, hb3⟩
      have hc3 := hc2.trans (hb3.mono hc2.size)
      clear hb3 hc2
      go_wp2_with (go_at_call 32; fail)
      refine (hB _ (hT.below hc3)).mono ?_
      rintro e w4 ⟨rfl, hb4⟩
      have hc4 := hc3.trans (hb4.mono hc3.size)
      clear hb4 hc3
      go_wp2
      go_ret
      exact ⟨rfl, hc4⟩

end Go.Proofs.YtkncdohghafeiaaGreatDoor
