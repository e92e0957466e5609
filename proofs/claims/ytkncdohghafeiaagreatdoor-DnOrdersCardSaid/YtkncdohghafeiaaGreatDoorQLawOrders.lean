/-
  The walk of DnOrders: whatever the texts, true. By an AI agent.
-/
import Derived.Test.YtkncdohghafeiaaGreatDoorQFew
namespace Go.Proofs.YtkncdohghafeiaaGreatDoor
open Go.RowKit
set_option linter.unusedVariables false

set_option maxRecDepth 100000 in
set_option maxHeartbeats 64000000 in
theorem orders_law (s u v : ByteArray) (w : World) (hT : TM w) :
    Calls Tryz.prog 6 #[.string s, .string u, .string v] w fun e w' => e = .returned (.bool true) ∧ Below w.heap.size w w' := by
  cases short6_or [s, u, v] with
  | no h =>
    have hFew := fun (w : World) hS N hN c => few6_any w.heap.size [s, u, v] false ⟨fun e => (by cases e), fun hh => absurd hh h⟩ (by simp) (w.alloc (.cells #[.string s, .string u, .string v] 9)) hS N hN c
    clear h
    go_enter Tryz.func6, Tryz.ntmps6
    go_wp2_with (go_at_call 10; fail)
    refine (awake6_any _ hT).mono ?_
    rintro e w1 ⟨rfl, hb1⟩
    go_wp2_with (go_at_call 11; fail)
    refine (hFew _ (strs6_3 _ _ _ _ _) 3 rfl 3).mono ?_
    rintro e w2 ⟨rfl, rfl⟩
    have hc2 := hb1.trans ((below1 w1 (.cells #[.string s, .string u, .string v] 9)).mono hb1.size)
    clear hFew hb1
    go_wp2_with (go_at_call 10; fail)
    refine (awake6_any _ (hT.below hc2)).mono ?_
    rintro e w3 ⟨rfl, hb3⟩
    have hc3 := hc2.trans (hb3.mono hc2.size)
    clear hb3 hc2
    go_wp2
    go_ret
    exact ⟨rfl, hc3⟩
  | yes h =>
    have hFew := fun (w : World) hS N hN c => few6_any w.heap.size [s, u, v] true ⟨fun _ => h, fun _ => rfl⟩ (by simp) (w.alloc (.cells #[.string s, .string u, .string v] 9)) hS N hN c
    have hzl : s.size ≤ 3000 := h s (by simp)
    have hzm : u.size ≤ 3000 := h u (by simp)
    have hzn : v.size ≤ 3000 := h v (by simp)
    clear h
    obtain ⟨l, hle⟩ := as_txt s
    rw [hle, txt_size] at hzl
    have hyl : l.length ≤ 1000000 := by omega
    clear hzl
    obtain ⟨m, hme⟩ := as_txt u
    rw [hme, txt_size] at hzm
    have hym : m.length ≤ 1000000 := by omega
    clear hzm
    obtain ⟨n, hne⟩ := as_txt v
    rw [hne, txt_size] at hzn
    have hyn : n.length ≤ 1000000 := by omega
    clear hzn
    have hA := fun w hT => pcompare_text l m hyl hym w hT
    have hB := fun w hT => pcompare_text m n hym hyn w hT
    have hC := fun w hT => pcompare_text l n hyl hyn w hT
    have hD := fun w hT => pnormal_text l hyl w hT
    have hE := fun w hT => pnormal_text m hym w hT
    have hF := fun w hT => pnormal_text n hyn w hT
    have hG := fun w hT => rcompare_text l m hyl hym w hT
    have hH := fun w hT => pcompare_text m l hym hyl w hT
    have hI := fun w hT => punder_text l m hyl hym w hT
    rw [comp_neg l m] at hH
    rw [← hle] at hA hC hD hG hH hI
    rw [← hme] at hA hB hE hG hH hI
    rw [← hne] at hB hC hF
    have hth := comp_thru l m n
    have hvx := comp_vals l m
    have hvy := comp_vals m n
    have hvz := comp_vals l n
    have hun : underV l m = true → 0 ≤ compV l m := fun h => comp_und h
    generalize compV l m = x at *
    generalize compV m n = y at *
    generalize compV l n = z at *
    generalize underV l m = q at *
    generalize txt (normT l).1 = N1 at *
    generalize (normT l).2 = y1 at *
    generalize txt (normT m).1 = N2 at *
    generalize (normT m).2 = y2 at *
    generalize txt (normT n).1 = N3 at *
    generalize (normT n).2 = y3 at *
    have HTh := hide hth
    have HUn := hide hun
    have HX := hide hvx
    have HY := hide hvy
    have HZ := hide hvz
    clear hth hun hvx hvy hvz hyl hym hyn hle hme hne
    go_enter Tryz.func6, Tryz.ntmps6
    go_wp2_with (go_at_call 10; fail)
    refine (awake6_any _ hT).mono ?_
    rintro e w1 ⟨rfl, hb1⟩
    go_wp2_with (go_at_call 11; fail)
    refine (hFew _ (strs6_3 _ _ _ _ _) 3 rfl 3).mono ?_
    rintro e w2 ⟨rfl, rfl⟩
    have hc2 := hb1.trans ((below1 w1 (.cells #[.string s, .string u, .string v] 9)).mono hb1.size)
    clear hFew hb1
    go_wp2_with (go_at_call 22; fail)
    refine (hA _ (hT.below hc2)).mono ?_
    rintro e w3 ⟨rfl, hb3⟩
    have hc3 := hc2.trans (hb3.mono hc2.size)
    clear hb3 hc2
    go_wp2_with (go_at_call 22; fail)
    refine (hB _ (hT.below hc3)).mono ?_
    rintro e w4 ⟨rfl, hb4⟩
    have hc4 := hc3.trans (hb4.mono hc3.size)
    clear hb4 hc3
    go_wp2_with (go_at_call 22; fail)
    refine (hC _ (hT.below hc4)).mono ?_
    rintro e w5 ⟨rfl, hb5⟩
    have hc5 := hc4.trans (hb5.mono hc4.size)
    clear hb5 hc4
    go_wp2_with (go_at_call 14; fail)
    refine (hD _ (hT.below hc5)).mono ?_
    rintro e w6 ⟨rfl, hb6⟩
    have hc6 := hc5.trans (hb6.mono hc5.size)
    clear hb6 hc5
    go_wp2_with (go_at_call 14; fail)
    refine (hE _ (hT.below hc6)).mono ?_
    rintro e w7 ⟨rfl, hb7⟩
    have hc7 := hc6.trans (hb7.mono hc6.size)
    clear hb7 hc6
    go_wp2_with (go_at_call 14; fail)
    refine (hF _ (hT.below hc7)).mono ?_
    rintro e w8 ⟨rfl, hb8⟩
    have hc8 := hc7.trans (hb8.mono hc7.size)
    clear hb8 hc7
    rcases HTh.out with h1 | ⟨h1, h2⟩ | ⟨h1, h2, h3⟩ | ⟨h1, h2, h3, h4 | ⟨h4, h5⟩ | ⟨h4, h5, h6⟩⟩
    · have h1n : (y1 != 0) = true := by unfold bne; rw [h1]; rfl
      go_wp2_with (go_at_call 23; fail)
      refine (hG _ (hT.below hc8)).mono ?_
      rintro e w9 ⟨rfl, hb9⟩
      have hc9 := hc8.trans (hb9.mono hc8.size)
      clear hb9 hc8
      go_wp2_with (go_at_call 22; fail)
      refine (hH _ (hT.below hc9)).mono ?_
      rintro e w10 ⟨rfl, hb10⟩
      have hc10 := hc9.trans (hb10.mono hc9.size)
      clear hb10 hc9
      clear HTh HY HZ hA hB hC hD hE hF hG hH
      cases q with
      | false =>
        rcases HX.out with rfl | rfl | rfl
        all_goals
          clear HUn HX
          go_wp2_with (go_at_call 21; fail)
          refine (hI _ (hT.below hc10)).mono ?_
          rintro e w11 ⟨rfl, hb11⟩
          have hc11 := hc10.trans (hb11.mono hc10.size)
          clear hb11 hc10
          go_wp2
          go_ret
          exact ⟨rfl, hc11⟩
      | true =>
        have hx0 := HUn.out rfl
        rcases HX.out with rfl | rfl | rfl
        · exact absurd hx0 (by omega)
        all_goals
          clear HUn HX hx0
          go_wp2_with (go_at_call 21; fail)
          refine (hI _ (hT.below hc10)).mono ?_
          rintro e w11 ⟨rfl, hb11⟩
          have hc11 := hc10.trans (hb11.mono hc10.size)
          clear hb11 hc10
          go_wp2
          go_ret
          exact ⟨rfl, hc11⟩
    · have h1n : (y1 != 0) = false := by unfold bne; rw [h1]; rfl
      have h2n : (y2 != 0) = true := by unfold bne; rw [h2]; rfl
      go_wp2_with (go_at_call 23; fail)
      refine (hG _ (hT.below hc8)).mono ?_
      rintro e w9 ⟨rfl, hb9⟩
      have hc9 := hc8.trans (hb9.mono hc8.size)
      clear hb9 hc8
      go_wp2_with (go_at_call 22; fail)
      refine (hH _ (hT.below hc9)).mono ?_
      rintro e w10 ⟨rfl, hb10⟩
      have hc10 := hc9.trans (hb10.mono hc9.size)
      clear hb10 hc9
      clear HTh HY HZ hA hB hC hD hE hF hG hH
      cases q with
      | false =>
        rcases HX.out with rfl | rfl | rfl
        all_goals
          clear HUn HX
          go_wp2_with (go_at_call 21; fail)
          refine (hI _ (hT.below hc10)).mono ?_
          rintro e w11 ⟨rfl, hb11⟩
          have hc11 := hc10.trans (hb11.mono hc10.size)
          clear hb11 hc10
          go_wp2
          go_ret
          exact ⟨rfl, hc11⟩
      | true =>
        have hx0 := HUn.out rfl
        rcases HX.out with rfl | rfl | rfl
        · exact absurd hx0 (by omega)
        all_goals
          clear HUn HX hx0
          go_wp2_with (go_at_call 21; fail)
          refine (hI _ (hT.below hc10)).mono ?_
          rintro e w11 ⟨rfl, hb11⟩
          have hc11 := hc10.trans (hb11.mono hc10.size)
          clear hb11 hc10
          go_wp2
          go_ret
          exact ⟨rfl, hc11⟩
    · have h1n : (y1 != 0) = false := by unfold bne; rw [h1]; rfl
      have h2n : (y2 != 0) = false := by unfold bne; rw [h2]; rfl
      have h3n : (y3 != 0) = true := by unfold bne; rw [h3]; rfl
      go_wp2_with (go_at_call 23; fail)
      refine (hG _ (hT.below hc8)).mono ?_
      rintro e w9 ⟨rfl, hb9⟩
      have hc9 := hc8.trans (hb9.mono hc8.size)
      clear hb9 hc8
      go_wp2_with (go_at_call 22; fail)
      refine (hH _ (hT.below hc9)).mono ?_
      rintro e w10 ⟨rfl, hb10⟩
      have hc10 := hc9.trans (hb10.mono hc9.size)
      clear hb10 hc9
      clear HTh HY HZ hA hB hC hD hE hF hG hH
      cases q with
      | false =>
        rcases HX.out with rfl | rfl | rfl
        all_goals
          clear HUn HX
          go_wp2_with (go_at_call 21; fail)
          refine (hI _ (hT.below hc10)).mono ?_
          rintro e w11 ⟨rfl, hb11⟩
          have hc11 := hc10.trans (hb11.mono hc10.size)
          clear hb11 hc10
          go_wp2
          go_ret
          exact ⟨rfl, hc11⟩
      | true =>
        have hx0 := HUn.out rfl
        rcases HX.out with rfl | rfl | rfl
        · exact absurd hx0 (by omega)
        all_goals
          clear HUn HX hx0
          go_wp2_with (go_at_call 21; fail)
          refine (hI _ (hT.below hc10)).mono ?_
          rintro e w11 ⟨rfl, hb11⟩
          have hc11 := hc10.trans (hb11.mono hc10.size)
          clear hb11 hc10
          go_wp2
          go_ret
          exact ⟨rfl, hc11⟩
    · have h1n : (y1 != 0) = false := by unfold bne; rw [h1]; rfl
      have h2n : (y2 != 0) = false := by unfold bne; rw [h2]; rfl
      have h3n : (y3 != 0) = false := by unfold bne; rw [h3]; rfl
      go_wp2_with (go_at_call 23; fail)
      refine (hG _ (hT.below hc8)).mono ?_
      rintro e w9 ⟨rfl, hb9⟩
      have hc9 := hc8.trans (hb9.mono hc8.size)
      clear hb9 hc8
      go_wp2_with (go_at_call 22; fail)
      refine (hH _ (hT.below hc9)).mono ?_
      rintro e w10 ⟨rfl, hb10⟩
      have hc10 := hc9.trans (hb10.mono hc9.size)
      clear hb10 hc9
      clear HTh HY HZ hA hB hC hD hE hF hG hH
      cases q with
      | false =>
        rcases HX.out with rfl | rfl | rfl
        all_goals
          clear HUn HX
          go_wp2_with (go_at_call 21; fail)
          refine (hI _ (hT.below hc10)).mono ?_
          rintro e w11 ⟨rfl, hb11⟩
          have hc11 := hc10.trans (hb11.mono hc10.size)
          clear hb11 hc10
          go_wp2
          go_ret
          exact ⟨rfl, hc11⟩
      | true =>
        have hx0 := HUn.out rfl
        rcases HX.out with rfl | rfl | rfl
        · exact absurd hx0 (by omega)
        all_goals
          clear HUn HX hx0
          go_wp2_with (go_at_call 21; fail)
          refine (hI _ (hT.below hc10)).mono ?_
          rintro e w11 ⟨rfl, hb11⟩
          have hc11 := hc10.trans (hb11.mono hc10.size)
          clear hb11 hc10
          go_wp2
          go_ret
          exact ⟨rfl, hc11⟩
    · have h1n : (y1 != 0) = false := by unfold bne; rw [h1]; rfl
      have h2n : (y2 != 0) = false := by unfold bne; rw [h2]; rfl
      have h3n : (y3 != 0) = false := by unfold bne; rw [h3]; rfl
      go_wp2_with (go_at_call 23; fail)
      refine (hG _ (hT.below hc8)).mono ?_
      rintro e w9 ⟨rfl, hb9⟩
      have hc9 := hc8.trans (hb9.mono hc8.size)
      clear hb9 hc8
      go_wp2_with (go_at_call 22; fail)
      refine (hH _ (hT.below hc9)).mono ?_
      rintro e w10 ⟨rfl, hb10⟩
      have hc10 := hc9.trans (hb10.mono hc9.size)
      clear hb10 hc9
      clear HTh HY HZ hA hB hC hD hE hF hG hH
      cases q with
      | false =>
        rcases HX.out with rfl | rfl | rfl
        all_goals
          clear HUn HX
          go_wp2_with (go_at_call 21; fail)
          refine (hI _ (hT.below hc10)).mono ?_
          rintro e w11 ⟨rfl, hb11⟩
          have hc11 := hc10.trans (hb11.mono hc10.size)
          clear hb11 hc10
          go_wp2
          go_ret
          exact ⟨rfl, hc11⟩
      | true =>
        have hx0 := HUn.out rfl
        rcases HX.out with rfl | rfl | rfl
        · exact absurd hx0 (by omega)
        all_goals
          clear HUn HX hx0
          go_wp2_with (go_at_call 21; fail)
          refine (hI _ (hT.below hc10)).mono ?_
          rintro e w11 ⟨rfl, hb11⟩
          have hc11 := hc10.trans (hb11.mono hc10.size)
          clear hb11 hc10
          go_wp2
          go_ret
          exact ⟨rfl, hc11⟩
    · have h1n : (y1 != 0) = false := by unfold bne; rw [h1]; rfl
      have h2n : (y2 != 0) = false := by unfold bne; rw [h2]; rfl
      have h3n : (y3 != 0) = false := by unfold bne; rw [h3]; rfl
      go_wp2_with (go_at_call 23; fail)
      refine (hG _ (hT.below hc8)).mono ?_
      rintro e w9 ⟨rfl, hb9⟩
      have hc9 := hc8.trans (hb9.mono hc8.size)
      clear hb9 hc8
      go_wp2_with (go_at_call 22; fail)
      refine (hH _ (hT.below hc9)).mono ?_
      rintro e w10 ⟨rfl, hb10⟩
      have hc10 := hc9.trans (hb10.mono hc9.size)
      clear hb10 hc9
      clear HTh HY HZ hA hB hC hD hE hF hG hH
      cases q with
      | false =>
        rcases HX.out with rfl | rfl | rfl
        all_goals
          clear HUn HX
          go_wp2_with (go_at_call 21; fail)
          refine (hI _ (hT.below hc10)).mono ?_
          rintro e w11 ⟨rfl, hb11⟩
          have hc11 := hc10.trans (hb11.mono hc10.size)
          clear hb11 hc10
          go_wp2
          go_ret
          exact ⟨rfl, hc11⟩
      | true =>
        have hx0 := HUn.out rfl
        rcases HX.out with rfl | rfl | rfl
        · exact absurd hx0 (by omega)
        all_goals
          clear HUn HX hx0
          go_wp2_with (go_at_call 21; fail)
          refine (hI _ (hT.below hc10)).mono ?_
          rintro e w11 ⟨rfl, hb11⟩
          have hc11 := hc10.trans (hb11.mono hc10.size)
          clear hb11 hc10
          go_wp2
          go_ret
          exact ⟨rfl, hc11⟩

end Go.Proofs.YtkncdohghafeiaaGreatDoor
