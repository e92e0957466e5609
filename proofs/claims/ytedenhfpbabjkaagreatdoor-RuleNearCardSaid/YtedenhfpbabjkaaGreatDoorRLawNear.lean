/-
  The walk of RuleNear: whatever the texts, true. By an AI agent.
-/
import Derived.Test.YtedenhfpbabjkaaGreatDoorRLawSame
import Derived.Test.YtedenhfpbabjkaaGreatDoorRNear
namespace Go.Proofs.YtedenhfpbabjkaaGreatDoor
open Go.RowKit
set_option linter.unusedVariables false

set_option maxRecDepth 100000 in
set_option maxHeartbeats 16000000 in
theorem laws_near (s a b : ByteArray) (w : World) (hT : TT w) (hM : Mx w) :
    Calls Tryz.prog 5 #[.string s, .string a, .string b] w fun e w' => e = .returned (.bool true) ∧ Below w.heap.size w w' := by
  cases short_or [s, a, b] with
  | no h =>
    have hFew := fun (w : World) hS N hN c => few_any w.heap.size [s, a, b] false ⟨fun e => (by cases e), fun hh => absurd hh h⟩ (by simp) (w.alloc (.cells #[.string s, .string a, .string b] 9)) hS N hN c
    clear h
    go_enter Tryz.func5, Tryz.ntmps5
    go_wp2_with (go_at_call 6; fail)
    refine (rawake_any _ hT).mono ?_
    rintro e w1 ⟨rfl, hb1⟩
    go_wp2_with (go_at_call 7; fail)
    refine (hFew _ (strs3 _ _ _ _ _) 3 rfl 3).mono ?_
    rintro e w2 ⟨rfl, rfl⟩
    have hc2 := hb1.trans ((below1 w1 (.cells #[.string s, .string a, .string b] 9)).mono hb1.size)
    go_wp2_with (go_at_call 6; fail)
    refine (rawake_any _ (hT.below hc2)).mono ?_
    rintro e w3 ⟨rfl, hb3⟩
    go_wp2
    go_ret
    exact ⟨rfl, hc2.trans (hb3.mono hc2.size)⟩
  | yes h =>
    have hs : s.size ≤ 3000 := h s (by simp)
    have hsa : a.size ≤ 3000 := h a (by simp)
    have hsb : b.size ≤ 3000 := h b (by simp)
    have hFew := fun (w : World) hS N hN c => few_any w.heap.size [s, a, b] true ⟨fun _ => h, fun _ => rfl⟩ (by simp) (w.alloc (.cells #[.string s, .string a, .string b] 9)) hS N hN c
    clear h
    obtain ⟨x, y, t, f, hc⟩ := near_or s.data.toList a.data.toList b.data.toList
    have hA := fun w hT hM => rnear_any s a b (by omega) (by omega) x y t f hc w hT hM
    have hR := fun w hT hM => rrnear_any s a b (by omega) (by omega) (by omega) x y t f hc w hT hM
    have hS := fun w hT => same_any s a b (by omega) (by omega) x y f (near_both hc) w hT
    have hz := near_same hc
    clear hc
    by_cases hf : f = 0
    · subst hf
      by_cases hxy : x = y
      · obtain rfl := hz rfl hxy
        have he : ((0 : Int) == 0 && x == y) = true := by simp [hxy]
        rw [he] at hS
        clear he hz hxy
        go_enter Tryz.func5, Tryz.ntmps5
        go_wp2_with (go_at_call 6; fail)
        refine (rawake_any _ hT).mono ?_
        rintro e w1 ⟨rfl, hb1⟩
        go_wp2_with (go_at_call 7; fail)
        refine (hFew _ (strs3 _ _ _ _ _) 3 rfl 3).mono ?_
        rintro e w2 ⟨rfl, rfl⟩
        have hc2 := hb1.trans ((below1 w1 (.cells #[.string s, .string a, .string b] 9)).mono hb1.size)
        go_wp2_with (go_at_call 12; fail)
        refine (hA _ (hT.below hc2) (hM.below hc2)).mono ?_
        rintro e w3 ⟨rfl, hb3⟩
        have hc3 := hc2.trans (hb3.mono hc2.size)
        go_wp2_with (go_at_call 13; fail)
        refine (hR _ (hT.below hc3) (hM.below hc3)).mono ?_
        rintro e w4 ⟨rfl, hb4⟩
        have hc4 := hc3.trans (hb4.mono hc3.size)
        go_wp2_with (go_at_call 8; fail)
        refine (hS _ (hT.below hc4)).mono ?_
        rintro e w5 ⟨rfl, hb5⟩
        have hc5 := hc4.trans (hb5.mono hc4.size)
        go_wp2
        go_ret
        exact ⟨rfl, hc5⟩
      · have he : ((0 : Int) == 0 && x == y) = false := by simp [hxy]
        rw [he] at hS
        clear he hz hxy
        go_enter Tryz.func5, Tryz.ntmps5
        go_wp2_with (go_at_call 6; fail)
        refine (rawake_any _ hT).mono ?_
        rintro e w1 ⟨rfl, hb1⟩
        go_wp2_with (go_at_call 7; fail)
        refine (hFew _ (strs3 _ _ _ _ _) 3 rfl 3).mono ?_
        rintro e w2 ⟨rfl, rfl⟩
        have hc2 := hb1.trans ((below1 w1 (.cells #[.string s, .string a, .string b] 9)).mono hb1.size)
        go_wp2_with (go_at_call 12; fail)
        refine (hA _ (hT.below hc2) (hM.below hc2)).mono ?_
        rintro e w3 ⟨rfl, hb3⟩
        have hc3 := hc2.trans (hb3.mono hc2.size)
        go_wp2_with (go_at_call 13; fail)
        refine (hR _ (hT.below hc3) (hM.below hc3)).mono ?_
        rintro e w4 ⟨rfl, hb4⟩
        have hc4 := hc3.trans (hb4.mono hc3.size)
        go_wp2_with (go_at_call 8; fail)
        refine (hS _ (hT.below hc4)).mono ?_
        rintro e w5 ⟨rfl, hb5⟩
        have hc5 := hc4.trans (hb5.mono hc4.size)
        go_wp2
        go_ret
        exact ⟨rfl, hc5⟩
    · have hf0 : (f == 0) = false := beq_false_of_ne hf
      generalize (f == 0 && x == y) = u at *
      clear hz
      go_enter Tryz.func5, Tryz.ntmps5
      go_wp2_with (go_at_call 6; fail)
      refine (rawake_any _ hT).mono ?_
      rintro e w1 ⟨rfl, hb1⟩
      go_wp2_with (go_at_call 7; fail)
      refine (hFew _ (strs3 _ _ _ _ _) 3 rfl 3).mono ?_
      rintro e w2 ⟨rfl, rfl⟩
      have hc2 := hb1.trans ((below1 w1 (.cells #[.string s, .string a, .string b] 9)).mono hb1.size)
      go_wp2_with (go_at_call 12; fail)
      refine (hA _ (hT.below hc2) (hM.below hc2)).mono ?_
      rintro e w3 ⟨rfl, hb3⟩
      have hc3 := hc2.trans (hb3.mono hc2.size)
      go_wp2_with (go_at_call 13; fail)
      refine (hR _ (hT.below hc3) (hM.below hc3)).mono ?_
      rintro e w4 ⟨rfl, hb4⟩
      have hc4 := hc3.trans (hb4.mono hc3.size)
      go_wp2_with (go_at_call 8; fail)
      refine (hS _ (hT.below hc4)).mono ?_
      rintro e w5 ⟨rfl, hb5⟩
      have hc5 := hc4.trans (hb5.mono hc4.size)
      go_wp2
      go_ret
      exact ⟨rfl, hc5⟩

end Go.Proofs.YtedenhfpbabjkaaGreatDoor
