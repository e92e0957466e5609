/-
  The walk of RuleSame: whatever the texts, true. By an AI agent.
-/
import Derived.Test.YtedenhfpbabjkaaGreatDoorRSame
namespace Go.Proofs.YtedenhfpbabjkaaGreatDoor
open Go.RowKit
set_option linter.unusedVariables false

theorem same_swap {n a b x y x' y' : List UInt8} {f f' : Int} (h : BothIs n a b x y f) (h' : BothIs n b a x' y' f') : (f' == 0 && x' == y') = (f == 0 && x == y) := by
  rcases both_cases h with ⟨e, hx, hy, hn⟩ | ⟨hf, h0, h1, hx, hy⟩
  · rcases both_cases h' with ⟨e', _, _, _⟩ | ⟨_, h0', h1', _, _⟩
    · rw [beq_false_of_ne e, beq_false_of_ne e']; rfl
    · exact absurd ⟨h1', h0'⟩ hn
  · rcases both_cases h' with ⟨e', _, _, hn'⟩ | ⟨hf', h0', h1', hx', hy'⟩
    · exact absurd ⟨h1, h0⟩ hn'
    · subst hf hf' hx hy hx' hy'
      simp only [beq_self_eq_true, Bool.true_and]
      exact Bool.eq_iff_iff.2 (by simp only [beq_iff_eq]; exact ⟨fun e => e.symm, fun e => e.symm⟩)

set_option maxRecDepth 100000 in
set_option maxHeartbeats 16000000 in
theorem laws_same (s a b : ByteArray) (w : World) (hT : TT w) :
    Calls Tryz.prog 3 #[.string s, .string a, .string b] w fun e w' => e = .returned (.bool true) ∧ Below w.heap.size w w' := by
  cases short_or [s, a, b] with
  | no h =>
    have hFew := fun (w : World) hS N hN c => few_any w.heap.size [s, a, b] false ⟨fun e => (by cases e), fun hh => absurd hh h⟩ (by simp) (w.alloc (.cells #[.string s, .string a, .string b] 9)) hS N hN c
    clear h
    go_enter Tryz.func3, Tryz.ntmps3
    go_wp2_with (go_at_call 6; fail)
    refine (rawake_any _ hT).mono ?_
    rintro e w1 ⟨rfl, hb1⟩
    go_wp2_with (go_at_call 7; fail)
    refine (hFew _ (strs3 _ _ _ _ _) 3 rfl 3).mono ?_
    rintro e w2 ⟨rfl, rfl⟩
    have hc2 := hb1.trans ((below1 w1 (.cells #[.string s, .string a, .string b] 9)).mono hb1.size)
    go_wp2_with (go_at_call 6; fail)
    refine (rawake_any _ (hT.below hc2)).mono ?_
    rintro e w3 ⟨rfl, hb3⟩
    go_wp2
    go_ret
    exact ⟨rfl, hc2.trans (hb3.mono hc2.size)⟩
  | yes h =>
    have hs : s.size ≤ 3000 := h s (by simp)
    have hsa : a.size ≤ 3000 := h a (by simp)
    have hsb : b.size ≤ 3000 := h b (by simp)
    have hFew := fun (w : World) hS N hN c => few_any w.heap.size [s, a, b] true ⟨fun _ => h, fun _ => rfl⟩ (by simp) (w.alloc (.cells #[.string s, .string a, .string b] 9)) hS N hN c
    clear h
    obtain ⟨x, y, f, hxy⟩ := both_or s.data.toList a.data.toList b.data.toList
    obtain ⟨x', y', f', hxy'⟩ := both_or s.data.toList b.data.toList a.data.toList
    have hA := fun w hT => same_any s a b (by omega) (by omega) x y f hxy w hT
    have hR := fun w hT => rsame_any s a b (by omega) (by omega) (by omega) x y f hxy w hT
    have hB := fun w hT => same_any s b a (by omega) (by omega) x' y' f' hxy' w hT
    simp only [same_swap hxy hxy'] at hB
    generalize (f == 0 && x == y) = t at *
    clear hxy hxy'
    go_enter Tryz.func3, Tryz.ntmps3
    go_wp2_with (go_at_call 6; fail)
    refine (rawake_any _ hT).mono ?_
    rintro e w1 ⟨rfl, hb1⟩
    go_wp2_with (go_at_call 7; fail)
    refine (hFew _ (strs3 _ _ _ _ _) 3 rfl 3).mono ?_
    rintro e w2 ⟨rfl, rfl⟩
    have hc2 := hb1.trans ((below1 w1 (.cells #[.string s, .string a, .string b] 9)).mono hb1.size)
    go_wp2_with (go_at_call 8; fail)
    refine (hA _ (hT.below hc2)).mono ?_
    rintro e w3 ⟨rfl, hb3⟩
    have hc3 := hc2.trans (hb3.mono hc2.size)
    go_wp2_with (go_at_call 9; fail)
    refine (hR _ (hT.below hc3)).mono ?_
    rintro e w4 ⟨rfl, hb4⟩
    have hc4 := hc3.trans (hb4.mono hc3.size)
    go_wp2_with (go_at_call 8; fail)
    refine (hB _ (hT.below hc4)).mono ?_
    rintro e w5 ⟨rfl, hb5⟩
    have hc5 := hc4.trans (hb5.mono hc4.size)
    go_wp2
    go_ret
    exact ⟨rfl, hc5⟩

end Go.Proofs.YtedenhfpbabjkaaGreatDoor
