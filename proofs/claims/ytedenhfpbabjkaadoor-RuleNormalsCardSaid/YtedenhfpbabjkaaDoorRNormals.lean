/-
  The walk of RuleNormals: whatever the texts, true. By an AI agent.
-/
import Derived.Test.YtedenhfpbabjkaaDoorRTypes
import Derived.Test.YtedenhfpbabjkaaDoorMC
namespace Go.Proofs.YtedenhfpbabjkaaDoor
open Go.RowKit
set_option linter.unusedVariables false

/-- A normal form is its own. -/
theorem norm_own {n v : List UInt8} (h : (norm n v).2 = 0) : norm n (norm n v).1 = ((norm n v).1, 0) := by
  cases road n v with
  | none _ r => rw [r] at h; simp at h
  | name _ r => rw [r] at h; simp at h
  | short _ _ r => rw [r] at h; simp at h
  | long _ _ r => rw [r] at h; simp at h
  | form _ _ _ r => rw [r] at h; simp at h
  | same _ _ _ r => rw [r]; exact r
  | text ht k f r =>
    rw [r]
    simp only
    rw [ht] at f
    obtain ⟨h0, h1⟩ := f.tx rfl
    have hf : Formed 1 (nt v) := ⟨fun _ => ⟨nt_zero v h0, by rw [nt_nt]; exact h1⟩, fun e => (by omega), fun e => (by omega)⟩
    have hl := nt_le v
    have hp := List.length_pos_iff.2 h1
    unfold norm
    rw [ht, if_neg (by omega), if_neg (by omega), if_neg, if_pos rfl, nt_nt]
    rintro (h | h | h)
    · omega
    · omega
    · exact h hf

theorem norm_len (n v : List UInt8) : (norm n v).1.length ≤ 200 := by
  cases road n v with
  | none _ r => rw [r]; simp
  | name _ r => rw [r]; simp
  | short _ _ r => rw [r]; simp
  | long _ _ r => rw [r]; simp
  | form _ _ _ r => rw [r]; simp
  | same _ k _ r => rw [r]; exact k.2
  | text ht k f r => rw [r]; exact Nat.le_trans (nt_le v) k.2

set_option maxRecDepth 100000 in
set_option maxHeartbeats 16000000 in
theorem normals_any (s v : ByteArray) (w : World) (hT : TT w) :
    Calls Tryd.prog 4 #[.string s, .string v] w fun e w' => e = .returned (.bool true) ∧ Below w.heap.size w w' := by
  cases short_or [s, v] with
  | no h =>
    have hFew := fun (w : World) hS N hN c => few_any w.heap.size [s, v] false ⟨fun e => (by cases e), fun hh => absurd hh h⟩ (by simp) (w.alloc (.cells #[.string s, .string v] 9)) hS N hN c
    clear h
    go_enter Tryd.func4, Tryd.ntmps4
    go_wp2_with (go_at_call 6; fail)
    refine (rawake_any _ hT).mono ?_
    rintro e w1 ⟨rfl, hb1⟩
    go_wp2_with (go_at_call 7; fail)
    refine (hFew _ (strs2 _ _ _ _) 2 rfl 2).mono ?_
    rintro e w2 ⟨rfl, rfl⟩
    have hb2 := hb1.trans ((below1 w1 (.cells #[.string s, .string v] 9)).mono hb1.size)
    go_wp2_with (go_at_call 6; fail)
    refine (rawake_any _ (hT.below hb2)).mono ?_
    rintro e w3 ⟨rfl, hb3⟩
    go_wp2
    go_ret
    exact ⟨rfl, hb2.trans (hb3.mono hb2.size)⟩
  | yes h =>
    have hs : s.size ≤ 3000 := h s (by simp)
    have hv : v.size ≤ 3000 := h v (by simp)
    have hFew := fun (w : World) hS N hN c => few_any w.heap.size [s, v] true ⟨fun _ => h, fun _ => rfl⟩ (by simp) (w.alloc (.cells #[.string s, .string v] 9)) hS N hN c
    have hA := fun w hT => normal_any s v (by omega) w hT
    have hR := fun w hT => rnormal_any s v (by omega) (by omega) w hT
    have hX2 : (txt (norm s.data.toList v.data.toList).1).size ≤ 281474976710656 := by
      rw [txt_size]
      have := norm_len s.data.toList v.data.toList
      omega
    have hB := fun w hT => normal_any s (txt (norm s.data.toList v.data.toList).1) hX2 w hT
    simp only [txt_toList] at hB
    by_cases h0 : (norm s.data.toList v.data.toList).2 = 0
    · have ho := norm_own h0
      simp only [ho] at hB
      simp only [h0] at hA hR
      generalize txt (norm s.data.toList v.data.toList).1 = X at *
      clear h h0 ho
      go_enter Tryd.func4, Tryd.ntmps4
      go_wp2_with (go_at_call 6; fail)
      refine (rawake_any _ hT).mono ?_
      rintro e w1 ⟨rfl, hb1⟩
      go_wp2_with (go_at_call 7; fail)
      refine (hFew _ (strs2 _ _ _ _) 2 rfl 2).mono ?_
      rintro e w2 ⟨rfl, rfl⟩
      have hc2 := hb1.trans ((below1 w1 (.cells #[.string s, .string v] 9)).mono hb1.size)
      go_wp2_with (go_at_call 11; fail)
      refine (hA _ (hT.below hc2)).mono ?_
      rintro e w3 ⟨rfl, hb3⟩
      have hc3 := hc2.trans (hb3.mono hc2.size)
      go_wp2_with (go_at_call 12; fail)
      refine (hR _ (hT.below hc3)).mono ?_
      rintro e w4 ⟨rfl, hb4⟩
      have hc4 := hc3.trans (hb4.mono hc3.size)
      go_wp2_with (go_at_call 11; fail)
      refine (hB _ (hT.below hc4)).mono ?_
      rintro e w5 ⟨rfl, hb5⟩
      have hc5 := hc4.trans (hb5.mono hc4.size)
      go_wp2
      go_ret
      exact ⟨rfl, hc5⟩
    · have h0' : ((norm s.data.toList v.data.toList).2 == 0) = false := beq_false_of_ne h0
      generalize (norm s.data.toList v.data.toList).2 = x at *
      generalize txt (norm s.data.toList v.data.toList).1 = X at *
      clear h h0 hB
      go_enter Tryd.func4, Tryd.ntmps4
      go_wp2_with (go_at_call 6; fail)
      refine (rawake_any _ hT).mono ?_
      rintro e w1 ⟨rfl, hb1⟩
      go_wp2_with (go_at_call 7; fail)
      refine (hFew _ (strs2 _ _ _ _) 2 rfl 2).mono ?_
      rintro e w2 ⟨rfl, rfl⟩
      have hc2 := hb1.trans ((below1 w1 (.cells #[.string s, .string v] 9)).mono hb1.size)
      go_wp2_with (go_at_call 11; fail)
      refine (hA _ (hT.below hc2)).mono ?_
      rintro e w3 ⟨rfl, hb3⟩
      have hc3 := hc2.trans (hb3.mono hc2.size)
      go_wp2_with (go_at_call 12; fail)
      refine (hR _ (hT.below hc3)).mono ?_
      rintro e w4 ⟨rfl, hb4⟩
      have hc4 := hc3.trans (hb4.mono hc3.size)
      go_wp2
      go_ret
      exact ⟨rfl, hc4⟩

end Go.Proofs.YtedenhfpbabjkaaDoor
