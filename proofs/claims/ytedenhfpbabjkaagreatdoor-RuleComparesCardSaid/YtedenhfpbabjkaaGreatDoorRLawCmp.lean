/-
  The walk of RuleCompares: whatever the texts, true. By an AI agent.
-/
import Derived.Test.YtedenhfpbabjkaaGreatDoorRLawSame
import Derived.Test.YtedenhfpbabjkaaGreatDoorRRCompare
namespace Go.Proofs.YtedenhfpbabjkaaGreatDoor
open Go.RowKit
set_option linter.unusedVariables false

theorem cmp_both {n a b x y : List UInt8} {c f : Int} (h : CmpIs n a b x y c f) : BothIs n a b x y f := by
  cases h with
  | err h _ => exact h
  | int _ h _ _ => exact h
  | plane _ h _ _ _ _ _ _ => exact h
  | text _ h => exact h

theorem cmp_range {n a b x y : List UInt8} {c f : Int} (h : CmpIs n a b x y c f) : -1 ≤ c ∧ c ≤ 1 := by
  cases h with
  | err _ _ => omega
  | int _ _ _ _ => exact cmpI_range _ _
  | plane _ _ _ _ _ _ _ _ => exact cmp3_range _ _ _ _ _ _
  | text _ _ =>
    rw [bytes_cmp]
    split
    · omega
    · split <;> omega

theorem cmp_zero {n a b x y : List UInt8} {c f : Int} (h : CmpIs n a b x y c f) (hf : f = 0) : c = 0 ↔ x = y := by
  cases h with
  | err _ h => exact absurd hf h
  | int _ _ hp hq =>
    rw [cmpI_zero]
    constructor
    · rintro rfl; rw [hp.2, hq.2]
    · rintro rfl; exact isInt_uniq hp hq
  | plane _ _ hp hq hr hs hx hy =>
    rw [cmpQ_zero]
    constructor
    · rintro ⟨rfl, rfl⟩; rw [hx, hy]
    · intro e; rw [hx, hy] at e; exact text_inj hp hq hr hs e
  | text _ _ => exact cb_zero _ _

theorem cmp_swap {n a b x y x' y' : List UInt8} {c f c' f' : Int} (h : CmpIs n a b x y c f) (h' : CmpIs n b a x' y' c' f') : c' = -c := by
  have hb := cmp_both h
  have hb' := cmp_both h'
  rcases both_cases hb with ⟨hf, _, _, hn⟩ | ⟨hf, h0, h1, hx, hy⟩
  · rcases both_cases hb' with ⟨hf', _, _, _⟩ | ⟨_, h0', h1', _, _⟩
    · cases h with
      | err _ _ =>
        cases h' with
        | err _ _ => rfl
        | int _ _ _ _ => exact absurd rfl hf'
        | plane _ _ _ _ _ _ _ _ => exact absurd rfl hf'
        | text _ _ => exact absurd rfl hf'
      | int _ _ _ _ => exact absurd rfl hf
      | plane _ _ _ _ _ _ _ _ => exact absurd rfl hf
      | text _ _ => exact absurd rfl hf
    · exact absurd ⟨h1', h0'⟩ hn
  · rcases both_cases hb' with ⟨_, _, _, hn'⟩ | ⟨hf', _, _, hx', hy'⟩
    · exact absurd ⟨h1, h0⟩ hn'
    · have exy : x' = y := by rw [hx', hy]
      have eyx : y' = x := by rw [hy', hx]
      clear hx hy hx' hy' hb hb'
      cases h with
      | err _ h => exact absurd hf h
      | int ht _ hp hq =>
        cases h' with
        | err _ h => exact absurd hf' h
        | int _ _ hp' hq' =>
          subst exy eyx
          rw [isInt_uniq hp' hq, isInt_uniq hq' hp]
          exact cmpI_neg _ _
        | plane ht' _ _ _ _ _ _ _ => omega
        | text ht' _ => omega
      | plane ht _ hp hq hr hs hx hy =>
        cases h' with
        | err _ h => exact absurd hf' h
        | int ht' _ _ _ => omega
        | plane _ _ hp' hq' hr' hs' hx' hy' =>
          subst exy eyx
          rw [hy] at hx'
          rw [hx] at hy'
          obtain ⟨rfl, rfl⟩ := text_inj hr hs hp' hq' hx'
          obtain ⟨rfl, rfl⟩ := text_inj hp hq hr' hs' hy'
          exact cmpQ_swap _ _ _ _
        | text ht' _ => omega
      | text ht _ =>
        cases h' with
        | err _ h => exact absurd hf' h
        | int ht' _ _ _ => omega
        | plane ht' _ _ _ _ _ _ _ => omega
        | text _ _ =>
          subst exy eyx
          exact cb_swap _ _

set_option maxRecDepth 100000 in
set_option maxHeartbeats 16000000 in
theorem laws_compares (s a b : ByteArray) (w : World) (hT : TT w) :
    Calls Tryz.prog 4 #[.string s, .string a, .string b] w fun e w' => e = .returned (.bool true) ∧ Below w.heap.size w w' := by
  cases short_or [s, a, b] with
  | no h =>
    have hFew := fun (w : World) hS N hN c => few_any w.heap.size [s, a, b] false ⟨fun e => (by cases e), fun hh => absurd hh h⟩ (by simp) (w.alloc (.cells #[.string s, .string a, .string b] 9)) hS N hN c
    clear h
    go_enter Tryz.func4, Tryz.ntmps4
    go_wp2_with (go_at_call 6; fail)
    refine (rawake_any _ hT).mono ?_
    rintro e w1 ⟨rfl, hb1⟩
    go_wp2_with (go_at_call 7; fail)
    refine (hFew _ (strs3 _ _ _ _ _) 3 rfl 3).mono ?_
    rintro e w2 ⟨rfl, rfl⟩
    have hc2 := hb1.trans ((below1 w1 (.cells #[.string s, .string a, .string b] 9)).mono hb1.size)
    go_wp2_with (go_at_call 6; fail)
    refine (rawake_any _ (hT.below hc2)).mono ?_
    rintro e w3 ⟨rfl, hb3⟩
    go_wp2
    go_ret
    exact ⟨rfl, hc2.trans (hb3.mono hc2.size)⟩
  | yes h =>
    have hs : s.size ≤ 3000 := h s (by simp)
    have hsa : a.size ≤ 3000 := h a (by simp)
    have hsb : b.size ≤ 3000 := h b (by simp)
    have hFew := fun (w : World) hS N hN c => few_any w.heap.size [s, a, b] true ⟨fun _ => h, fun _ => rfl⟩ (by simp) (w.alloc (.cells #[.string s, .string a, .string b] 9)) hS N hN c
    clear h
    obtain ⟨x, y, c, f, hc⟩ := cmp_or s.data.toList a.data.toList b.data.toList
    obtain ⟨x', y', c', f', hc'⟩ := cmp_or s.data.toList b.data.toList a.data.toList
    have hA := fun w hT => rcmp_any s a b (by omega) (by omega) x y c f hc w hT
    have hR := fun w hT => rrcmp_any s a b (by omega) (by omega) (by omega) x y c f hc w hT
    have hB := fun w hT => rcmp_any s b a (by omega) (by omega) x' y' c' f' hc' w hT
    have hS := fun w hT => same_any s a b (by omega) (by omega) x y f (cmp_both hc) w hT
    have hrg := cmp_range hc
    have hz := cmp_zero hc
    rw [cmp_swap hc hc'] at hB
    clear hc hc'
    by_cases hf : f = 0
    · subst hf
      have he : ((0 : Int) == 0 && x == y) = (c == 0) := by
        rw [beq_self_eq_true, Bool.true_and]
        exact Bool.eq_iff_iff.2 (by simp only [beq_iff_eq]; exact (hz rfl).symm)
      rw [he] at hS
      clear he hz
      go_enter Tryz.func4, Tryz.ntmps4
      go_wp2_with (go_at_call 6; fail)
      refine (rawake_any _ hT).mono ?_
      rintro e w1 ⟨rfl, hb1⟩
      go_wp2_with (go_at_call 7; fail)
      refine (hFew _ (strs3 _ _ _ _ _) 3 rfl 3).mono ?_
      rintro e w2 ⟨rfl, rfl⟩
      have hc2 := hb1.trans ((below1 w1 (.cells #[.string s, .string a, .string b] 9)).mono hb1.size)
      go_wp2_with (go_at_call 10; fail)
      refine (hA _ (hT.below hc2)).mono ?_
      rintro e w3 ⟨rfl, hb3⟩
      have hc3 := hc2.trans (hb3.mono hc2.size)
      go_wp2_with (go_at_call 11; fail)
      refine (hR _ (hT.below hc3)).mono ?_
      rintro e w4 ⟨rfl, hb4⟩
      have hc4 := hc3.trans (hb4.mono hc3.size)
      go_wp2_with (go_at_call 10; fail)
      refine (hB _ (hT.below hc4)).mono ?_
      rintro e w5 ⟨rfl, hb5⟩
      have hc5 := hc4.trans (hb5.mono hc4.size)
      go_wp2_with (go_at_call 8; fail)
      refine (hS _ (hT.below hc5)).mono ?_
      rintro e w6 ⟨rfl, hb6⟩
      have hc6 := hc5.trans (hb6.mono hc5.size)
      go_wp2
      go_ret
      exact ⟨rfl, hc6⟩
    · have hf0 : (f == 0) = false := beq_false_of_ne hf
      generalize (f == 0 && x == y) = t at *
      clear hz
      go_enter Tryz.func4, Tryz.ntmps4
      go_wp2_with (go_at_call 6; fail)
      refine (rawake_any _ hT).mono ?_
      rintro e w1 ⟨rfl, hb1⟩
      go_wp2_with (go_at_call 7; fail)
      refine (hFew _ (strs3 _ _ _ _ _) 3 rfl 3).mono ?_
      rintro e w2 ⟨rfl, rfl⟩
      have hc2 := hb1.trans ((below1 w1 (.cells #[.string s, .string a, .string b] 9)).mono hb1.size)
      go_wp2_with (go_at_call 10; fail)
      refine (hA _ (hT.below hc2)).mono ?_
      rintro e w3 ⟨rfl, hb3⟩
      have hc3 := hc2.trans (hb3.mono hc2.size)
      go_wp2_with (go_at_call 11; fail)
      refine (hR _ (hT.below hc3)).mono ?_
      rintro e w4 ⟨rfl, hb4⟩
      have hc4 := hc3.trans (hb4.mono hc3.size)
      go_wp2_with (go_at_call 10; fail)
      refine (hB _ (hT.below hc4)).mono ?_
      rintro e w5 ⟨rfl, hb5⟩
      have hc5 := hc4.trans (hb5.mono hc4.size)
      go_wp2_with (go_at_call 8; fail)
      refine (hS _ (hT.below hc5)).mono ?_
      rintro e w6 ⟨rfl, hb6⟩
      have hc6 := hc5.trans (hb6.mono hc5.size)
      go_wp2
      go_ret
      exact ⟨rfl, hc6⟩

end Go.Proofs.YtedenhfpbabjkaaGreatDoor
