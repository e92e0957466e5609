/-
  The walk of RuleTypes: whatever the text, true. By an AI agent.
-/
import Derived.Test.YtedenhfpbabjkaaDoorRFew
namespace Go.Proofs.YtedenhfpbabjkaaDoor
open Go.RowKit
set_option linter.unusedVariables false

theorem strs1 (w : World) (s : ByteArray) (t : TypeId) : Strs (w.alloc (.cells #[.string s] t)) w.heap.size [s] := by
  refine ⟨fun i x hx => ?_⟩
  match i, hx with
  | 0, hx =>
    simp only [List.getElem?_cons_zero, Option.some.injEq] at hx
    subst hx
    rw [World.cell?_alloc_at (hn := by simp)]; rfl

theorem strs2 (w : World) (s u : ByteArray) (t : TypeId) : Strs (w.alloc (.cells #[.string s, .string u] t)) w.heap.size [s, u] := by
  refine ⟨fun i x hx => ?_⟩
  match i, hx with
  | 0, hx =>
    simp only [List.getElem?_cons_zero, Option.some.injEq] at hx
    subst hx
    rw [World.cell?_alloc_at (hn := by simp)]; rfl
  | 1, hx =>
    simp only [List.getElem?_cons_succ, List.getElem?_cons_zero, Option.some.injEq] at hx
    subst hx
    rw [World.cell?_alloc_at (hn := by simp)]; rfl

theorem strs3 (w : World) (s u v : ByteArray) (t : TypeId) : Strs (w.alloc (.cells #[.string s, .string u, .string v] t)) w.heap.size [s, u, v] := by
  refine ⟨fun i x hx => ?_⟩
  match i, hx with
  | 0, hx =>
    simp only [List.getElem?_cons_zero, Option.some.injEq] at hx
    subst hx
    rw [World.cell?_alloc_at (hn := by simp)]; rfl
  | 1, hx =>
    simp only [List.getElem?_cons_succ, List.getElem?_cons_zero, Option.some.injEq] at hx
    subst hx
    rw [World.cell?_alloc_at (hn := by simp)]; rfl
  | 2, hx =>
    simp only [List.getElem?_cons_succ, List.getElem?_cons_zero, Option.some.injEq] at hx
    subst hx
    rw [World.cell?_alloc_at (hn := by simp)]; rfl

/-- The look at the arguments' lengths. -/
inductive Short (L : List ByteArray) : Prop where
  | yes (h : ∀ s ∈ L, s.size ≤ 3000)
  | no (h : ¬ ∀ s ∈ L, s.size ≤ 3000)
theorem short_or (L : List ByteArray) : Short L := by
  by_cases h : ∀ s ∈ L, s.size ≤ 3000
  · exact .yes h
  · exact .no h

set_option maxRecDepth 100000 in
set_option maxHeartbeats 16000000 in
theorem types_any (s : ByteArray) (w : World) (hT : TT w) :
    Calls Tryd.prog 3 #[.string s] w fun e w' => e = .returned (.bool true) ∧ Below w.heap.size w w' := by
  cases short_or [s] with
  | no h =>
    have hFew := fun (w : World) hS N hN c => few_any w.heap.size [s] false ⟨fun e => (by cases e), fun hh => absurd hh h⟩ (by simp) (w.alloc (.cells #[.string s] 9)) hS N hN c
    clear h
    go_enter Tryd.func3, Tryd.ntmps3
    go_wp2_with (go_at_call 6; fail)
    refine (rawake_any _ hT).mono ?_
    rintro e w1 ⟨rfl, hb1⟩
    go_wp2_with (go_at_call 7; fail)
    refine (hFew _ (strs1 _ _ _) 1 rfl 1).mono ?_
    rintro e w2 ⟨rfl, rfl⟩
    have hb2 := hb1.trans ((below1 w1 (.cells #[.string s] 9)).mono hb1.size)
    go_wp2_with (go_at_call 6; fail)
    refine (rawake_any _ (hT.below hb2)).mono ?_
    rintro e w3 ⟨rfl, hb3⟩
    go_wp2
    go_ret
    exact ⟨rfl, hb2.trans (hb3.mono hb2.size)⟩
  | yes h =>
    have hs : s.size ≤ 3000 := h s (by simp)
    have hFew := fun (w : World) hS N hN c => few_any w.heap.size [s] true ⟨fun _ => h, fun _ => rfl⟩ (by simp) (w.alloc (.cells #[.string s] 9)) hS N hN c
    have hA := fun w hT => type_any s w hT
    have hR := fun w => rtype_any s (by omega) w
    have hL := fun w => lower_any s (by omega) w
    have hB := fun w hT => type_any (txt (lows s.data.toList)) w hT
    simp only [txt_toList, typ_lows] at hB
    generalize txt (typ s.data.toList).1 = X at *
    generalize (typ s.data.toList).2 = x at *
    generalize txt (lows s.data.toList) = Y at *
    clear h
    go_enter Tryd.func3, Tryd.ntmps3
    go_wp2_with (go_at_call 6; fail)
    refine (rawake_any _ hT).mono ?_
    rintro e w1 ⟨rfl, hb1⟩
    go_wp2_with (go_at_call 7; fail)
    refine (hFew _ (strs1 _ _ _) 1 rfl 1).mono ?_
    rintro e w2 ⟨rfl, rfl⟩
    have hc2 := hb1.trans ((below1 w1 (.cells #[.string s] 9)).mono hb1.size)
    go_wp2_with (go_at_call 8; fail)
    refine (hA _ (hT.below hc2).types).mono ?_
    rintro e w3 ⟨rfl, hb3⟩
    have hc3 := hc2.trans (hb3.mono hc2.size)
    go_wp2_with (go_at_call 9; fail)
    refine (hR _).mono ?_
    rintro e w4 ⟨rfl, hb4⟩
    have hc4 := hc3.trans (hb4.mono hc3.size)
    go_wp2_with (go_at_call 10; fail)
    refine (hL _).mono ?_
    rintro e w5 ⟨rfl, hb5⟩
    have hc5 := hc4.trans (hb5.mono hc4.size)
    go_wp2_with (go_at_call 8; fail)
    refine (hB _ (hT.below hc5).types).mono ?_
    rintro e w6 ⟨rfl, hb6⟩
    have hc6 := hc5.trans (hb6.mono hc5.size)
    go_wp2
    go_ret
    exact ⟨rfl, hc6⟩

end Go.Proofs.YtedenhfpbabjkaaDoor
