/-
  The walk of RuleIntegers: whatever the integers, true. By an AI agent.
-/
import Derived.Test.YtedenhfpbabjkaaDoorRDigits
namespace Go.Proofs.YtedenhfpbabjkaaDoor
open Go.RowKit
set_option linter.unusedVariables false

def serial : List UInt8 := [115, 101, 114, 105, 97, 108, 78, 117, 109, 98, 101, 114]
theorem typ_serial : (typ serial).2 = 3 := by decide

theorem itoa_len19 {p : Int} (h0 : -999999999999999999 ≤ p) (h1 : p ≤ 999999999999999999) : 1 ≤ (Lib.itoa p).length ∧ (Lib.itoa p).length ≤ 200 := by
  have h2 := Lib.itoa_length_le p (by omega) (by omega)
  refine ⟨?_, by omega⟩
  have := itoa_ne p
  exact List.length_pos_iff.2 this.1

theorem norm_int {p : Int} (h0 : -999999999999999999 ≤ p) (h1 : p ≤ 999999999999999999) : norm serial (Lib.itoa p) = (Lib.itoa p, 0) := by
  have hl := itoa_len19 h0 h1
  have hf : Formed 3 (Lib.itoa p) := ⟨fun e => (by omega), fun _ => ⟨p, ⟨h0, h1⟩, rfl⟩, fun e => (by omega)⟩
  unfold norm
  rw [typ_serial, if_neg (by omega), if_neg (by omega), if_neg, if_neg (by omega)]
  rintro (h | h | h)
  · omega
  · omega
  · exact h hf

theorem cmp_int_is {p q : Int} (hp0 : -999999999999999999 ≤ p) (hp1 : p ≤ 999999999999999999) (hq0 : -999999999999999999 ≤ q) (hq1 : q ≤ 999999999999999999) :
    CmpIs serial (Lib.itoa p) (Lib.itoa q) (Lib.itoa p) (Lib.itoa q) (cmpI p q) 0 := by
  have e1 := norm_int hp0 hp1
  have e2 := norm_int hq0 hq1
  have hB : BothIs serial (Lib.itoa p) (Lib.itoa q) (norm serial (Lib.itoa p)).1 (norm serial (Lib.itoa q)).1 0 := .ok (by rw [e1]) (by rw [e2])
  rw [e1, e2] at hB
  exact .int typ_serial hB ⟨⟨hp0, hp1⟩, rfl⟩ ⟨⟨hq0, hq1⟩, rfl⟩

theorem tmod_in (x : Int) : -999999999999999999 ≤ x.tmod 1000000000000000000 ∧ x.tmod 1000000000000000000 ≤ 999999999999999999 := by
  have h1 := Int.tmod_lt_of_pos x (show (0 : Int) < 1000000000000000000 by omega)
  have h2 := Int.lt_tmod_of_pos x (show (0 : Int) < 1000000000000000000 by omega)
  omega

theorem i64_b {x : Int} (h : (Lit.int .i64 x).wf = true) : -9223372036854775808 ≤ x ∧ x ≤ 9223372036854775807 := by
  have e1 : IntKind.min .i64 = -9223372036854775808 := rfl
  have e2 : IntKind.max .i64 = 9223372036854775807 := rfl
  simpa [Lit.wf, e1, e2] using h

set_option maxRecDepth 100000 in
set_option maxHeartbeats 16000000 in
theorem integers_any (a b : Int) (ha : -9223372036854775808 ≤ a ∧ a ≤ 9223372036854775807) (hb : -9223372036854775808 ≤ b ∧ b ≤ 9223372036854775807) (w : World) (hT : TT w) :
    Calls Tryd.prog 5 #[.int .i64 a, .int .i64 b] w fun e w' => e = .returned (.bool true) ∧ Below w.heap.size w w' := by
  have hp := tmod_in a
  have hq := tmod_in b
  generalize hP : a.tmod 1000000000000000000 = p at *
  generalize hQ : b.tmod 1000000000000000000 = q at *
  have hc := cmp_int_is hp.1 hp.2 hq.1 hq.2
  have hD := fun w => digits_any p hp.1 hp.2 w
  have hE := fun w => digits_any q hq.1 hq.2 w
  have l1 := itoa_len19 hp.1 hp.2
  have l2 := itoa_len19 hq.1 hq.2
  have hC := fun w hT => rcmp_any ⟨#[115, 101, 114, 105, 97, 108, 78, 117, 109, 98, 101, 114]⟩ (txt (Lib.itoa p)) (txt (Lib.itoa q)) (by rw [txt_size]; omega) (by rw [txt_size]; omega) _ _ _ _ (by rw [txt_toList, txt_toList]; exact hc) w hT
  generalize txt (Lib.itoa p) = X at *
  generalize txt (Lib.itoa q) = Y at *
  have hcmp : cmpI p q = if p < q then -1 else if q < p then 1 else 0 := rfl
  generalize cmpI p q = C at *
  have hcases : (p < q ∧ C = -1) ∨ (¬ p < q ∧ q < p ∧ C = 1) ∨ (¬ p < q ∧ ¬ q < p ∧ C = 0) := by
    rw [hcmp]
    by_cases h1 : p < q
    · exact Or.inl ⟨h1, by rw [if_pos h1]⟩
    · by_cases h2 : q < p
      · exact Or.inr (Or.inl ⟨h1, h2, by rw [if_neg h1, if_pos h2]⟩)
      · exact Or.inr (Or.inr ⟨h1, h2, by rw [if_neg h1, if_neg h2]⟩)
  clear hc l1 l2 hcmp
  rcases hcases with ⟨hlt, rfl⟩ | ⟨hlt, hgt, rfl⟩ | ⟨hlt, hgt, rfl⟩
  · go_enter Tryd.func5, Tryd.ntmps5
    go_wp2_with (go_at_call 6; fail)
    refine (rawake_any _ hT).mono ?_
    rintro e w1 ⟨rfl, hb1⟩
    go_wp2_with (go_at_call 14; fail)
    refine (hD _).mono ?_
    rintro e w2 ⟨rfl, hb2⟩
    have hc2 := hb1.trans (hb2.mono hb1.size)
    go_wp2_with (go_at_call 14; fail)
    refine (hE _).mono ?_
    rintro e w3 ⟨rfl, hb3⟩
    have hc3 := hc2.trans (hb3.mono hc2.size)
    go_wp2_with (go_at_call 13; fail)
    refine (hC _ (hT.below hc3)).mono ?_
    rintro e w4 ⟨rfl, hb4⟩
    have hc4 := hc3.trans (hb4.mono hc3.size)
    go_wp2
    go_ret
    exact ⟨rfl, hc4⟩
  · go_enter Tryd.func5, Tryd.ntmps5
    go_wp2_with (go_at_call 6; fail)
    refine (rawake_any _ hT).mono ?_
    rintro e w1 ⟨rfl, hb1⟩
    go_wp2_with (go_at_call 14; fail)
    refine (hD _).mono ?_
    rintro e w2 ⟨rfl, hb2⟩
    have hc2 := hb1.trans (hb2.mono hb1.size)
    go_wp2_with (go_at_call 14; fail)
    refine (hE _).mono ?_
    rintro e w3 ⟨rfl, hb3⟩
    have hc3 := hc2.trans (hb3.mono hc2.size)
    go_wp2_with (go_at_call 13; fail)
    refine (hC _ (hT.below hc3)).mono ?_
    rintro e w4 ⟨rfl, hb4⟩
    have hc4 := hc3.trans (hb4.mono hc3.size)
    go_wp2
    go_ret
    exact ⟨rfl, hc4⟩
  · go_enter Tryd.func5, Tryd.ntmps5
    go_wp2_with (go_at_call 6; fail)
    refine (rawake_any _ hT).mono ?_
    rintro e w1 ⟨rfl, hb1⟩
    go_wp2_with (go_at_call 14; fail)
    refine (hD _).mono ?_
    rintro e w2 ⟨rfl, hb2⟩
    have hc2 := hb1.trans (hb2.mono hb1.size)
    go_wp2_with (go_at_call 14; fail)
    refine (hE _).mono ?_
    rintro e w3 ⟨rfl, hb3⟩
    have hc3 := hc2.trans (hb3.mono hc2.size)
    go_wp2_with (go_at_call 13; fail)
    refine (hC _ (hT.below hc3)).mono ?_
    rintro e w4 ⟨rfl, hb4⟩
    have hc4 := hc3.trans (hb4.mono hc3.size)
    go_wp2
    go_ret
    exact ⟨rfl, hc4⟩

end Go.Proofs.YtedenhfpbabjkaaDoor
