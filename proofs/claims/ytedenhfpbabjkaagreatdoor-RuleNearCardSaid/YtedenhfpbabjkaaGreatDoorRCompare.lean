/-
  The program's Compare. By an AI agent.
-/
import Derived.Test.YtedenhfpbabjkaaGreatDoorRCmpMath
import Derived.Test.YtedenhfpbabjkaaGreatDoorMB
namespace Go.Proofs.YtedenhfpbabjkaaGreatDoor
open Go.RowKit
set_option linter.unusedVariables false

set_option maxRecDepth 100000 in
set_option maxHeartbeats 16000000 in
theorem rcmp_any (n a b : ByteArray) (ha : a.size ≤ 281474976710656) (hb : b.size ≤ 281474976710656) (x y : List UInt8) (c f : Int) (h : CmpIs n.data.toList a.data.toList b.data.toList x y c f) (w : World) (hT : TT w) :
    Calls Tryz.prog 10 #[.string n, .string a, .string b] w fun e w' => e = .returned (.tuple #[.int .i64 c, .int .i64 f]) ∧ Below w.heap.size w w' := by
  have hTy := fun w hT => type_any n w hT
  cases h with
  | err h hf =>
    have hB := fun w hT => both_any n a b ha hb _ _ _ h w hT
    have hz : (f == 0) = false := beq_false_of_ne hf
    generalize txt [] = X at *
    clear h hTy
    go_enter Tryz.func10, Tryz.ntmps10
    go_wp2_with (go_at_call 15; fail)
    refine (hB _ hT).mono ?_
    rintro e w1 ⟨rfl, hb1⟩
    have hc1 := hb1
    go_wp2
    go_ret2
    exact ⟨rfl, hc1⟩
  | @int x y p q ht h hp hq =>
    have hB := fun w hT => both_any n a b ha hb _ _ _ h w hT
    have hlen := both_len h
    have hI := fun w hT => integer_yes (txt x) (by rw [txt_size]; omega) p (by rw [txt_toList]; exact hp) w hT
    have hJ := fun w hT => integer_yes (txt y) (by rw [txt_size]; omega) q (by rw [txt_toList]; exact hq) w hT
    have hC := fun w => cmp_int p q w
    simp only [ht] at hTy
    generalize txt (typ n.data.toList).1 = Z at *
    generalize txt x = X at *
    generalize txt y = Y at *
    generalize cmpI p q = C at *
    clear h ht hp hq hlen
    go_enter Tryz.func10, Tryz.ntmps10
    go_wp2_with (go_at_call 15; fail)
    refine (hB _ hT).mono ?_
    rintro e w1 ⟨rfl, hb1⟩
    have hc1 := hb1
    go_wp2_with (go_at_call 17; fail)
    refine (hTy _ (hT.below hc1).types).mono ?_
    rintro e w2 ⟨rfl, hb2⟩
    have hc2 := hc1.trans (hb2.mono hc1.size)
    go_wp2_with (go_at_call 18; fail)
    refine (hI _ (hT.below hc2).tabs).mono ?_
    rintro e w3 ⟨rfl, hb3⟩
    have hc3 := hc2.trans (hb3.mono hc2.size)
    go_wp2_with (go_at_call 18; fail)
    refine (hJ _ (hT.below hc3).tabs).mono ?_
    rintro e w4 ⟨rfl, hb4⟩
    have hc4 := hc3.trans (hb4.mono hc3.size)
    go_wp2_with (go_at_call 19; fail)
    refine (hC _).mono ?_
    rintro e w5 ⟨rfl, rfl⟩
    have hc5 := hc4
    go_wp2
    go_ret2
    exact ⟨rfl, hc5⟩
  | @plane x y p q r s ht h hp hq hr hs hx hy =>
    have hB := fun w hT => both_any n a b ha hb _ _ _ h w hT
    have hlen := both_len h
    have hP := fun w hT => parse_yes (txt x) (by rw [txt_size]; omega) p q hp hq (by rw [txt_toList]; exact hx) w hT
    have hQ := fun w hT => parse_yes (txt y) (by rw [txt_size]; omega) r s hr hs (by rw [txt_toList]; exact hy) w hT
    have hC := fun w => compare_num (fl p) (fl q) (fl r) (fl s) p q r s (num_fl hp hq) (num_fl hr hs) w
    simp only [ht] at hTy
    generalize txt (typ n.data.toList).1 = Z at *
    generalize txt x = X at *
    generalize txt y = Y at *
    have hcp : cmpP p q r s = cmpQ p q r s := rfl
    rw [hcp] at hC
    generalize cmpQ p q r s = C at *
    generalize fl p = P at *
    generalize fl q = Q at *
    generalize fl r = R at *
    generalize fl s = S at *
    clear h ht hp hq hr hs hx hy hlen hcp
    go_enter Tryz.func10, Tryz.ntmps10
    go_wp2_with (go_at_call 15; fail)
    refine (hB _ hT).mono ?_
    rintro e w1 ⟨rfl, hb1⟩
    have hc1 := hb1
    go_wp2_with (go_at_call 17; fail)
    refine (hTy _ (hT.below hc1).types).mono ?_
    rintro e w2 ⟨rfl, hb2⟩
    have hc2 := hc1.trans (hb2.mono hc1.size)
    go_wp2_with (go_at_call 20; fail)
    refine (hP _ (hT.below hc2).tabs).mono ?_
    rintro e w3 ⟨rfl, hb3⟩
    have hc3 := hc2.trans (hb3.mono hc2.size)
    go_wp2_with (go_at_call 20; fail)
    refine (hQ _ (hT.below hc3).tabs).mono ?_
    rintro e w4 ⟨rfl, hb4⟩
    have hc4 := hc3.trans (hb4.mono hc3.size)
    go_wp2_with (go_at_call 21; fail)
    refine (hC _).mono ?_
    rintro e w5 ⟨rfl, hb5⟩
    have hc5 := hc4.trans (hb5.mono hc4.size)
    go_wp2
    go_ret2
    exact ⟨rfl, hc5⟩
  | text ht h =>
    have hB := fun w hT => both_any n a b ha hb _ _ _ h w hT
    have hC := fun w => Tryz.strings_Compare (txt x) (txt y) w
    simp only [txt_toList] at hC
    generalize txt (typ n.data.toList).1 = Z at *
    generalize txt x = X at *
    generalize txt y = Y at *
    generalize Lib.compareBytes x y = C at *
    rcases ht with ht | ht
    · simp only [ht] at hTy
      clear h ht
      go_enter Tryz.func10, Tryz.ntmps10
      go_wp2_with (go_at_call 15; fail)
      refine (hB _ hT).mono ?_
      rintro e w1 ⟨rfl, hb1⟩
      have hc1 := hb1
      go_wp2_with (go_at_call 17; fail)
      refine (hTy _ (hT.below hc1).types).mono ?_
      rintro e w2 ⟨rfl, hb2⟩
      have hc2 := hc1.trans (hb2.mono hc1.size)
      go_wp2_with (go_at_call 22; fail)
      refine (hC _).mono ?_
      rintro e w3 ⟨rfl, rfl⟩
      have hc3 := hc2
      go_wp2
      go_ret2
      exact ⟨rfl, hc3⟩
    · simp only [ht] at hTy
      clear h ht
      go_enter Tryz.func10, Tryz.ntmps10
      go_wp2_with (go_at_call 15; fail)
      refine (hB _ hT).mono ?_
      rintro e w1 ⟨rfl, hb1⟩
      have hc1 := hb1
      go_wp2_with (go_at_call 17; fail)
      refine (hTy _ (hT.below hc1).types).mono ?_
      rintro e w2 ⟨rfl, hb2⟩
      have hc2 := hc1.trans (hb2.mono hc1.size)
      go_wp2_with (go_at_call 22; fail)
      refine (hC _).mono ?_
      rintro e w3 ⟨rfl, rfl⟩
      have hc3 := hc2
      go_wp2
      go_ret2
      exact ⟨rfl, hc3⟩

end Go.Proofs.YtedenhfpbabjkaaGreatDoor
