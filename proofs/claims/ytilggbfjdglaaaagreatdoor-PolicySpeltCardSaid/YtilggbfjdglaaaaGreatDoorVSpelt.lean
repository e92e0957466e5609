/-
  The walk of PolicySpelt: whatever the rules and the question, true. By an AI agent.
-/
import Derived.Test.YtilggbfjdglaaaaGreatDoorVSpA
import Derived.Test.YtilggbfjdglaaaaGreatDoorVSpC
import Derived.Test.YtilggbfjdglaaaaGreatDoorVSpD
namespace Go.Proofs.YtilggbfjdglaaaaGreatDoor
open Go.RowKit Go.Proofs.YtilggbfjdglaaaaGreatDoor.Opens
set_option linter.unusedVariables false

theorem spelt_law (L : List Ru) (s n a : List UInt8) (x : Int) (w : World) (A : Option Addr) (nl cl : Nat) (hA : Has w w.heap.size 5 A nl (rusC L)) (hf : ∀ r ∈ L, FitsR r) (hnl : nl ≤ maxLen) (fs : FitsT s) (fn : FitsT n) (fa : FitsT a) (hT : TM w) :
    Calls Tryz.prog 3 #[.slice A nl cl, .agg #[.string (txt s), .string (txt n), .string (txt a), .int .i64 x]] w fun e w' => e = .returned (.bool true) ∧ Below w.heap.size w w' := by
  have hFew := fun w hA => few12_any L w A nl cl hA hf hnl
  have hAf := fun w => afew_any s n a x fs fn fa w
  have hln := hA.rules_n
  by_cases h1 : FewR L
  · rw [Tr_yes h1] at hFew
    by_cases h2 : s.length + n.length + a.length ≤ 3000
    · rw [Tr_yes h2] at hAf
      have hl100 : nl ≤ 100000 := by have := h1.1; omega
      have hN1 := fun w hT => rnormal_text s (by omega) w hT
      have hN2 := fun w hT => rnormal_text n (by omega) w hT
      have hD := fun w A c hA hT => decide_any L s x n a w A L.length c hA h1.2 (by omega) (by omega) (by omega) hT
      by_cases h0 : (normT s).2 = 0 ∧ (normT n).2 = 0
      · have k1 := norm_short s
        have k2 := norm_short n
        have hD2 := fun w A c hA hT => decide_any L (normT s).1 x (normT n).1 a w A L.length c hA h1.2 (by omega) (by omega) (by omega) hT
        rw [decide_spelt L s n a x h0.1 h0.2] at hD2
        rw [h0.1] at hN1
        rw [h0.2] at hN2
        exact spelt_d L s n a x w A nl cl hA hT hFew hAf _ _ hN1 hN2 _ hD hD2 hl100
      · rw [decide_name L s n a x h0] at hD
        refine spelt_c L s n a x w A nl cl hA hT hFew hAf _ _ _ _ ?_ hN1 hN2 hD hl100
        by_cases e1 : (normT s).2 = 0
        · exact Or.inr ⟨by rw [e1]; rfl, beq_false_of_ne fun e2 => h0 ⟨e1, e2⟩⟩
        · exact Or.inl (beq_false_of_ne e1)
    · rw [Tr_no h2] at hAf
      exact spelt_b L s n a x w A nl cl hA hT hFew hAf
  · rw [Tr_no h1] at hFew
    exact spelt_a L s n a x w A nl cl hA hT hFew

end Go.Proofs.YtilggbfjdglaaaaGreatDoor
