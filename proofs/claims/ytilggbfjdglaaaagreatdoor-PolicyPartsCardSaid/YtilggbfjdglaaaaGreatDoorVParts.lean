/-
  The walk of PolicyParts: whatever the rules, the number and the question, true. By an AI agent.
-/
import Derived.Test.YtilggbfjdglaaaaGreatDoorVPa
import Derived.Test.YtilggbfjdglaaaaGreatDoorVPe
namespace Go.Proofs.YtilggbfjdglaaaaGreatDoor
open Go.RowKit Go.Proofs.YtilggbfjdglaaaaGreatDoor.Opens
set_option linter.unusedVariables false
set_option linter.unusedSimpArgs false

theorem small_part {b : Int} {L : List Ru} (h : ∀ r ∈ L, r.small) : ∀ r ∈ partL b L, r.small := by
  intro y hy
  obtain ⟨q, hq, hy⟩ := List.mem_flatMap.1 hy
  have hs := h q hq
  unfold Ru.small at hs ⊢
  unfold part1 at hy
  rcases List.mem_append.1 hy with h1 | h1
  · split at h1
    · cases h1
    · obtain rfl := List.mem_singleton.1 h1
      exact hs
  · split at h1
    · cases h1
    · obtain rfl := List.mem_singleton.1 h1
      exact hs

theorem parts_law (L : List Ru) (b : Int) (s n a : List UInt8) (x : Int) (w : World) (A : Option Addr) (nl cl : Nat) (hA : Has w w.heap.size 5 A nl (rusC L)) (hf : ∀ r ∈ L, FitsR r) (hnl : nl ≤ maxLen) (fs : FitsT s) (fn : FitsT n) (fa : FitsT a) (hT : TM w) :
    Calls Tryz.prog 4 #[.slice A nl cl, .int .i64 b, .agg #[.string (txt s), .string (txt n), .string (txt a), .int .i64 x]] w fun e w' => e = .returned (.bool true) ∧ Below w.heap.size w w' := by
  have hFew := fun w hA => few12_any L w A nl cl hA hf hnl
  have hAf := fun w => afew_any s n a x fs fn fa w
  have hln := hA.rules_n
  by_cases h20 : 20 < nl
  · exact parts_a L b s n a x w A nl cl hA hT (by omega)
  have z1 : ¬ ((20 : Int) < (nl : Int)) := by omega
  by_cases h1 : FewR L
  · rw [Tr_yes h1] at hFew
    by_cases h2 : s.length + n.length + a.length ≤ 3000
    · rw [Tr_yes h2] at hAf
      have hG := fun w hA hT => rformed12_any L w A nl cl hA h1.2 (by omega) hT
      by_cases h3 : AllR L
      · rw [Tr_yes h3] at hG
        have hl := partL_len b L
        have hD := fun w A c hA hT => decide_any L s x n a w A L.length c hA h1.2 (by omega) (by omega) (by omega) hT
        have hDp := fun w A c hA hT => decide_any (partL b L) s x n a w A (partL b L).length c hA (small_part h1.2) (by omega) (by omega) (by omega) hT
        rw [decide_part b L h3 (by omega) s n a x] at hDp
        exact parts_e L b s n a x w A nl cl hA hT z1 hln hFew hAf hG _ _ _ rfl rfl hDp hD
      · rw [Tr_no h3] at hG
        exact parts_d L b s n a x w A nl cl hA hT z1 hFew hAf hG
    · rw [Tr_no h2] at hAf
      exact parts_c L b s n a x w A nl cl hA hT z1 hFew hAf
  · rw [Tr_no h1] at hFew
    exact parts_b L b s n a x w A nl cl hA hT z1 hFew

end Go.Proofs.YtilggbfjdglaaaaGreatDoor
