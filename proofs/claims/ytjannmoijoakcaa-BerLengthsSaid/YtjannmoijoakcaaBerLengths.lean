/-
  'BerLengths': any length is written as short as may be: ber.Length answers what the document says, whatever the integer.
-/
import Derived.Test.YtjannmoijoakcaaBerLen
import Derived.Test.YtjannmoijoakcaaBerRefLen
import Derived.Deep.RegionWith
namespace Go.Proofs.Ytjannmoijoakcaa.Ber
open Go.RowKit

theorem lenOf_pos (n : Int) (h0 : 0 ≤ n) (h1 : n ≤ 2147483647) : 0 < (lenOf n).length := by
  unfold lenOf
  rw [if_neg (by omega)]
  split <;> simp

set_option maxHeartbeats 800000 in
theorem lengths_walk (n : Int) (w : World) :
    Calls Try.prog 3 #[.int .i64 n] w fun e w' => e = .returned (.bool true) ∧ Below w.heap.size w w' := by
  by_cases h : n < 0 ∨ 2147483647 < n
  · have hl : lenOf n = [] := by rw [lenOf, if_pos h]
    by_cases h0 : n < 0
    all_goals
      go_enter Try.func3, Try.ntmps3
      go_wp2_with (go_at_call 13; refine (len_none n _ h).mono ?_; rintro e w' ⟨rfl, rfl⟩)
      go_ret
      exact ⟨rfl, Below.refl _ _⟩
  · have hp := lenOf_pos n (by omega) (by omega)
    go_enter Try.func3, Try.ntmps3
    go_wp2_with fail
    refine (len_any n _).mono ?_
    rintro e w1 ⟨v, rfl, hown, hb⟩
    obtain ⟨A1, c1, rfl, _, hH⟩ := own_form hown
    have hs : ∀ W : World, Below w1.heap.size w1 W → (convert 22 9 (.slice A1 (lenOf n).length c1)).run Try.prog W = .ok (.string (txt (lenOf n))) W :=
      fun W hW => run_txt W (hH.below hW) _ _ 5 Try.underlying22 Try.underlying5 Try.underlying9
    have hb1 : Below w1.heap.size w1 w1.drew := (Below.refl _ _).drew
    have hgt : (0 : Int) < ((lenOf n).length : Int) := by omega
    clear hown hH
    go_wp2
    go_region_with (go_at_call 14; go_must (refine (rlen_any n _).mono ?_; rintro e w2 ⟨v2, rfl, hown2, hb2⟩; obtain ⟨A2, c2, rfl, _, hH2⟩ := own_form hown2; have hs2 := run_txt w2 (c := c2) hH2 22 9 5 Try.underlying22 Try.underlying5 Try.underlying9; have hb3 : Below w1.heap.size w1 w2 := hb1.trans hb2; clear hown2 hH2 hb2))
    all_goals
      go_wp2
      go_ret
      refine ⟨?_, hb.trans (hb3.mono hb.size)⟩
      go_simp

end Go.Proofs.Ytjannmoijoakcaa.Ber
