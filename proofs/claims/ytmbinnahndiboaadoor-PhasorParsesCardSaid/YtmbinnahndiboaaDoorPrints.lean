/-
  The walk of PhasorPrints: whatever the two words, true. By an AI agent.
-/
import Derived.Test.YtmbinnahndiboaaDoorParse
import Derived.Test.YtmbinnahndiboaaDoorRefText
namespace Go.Proofs.YtmbinnahndiboaaDoor
open Go.RowKit Flt

set_option maxRecDepth 100000 in
set_option maxHeartbeats 8000000 in
theorem prints_any (x y : Nat) (hx : x < 2 ^ 64) (hy : y < 2 ^ 64) (w : World) (hT : Tabs w) :
    Calls Tryd.prog 3 #[.float .f64 x, .float .f64 y] w fun e w' => e = .returned (.bool true) ∧ Below w.heap.size w w' := by
  rcases num_or x y hx hy with ⟨a, b, hn⟩ | hn
  · have hP := fun w hT => print_yes x y a b hn w hT
    have hO := fun w => of_yes x y a b hn w
    have hF := fun w => formed_yes x y a b hn w
    have hX := fun w hT => text_any a b (part_fits hn.1) (part_fits hn.2) w hT
    generalize txt (text a b) = S at hP hX
    have hs : (S.toList == S.toList) = true := beq_self_eq_true _
    unfold pairV at hO hX
    clear hn hx hy
    go_enter Tryd.func3, Tryd.ntmps3
    go_wp2_with (first
      | (go_at_call 9; refine (awake_any _ hT).mono ?_; rintro e w1 ⟨rfl, hb1⟩; have hT1 := hT.below hb1)
      | (go_at_call 10; refine (hP _ hT1).mono ?_; rintro e w2 ⟨rfl, hb2⟩; have hT2 := hT1.below hb2; have hb12 := hb1.trans (hb2.mono hb1.size))
      | (go_at_call 11; refine (hO _).mono ?_; rintro e w3 ⟨rfl, hb3⟩; have hT3 := hT2.below hb3; have hb13 := hb12.trans (hb3.mono hb12.size))
      | (go_at_call 13; refine (hX _ (hT3.below (below1 _ _))).mono ?_; rintro e w5 ⟨rfl, hb5⟩)
      | (go_at_call 12; refine (hF _).mono ?_; rintro e w6 ⟨rfl, hb6⟩))
    go_ret
    have hb15 := (hb13.trans ((below1 _ (.cells #[.int .i64 a, .int .i64 b] 29)).mono hb13.size)).trans (hb5.mono (by have := hb13.size; simp; omega))
    exact ⟨rfl, hb15.trans (hb6.mono hb15.size)⟩
  · have hP := fun w => print_no x y ⟨hx⟩ ⟨hy⟩ hn w
    have hO := fun w => of_no x y hx hy hn w
    have hF := fun w => formed_no x y ⟨hx⟩ ⟨hy⟩ hn w
    unfold pairV at hO
    clear hn hx hy
    go_enter Tryd.func3, Tryd.ntmps3
    go_wp2_with (first
      | (go_at_call 9; refine (awake_any _ hT).mono ?_; rintro e w1 ⟨rfl, hb1⟩)
      | (go_at_call 10; refine (hP _).mono ?_; rintro e w2 ⟨rfl, hb2⟩; have hb12 := hb1.trans (hb2.mono hb1.size))
      | (go_at_call 11; refine (hO _).mono ?_; rintro e w3 ⟨rfl, hb3⟩; have hb13 := hb12.trans (hb3.mono hb12.size))
      | (go_at_call 12; refine (hF _).mono ?_; rintro e w6 ⟨rfl, hb6⟩))
    go_ret
    have hb14 := hb13.trans ((below1 _ (.cells #[.int .i64 0, .int .i64 0] 29)).mono hb13.size)
    exact ⟨rfl, hb14.trans (hb6.mono (by have := hb13.size; simp; omega))⟩

end Go.Proofs.YtmbinnahndiboaaDoor
