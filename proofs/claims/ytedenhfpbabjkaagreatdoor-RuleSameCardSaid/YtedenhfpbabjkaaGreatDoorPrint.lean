/-
  Print, and the reference's Text: both write the text of a and b. By an AI agent.
-/
import Derived.Test.YtedenhfpbabjkaaGreatDoorText
namespace Go.Proofs.YtedenhfpbabjkaaGreatDoor
open Go.RowKit Flt

theorem part_fits {x : Nat} {a : Int} (h : Part x a) : Fits a := ⟨by have := h.2.2.1; omega, by have := h.2.2.2; omega⟩
theorem Fits.lo' {n : Int} (h : Fits n) : -9223372036854775808 ≤ n := by have := h.lo; omega
theorem Fits.hi' {n : Int} (h : Fits n) : n ≤ 9223372036854775807 := by have := h.hi; omega

set_option maxRecDepth 100000 in
set_option maxHeartbeats 4000000 in
theorem print_no (x y : Nat) (hx : Word x) (hy : Word y) (h : NoNum x y) (w : World) :
    Calls Tryz.prog 40 #[.complex .f64 x y] w fun e w' => e = .returned (.tuple #[.string ⟨#[]⟩, .int .i64 1]) ∧ Below w.heap.size w w' := by
  go_enter Tryz.func40, Tryz.ntmps40
  go_wp2_with (go_at_call 41; refine (formed_no x y hx hy h _).mono ?_; rintro e w' ⟨rfl, hb⟩)
  go_ret2
  exact ⟨rfl, by assumption⟩

set_option maxRecDepth 100000 in
set_option maxHeartbeats 8000000 in
theorem print_yes (x y : Nat) (a b : Int) (h : Num x y a b) (w : World) (hT : Tabs w) :
    Calls Tryz.prog 40 #[.complex .f64 x y] w fun e w' => e = .returned (.tuple #[.string (txt (text a b)), .int .i64 0]) ∧ Below w.heap.size w w' := by
  have ca := fun w hT => itoa_any a (part_fits h.1).lo' (part_fits h.1).hi' w hT
  have cb := fun w hT => imag_any b (part_fits h.2) w hT
  have la := (part_fits h.1).len
  have lb := sec_len (part_fits h.2)
  have cx := convInt x a (part_int h.1)
  have cy := convInt y b (part_int h.2)
  have hf := fun w => formed_yes x y a b h w
  have e1 : txt (Lib.itoa a) ++ ⟨#[43]⟩ ++ txt (sec b) = txt (Lib.itoa a ++ [43] ++ sec b) := by rw [txt_p, txt_app]
  have e2 : txt (Lib.itoa a) ++ txt (sec b) = txt (Lib.itoa a ++ sec b) := txt_app _ _
  have e3 : text a b = if b = 0 then Lib.itoa a else if a = 0 then sec b else if 0 < b then Lib.itoa a ++ [43] ++ sec b else Lib.itoa a ++ sec b := rfl
  generalize hS : txt (text a b) = S
  rw [e3] at hS
  clear h
  by_cases hb0 : b = 0
  · rw [if_pos hb0] at hS
    subst hS
    clear e1 e2 e3
    generalize txt (Lib.itoa a) = A at *
    subst hb0
    go_enter Tryz.func40, Tryz.ntmps40
    go_wp2_with (first
      | (go_at_call 41; refine (hf _).mono ?_; rintro e w1 ⟨rfl, hb1⟩)
      | (go_at_call 64; refine (ca _ (hT.below (by assumption))).mono ?_; rintro e w2 ⟨rfl, hb2⟩))
    go_ret2
    exact ⟨rfl, hb1.trans (hb2.mono hb1.size)⟩
  · by_cases ha0 : a = 0
    · rw [if_neg hb0, if_pos ha0] at hS
      subst hS
      clear e1 e2 e3
      generalize txt (sec b) = B at *
      subst ha0
      go_enter Tryz.func40, Tryz.ntmps40
      go_wp2_with (first
        | (go_at_call 41; refine (hf _).mono ?_; rintro e w1 ⟨rfl, hb1⟩)
        | (go_at_call 65; refine (cb _ (hT.below (by assumption))).mono ?_; rintro e w2 ⟨rfl, hb2⟩))
      go_ret2
      exact ⟨rfl, hb1.trans (hb2.mono hb1.size)⟩
    · by_cases hp : 0 < b
      · rw [if_neg hb0, if_neg ha0, if_pos hp, ← e1] at hS
        clear e1 e2 e3
        generalize txt (Lib.itoa a) = A at *
        generalize txt (sec b) = B at *
        replace hS := hide hS
        go_enter Tryz.func40, Tryz.ntmps40
        go_wp2_with (first
          | (go_at_call 41; refine (hf _).mono ?_; rintro e w1 ⟨rfl, hb1⟩)
          | (go_at_call 64; refine (ca _ (hT.below (by assumption))).mono ?_; rintro e w2 ⟨rfl, hb2⟩)
          | (go_at_call 65; refine (cb _ (hT.below (hb1.trans (hb2.mono hb1.size)))).mono ?_; rintro e w3 ⟨rfl, hb3⟩))
        go_ret2
        have hbb := hb1.trans (hb2.mono hb1.size)
        exact ⟨by rw [← hS.out]; rfl, hbb.trans (hb3.mono hbb.size)⟩
      · rw [if_neg hb0, if_neg ha0, if_neg hp, ← e2] at hS
        clear e1 e2 e3
        generalize txt (Lib.itoa a) = A at *
        generalize txt (sec b) = B at *
        replace hS := hide hS
        go_enter Tryz.func40, Tryz.ntmps40
        go_wp2_with (first
          | (go_at_call 41; refine (hf _).mono ?_; rintro e w1 ⟨rfl, hb1⟩)
          | (go_at_call 64; refine (ca _ (hT.below (by assumption))).mono ?_; rintro e w2 ⟨rfl, hb2⟩)
          | (go_at_call 65; refine (cb _ (hT.below (hb1.trans (hb2.mono hb1.size)))).mono ?_; rintro e w3 ⟨rfl, hb3⟩))
        go_ret2
        have hbb := hb1.trans (hb2.mono hb1.size)
        exact ⟨by rw [← hS.out]; rfl, hbb.trans (hb3.mono hbb.size)⟩

end Go.Proofs.YtedenhfpbabjkaaGreatDoor
