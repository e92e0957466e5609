/-
  THE TEXTS OF NUMBERS: what both programs write of the integers a and b. By an AI agent.
-/
import Derived.Test.YtedenhfpbabjkaaGreatDoorOf
import Derived.Test.YtedenhfpbabjkaaGreatDoorTabs
import Derived.Lib.ItoaLen
import Derived.Lib.AppendIntMem
namespace Go.Proofs.YtedenhfpbabjkaaGreatDoor
open Go.RowKit Flt

/-- The text of b times i. -/
def sec (b : Int) : List UInt8 := if b = 1 then [105] else if b = -1 then [45, 105] else Lib.itoa b ++ [105]
/-- The text of a and b times i. -/
def text (a b : Int) : List UInt8 := if b = 0 then Lib.itoa a else if a = 0 then sec b else if 0 < b then Lib.itoa a ++ [43] ++ sec b else Lib.itoa a ++ sec b

theorem itoa_any (n : Int) (h0 : -9223372036854775808 ≤ n) (h1 : n ≤ 9223372036854775807) (w : World) (hT : Tabs w) :
    Calls Tryz.prog 64 #[.int .i64 n] w fun e w' => e = .returned (.string (txt (Lib.itoa n))) ∧ Below w.heap.size w w' := by
  refine (Tryz.strconv_Itoa n h0 h1 w hT.pow).mono ?_
  rintro e w' ⟨rfl, k, os, rfl⟩
  exact ⟨rfl, Lib.below_grow _ _ (Nat.le_refl _) _ _⟩

theorem format_any (n : Int) (h0 : -9223372036854775808 ≤ n) (h1 : n ≤ 9223372036854775807) (w : World) (hT : Tabs w) :
    Calls Tryz.prog 37 #[.int .i64 n, .int .i64 10] w fun e w' => e = .returned (.string (txt (Lib.itoa n))) ∧ Below w.heap.size w w' := by
  refine (Tryz.strconv_FormatInt_10 n h0 h1 w hT.pow).mono ?_
  rintro e w' ⟨rfl, k, os, rfl⟩
  exact ⟨rfl, Lib.below_grow _ _ (Nat.le_refl _) _ _⟩

theorem txt_size (l : List UInt8) : (txt l).size = l.length := by simp [txt, ByteArray.size]
theorem txt_app (x y : List UInt8) : txt x ++ txt y = txt (x ++ y) := ByteArray.mk_append_mk x y
theorem txt_i (x : List UInt8) : txt x ++ ⟨#[105]⟩ = txt (x ++ [105]) := txt_app x [105]
theorem txt_p (x : List UInt8) : txt x ++ ⟨#[43]⟩ = txt (x ++ [43]) := txt_app x [43]

/-- The range of the integers that are printed. -/
structure Fits (n : Int) : Prop where
  lo : -9000000000000000000 ≤ n
  hi : n ≤ 9000000000000000000

theorem Fits.len {n : Int} (h : Fits n) : (txt (Lib.itoa n)).size ≤ 21 := by
  rw [txt_size]; exact Lib.itoa_length_le n (by have := h.lo; omega) (by have := h.hi; omega)

theorem sec_len {n : Int} (h : Fits n) : (txt (sec n)).size ≤ 22 := by
  rw [txt_size]
  have := h.len
  rw [txt_size] at this
  unfold sec
  split
  · simp
  · split
    · simp
    · simp; omega

set_option maxRecDepth 100000 in
set_option maxHeartbeats 4000000 in
theorem imag_any (n : Int) (hn : Fits n) (w : World) (hT : Tabs w) :
    Calls Tryz.prog 65 #[.int .i64 n] w fun e w' => e = .returned (.string (txt (sec n))) ∧ Below w.heap.size w w' := by
  have hl := hn.len
  have hx : sec n = if n = 1 then [105] else if n = -1 then [45, 105] else Lib.itoa n ++ [105] := rfl
  have hc := fun w hT => itoa_any n (by have := hn.lo; omega) (by have := hn.hi; omega) w hT
  have hi := txt_i (Lib.itoa n)
  generalize txt (Lib.itoa n) = A at hl hc hi
  generalize hS : txt (sec n) = S
  by_cases h1 : n = 1
  · subst h1
    go_enter Tryz.func65, Tryz.ntmps65
    go_wp2
    go_ret
    exact ⟨by rw [← hS]; rfl, Below.refl _ _⟩
  · by_cases h2 : n = -1
    · subst h2
      go_enter Tryz.func65, Tryz.ntmps65
      go_wp2
      go_ret
      exact ⟨by rw [← hS]; rfl, Below.refl _ _⟩
    · have hS' : S = A ++ ⟨#[105]⟩ := by rw [← hS, hx, if_neg h1, if_neg h2, hi]
      clear hS hx hi
      go_enter Tryz.func65, Tryz.ntmps65
      go_wp2_with (go_at_call 64; refine (hc _ hT).mono ?_; rintro e w' ⟨rfl, hb⟩)
      go_ret
      exact ⟨by rw [hS']; rfl, by assumption⟩

set_option maxRecDepth 100000 in
set_option maxHeartbeats 4000000 in
theorem second_any (n : Int) (hn : Fits n) (w : World) (hT : Tabs w) :
    Calls Tryz.prog 69 #[.int .i64 n] w fun e w' => e = .returned (.string (txt (sec n))) ∧ Below w.heap.size w w' := by
  have hl := hn.len
  have hx : sec n = if n = 1 then [105] else if n = -1 then [45, 105] else Lib.itoa n ++ [105] := rfl
  have hc := fun w hT => format_any n (by have := hn.lo; omega) (by have := hn.hi; omega) w hT
  have hi := txt_i (Lib.itoa n)
  generalize txt (Lib.itoa n) = A at hl hc hi
  generalize hS : txt (sec n) = S
  by_cases h1 : n = 1
  · subst h1
    go_enter Tryz.func69, Tryz.ntmps69
    go_wp2
    go_ret
    exact ⟨by rw [← hS]; rfl, Below.refl _ _⟩
  · by_cases h2 : n = -1
    · subst h2
      go_enter Tryz.func69, Tryz.ntmps69
      go_wp2
      go_ret
      exact ⟨by rw [← hS]; rfl, Below.refl _ _⟩
    · have hS' : S = A ++ ⟨#[105]⟩ := by rw [← hS, hx, if_neg h1, if_neg h2, hi]
      clear hS hx hi
      go_enter Tryz.func69, Tryz.ntmps69
      go_wp2_with (go_at_call 37; refine (hc _ hT).mono ?_; rintro e w' ⟨rfl, hb⟩)
      go_ret
      exact ⟨by rw [hS']; rfl, by assumption⟩

end Go.Proofs.YtedenhfpbabjkaaGreatDoor
