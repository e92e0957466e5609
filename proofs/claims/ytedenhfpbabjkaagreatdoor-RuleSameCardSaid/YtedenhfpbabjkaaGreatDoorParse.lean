/-
  Parse: of a number's text the number, of any other none; and the statements' own look that the program is awake. By an AI agent.
-/
import Derived.Test.YtedenhfpbabjkaaGreatDoorRead
import Derived.Test.YtedenhfpbabjkaaGreatDoorPrint
namespace Go.Proofs.YtedenhfpbabjkaaGreatDoor
open Go.RowKit Flt

theorem part_fl' {a : Int} (h : Small a) : Part (fl a) a := part_fl a h.lo h.hi
theorem small_of {x : Nat} {a : Int} (h : Part x a) : Small a := ⟨h.2.2.1, h.2.2.2⟩

/-- A number's text. -/
def IsText (s : ByteArray) : Prop := ∃ a b, Small a ∧ Small b ∧ s.data.toList = text a b

theorem txt_eq {s : ByteArray} {l : List UInt8} (h : s.data.toList = l) : s = txt l := by
  subst h
  exact ByteArray.ext (Array.ext' (by simp [txt]))

set_option maxRecDepth 100000 in
set_option maxHeartbeats 8000000 in
theorem parse_yes (s : ByteArray) (hs : s.size ≤ 281474976710656) (a b : Int) (ha : Small a) (hb : Small b) (h : s.data.toList = text a b) (w : World) (hT : Tabs w) :
    Calls Tryz.prog 20 #[.string s] w fun e w' => e = .returned (.tuple #[.complex .f64 (fl a) (fl b), .int .i64 0]) ∧ Below w.heap.size w w' := by
  have hR := read_any s hs w hT
  have hP := fun w hT => print_yes (fl a) (fl b) a b ⟨part_fl' ha, part_fl' hb⟩ w hT
  rw [← h] at hP
  have e1 : txt s.data.toList = s := (txt_eq rfl).symm
  rw [e1] at hP
  have e2 : (s.toList != s.toList) = false := by simp
  go_enter Tryz.func20, Tryz.ntmps20
  go_wp2_with (go_at_call 39; fail)
  refine hR.mono ?_
  intro e w1 hh
  obtain ⟨x, y, ev, rfl, hx, hy, _, hk, hb1⟩ := hh.out
  obtain ⟨rfl, rfl, rfl⟩ := hk a b ha hb h
  clear hk hx hy hh h hR
  have hT1 := hT.below hb1
  go_wp2_with (go_at_call 40; refine (hP _ hT1).mono ?_; rintro e w2 ⟨rfl, hb2⟩)
  go_ret2
  exact ⟨rfl, hb1.trans (hb2.mono hb1.size)⟩

set_option maxRecDepth 100000 in
set_option maxHeartbeats 8000000 in
theorem parse_no (s : ByteArray) (hs : s.size ≤ 281474976710656) (h : ¬ IsText s) (w : World) (hT : Tabs w) :
    Calls Tryz.prog 20 #[.string s] w fun e w' => e = .returned (.tuple #[.complex .f64 0 0, .int .i64 2]) ∧ Below w.heap.size w w' := by
  have hR := read_any s hs w hT
  go_enter Tryz.func20, Tryz.ntmps20
  go_wp2_with (go_at_call 39; fail)
  refine hR.mono ?_
  intro e w1 hh
  obtain ⟨x, y, ev, rfl, hx, hy, hev, hk, hb1⟩ := hh.out
  clear hk hh hR
  have hT1 := hT.below hb1
  rcases hev with rfl | ⟨N, rfl⟩
  · rcases num_or x y hx hy with ⟨a, b, hn⟩ | hn
    · have hP := fun w hT => print_yes x y a b hn w hT
      have hne : ((txt (text a b)).toList == s.toList) = false := by
        refine beq_false_of_ne ?_
        rw [txt_bytes, Lib.toList_data]
        intro e
        exact h ⟨a, b, small_of hn.1, small_of hn.2, e.symm⟩
      generalize txt (text a b) = S at hP hne
      clear hn hx hy h
      go_wp2_with (go_at_call 40; refine (hP _ hT1).mono ?_; rintro e w2 ⟨rfl, hb2⟩)
      go_ret2
      exact ⟨rfl, hb1.trans (hb2.mono hb1.size)⟩
    · have hP := fun w => print_no x y ⟨hx⟩ ⟨hy⟩ hn w
      clear hn hx hy h
      go_wp2_with (go_at_call 40; refine (hP _).mono ?_; rintro e w2 ⟨rfl, hb2⟩)
      go_ret2
      exact ⟨rfl, hb1.trans (hb2.mono hb1.size)⟩
  · unfold badV
    go_wp2
    go_ret2
    exact ⟨rfl, hb1⟩

theorem txt3i : (⟨#[51, 45, 105]⟩ : ByteArray).data.toList = text 3 (-1) := by
  have h : Lib.itoa 3 = [51] := by
    rw [itoa_pos (by omega)]; exact Lib.decDigits_one (by decide)
  have : text 3 (-1) = Lib.itoa 3 ++ [45, 105] := rfl
  rw [this, h]; rfl

theorem fl3 : fl 3 = 4613937818241073152 := by decide +kernel
theorem flm1 : fl (-1) = 13830554455654793216 := by decide +kernel

end Go.Proofs.YtedenhfpbabjkaaGreatDoor
