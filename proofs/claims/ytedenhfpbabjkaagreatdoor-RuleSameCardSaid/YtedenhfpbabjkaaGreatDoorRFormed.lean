/-
  formed: whether a value has a normal form. By an AI agent.
-/
import Derived.Test.YtedenhfpbabjkaaGreatDoorRText
import Derived.Test.YtedenhfpbabjkaaGreatDoorRRText
import Derived.Test.YtedenhfpbabjkaaGreatDoorRInt
import Derived.Test.YtedenhfpbabjkaaGreatDoorParse
import Derived.Lib.TrimByte
import Derived.Lib.IndexLaws
namespace Go.Proofs.YtedenhfpbabjkaaGreatDoor
open Go.RowKit
set_option linter.unusedVariables false

/-- The library's tables, and the program's. -/
structure TT (w : World) : Prop where
  tabs : Tabs w
  types : Types w
theorem TT.below {w w' : World} (h : TT w) (hb : Below w.heap.size w w') : TT w' := ⟨h.tabs.below hb, h.types.below hb⟩

/-- A value, of a length that values may have, that has a normal form of the syntax x. -/
structure Formed (x : Int) (l : List UInt8) : Prop where
  tx : x = 1 → (0 : UInt8) ∉ l ∧ nt l ≠ []
  nu : x = 3 → ∃ n, IsInt l n
  pl : x = 4 → ∃ a b, Small a ∧ Small b ∧ l = text a b

theorem mem_drop {p : UInt8 → Bool} {l : List UInt8} {b : UInt8} (h : b ∈ l) (hb : p b = false) : b ∈ l.dropWhile p := by
  induction l with
  | nil => cases h
  | cons x r ih =>
    rw [List.dropWhile_cons]
    split
    · rename_i hx
      rcases List.mem_cons.1 h with rfl | h
      · rw [hb] at hx; cases hx
      · exact ih h
    · exact h

theorem trim_nil (l : List UInt8) : Lib.trimB l 32 = [] ↔ nt l = [] := by
  rw [nt_nil]
  constructor
  · intro h b hb
    refine Classical.byContradiction fun hne => ?_
    have hp : (b == 32) = false := beq_false_of_ne hne
    have h1 : b ∈ Lib.trimRightB l 32 := by
      unfold Lib.trimRightB
      rw [List.mem_reverse]
      exact mem_drop (List.mem_reverse.2 hb) hp
    have h2 : b ∈ Lib.trimB l 32 := by
      unfold Lib.trimB Lib.trimLeftB
      exact mem_drop h1 hp
    rw [h] at h2
    cases h2
  · intro h
    have h1 : ∀ l : List UInt8, (∀ b ∈ l, b = 32) → l.dropWhile (· == 32) = [] := by
      intro l
      induction l with
      | nil => intro _; rfl
      | cons x r ih =>
        intro h
        rw [List.dropWhile_cons, if_pos (by simp [h x (by simp)])]
        exact ih fun b hb => h b (by simp [hb])
    unfold Lib.trimB Lib.trimLeftB Lib.trimRightB
    rw [h1 l.reverse fun b hb => h b (List.mem_reverse.1 hb)]
    rfl

theorem index_zero (l : List UInt8) : Lib.indexByte l 0 < 0 ↔ (0 : UInt8) ∉ l := by
  have hge := Lib.indexByte_ge l 0
  constructor
  · intro h hm
    obtain ⟨k, hk, hk2⟩ := List.mem_iff_getElem.1 hm
    exact Lib.indexByte_none (by omega : Lib.indexByte l 0 = -1) k (by rw [List.getElem?_eq_getElem hk, hk2])
  · intro h
    refine Classical.byContradiction fun hn => ?_
    have := (Lib.indexByte_some (o := (Lib.indexByte l 0).toNat) (by omega : Lib.indexByte l 0 = _)).1
    exact h (List.mem_of_getElem? this)

set_option maxRecDepth 100000 in
set_option maxHeartbeats 8000000 in
theorem formed1 (s : ByteArray) (h200 : s.size ≤ 200) (b : Bool) (hb : b = true ↔ Formed 1 s.data.toList) (w : World) :
    Calls Tryz.prog 31 #[.int .i64 1, .string s] w fun e w' => e = .returned (.bool b) ∧ Below w.heap.size w w' := by
  have hTr := fun w => Tryz.strings_Trim_one s 32 (by decide) w (by omega)
  have hIx := fun w => Tryz.strings_IndexByte s 0 w
  have hz : ((0 : Int).toNat.toUInt8) = 0 := rfl
  rw [hz] at hIx
  have hXl : (⟨(Lib.trimB s.data.toList 32).toArray⟩ : ByteArray).toList.isEmpty = decide (nt s.data.toList = []) := by
    rw [ByteArray.toList_mk]
    have := trim_nil s.data.toList
    cases hq : Lib.trimB s.data.toList 32 with
    | nil => rw [hq] at this; simp [this.1 rfl]
    | cons x r =>
      have hne : ¬ nt s.data.toList = [] := fun e => by rw [this.2 e] at hq; cases hq
      simp [hne]
  have hI := index_zero s.data.toList
  have hF : Formed 1 s.data.toList ↔ (0 : UInt8) ∉ s.data.toList ∧ nt s.data.toList ≠ [] := ⟨fun h => h.tx rfl, fun h => ⟨fun _ => h, fun e => (by omega), fun e => (by omega)⟩⟩
  rw [hF] at hb
  clear hF
  generalize (⟨(Lib.trimB s.data.toList 32).toArray⟩ : ByteArray) = X at *
  by_cases hn : nt s.data.toList = []
  · have hb' : Hid (b = false) := hide (by cases b with | false => rfl | true => exact absurd hn (hb.1 rfl).2)
    rw [decide_eq_true hn] at hXl
    clear hb hI hIx hn
    go_enter Tryz.func31, Tryz.ntmps31
    go_wp2_with (go_at_call 51; fail)
    refine (hTr _).mono ?_
    rintro e w1 ⟨rfl, hw⟩
    have hb1 : Below w.heap.size w w1 := by
      rcases hw with rfl | rfl
      · exact Below.refl _ _
      · exact (Below.refl _ _).drew
    clear hw hTr
    go_wp2
    go_ret
    exact ⟨by rw [hb'.out]; rfl, hb1⟩
  · have hb' : Hid (b = decide (Lib.indexByte s.data.toList 0 < 0)) := hide (by
      by_cases hm : (0 : UInt8) ∈ s.data.toList
      · rw [decide_eq_false (by rw [hI]; exact fun h => h hm)]
        cases b with
        | false => rfl
        | true => exact absurd hm (hb.1 rfl).1
      · rw [decide_eq_true (hI.2 hm)]
        exact hb.2 ⟨hm, hn⟩)
    rw [decide_eq_false hn] at hXl
    clear hb hI hn
    generalize Lib.indexByte s.data.toList 0 = I at *
    go_enter Tryz.func31, Tryz.ntmps31
    go_wp2_with (go_at_call 51; fail)
    refine (hTr _).mono ?_
    rintro e w1 ⟨rfl, hw⟩
    have hb1 : Below w.heap.size w w1 := by
      rcases hw with rfl | rfl
      · exact Below.refl _ _
      · exact (Below.refl _ _).drew
    clear hw hTr
    go_wp2_with (go_at_call 52; fail)
    refine (hIx _).mono ?_
    rintro e w2 ⟨rfl, rfl⟩
    clear hIx
    go_wp2
    go_ret
    exact ⟨by rw [hb'.out]; rfl, hb1⟩

theorem plane_text (s : ByteArray) : (∃ a b, Small a ∧ Small b ∧ s.data.toList = text a b) ↔ IsText s := Iff.rfl

set_option maxRecDepth 100000 in
set_option maxHeartbeats 8000000 in
theorem formed2 (s : ByteArray) (b : Bool) (hb : b = true ↔ Formed 2 s.data.toList) (w : World) :
    Calls Tryz.prog 31 #[.int .i64 2, .string s] w fun e w' => e = .returned (.bool b) ∧ Below w.heap.size w w' := by
  have hb' : Hid (b = true) := hide (hb.2 ⟨fun e => (by omega), fun e => (by omega), fun e => (by omega)⟩)
  clear hb
  go_enter Tryz.func31, Tryz.ntmps31
  go_wp2
  go_ret
  exact ⟨by rw [hb'.out]; rfl, Below.refl _ _⟩

set_option maxRecDepth 100000 in
set_option maxHeartbeats 8000000 in
theorem formed3 (s : ByteArray) (h200 : s.size ≤ 200) (b : Bool) (hb : b = true ↔ Formed 3 s.data.toList) (w : World) (hT : TT w) :
    Calls Tryz.prog 31 #[.int .i64 3, .string s] w fun e w' => e = .returned (.bool b) ∧ Below w.heap.size w w' := by
  have hF : Formed 3 s.data.toList ↔ ∃ n, IsInt s.data.toList n := ⟨fun h => h.nu rfl, fun h => ⟨fun e => (by omega), fun _ => h, fun e => (by omega)⟩⟩
  rw [hF] at hb
  clear hF
  have hI : ∃ n, Hid True ∧ ∀ w, Tabs w → Calls Tryz.prog 18 #[.string s] w fun e w' => e = .returned (.tuple #[.int .i64 n, .bool b]) ∧ Below w.heap.size w w' := by
    rcases int_or s.data.toList with ⟨n, hn⟩ | hn
    · have : b = true := hb.2 ⟨n, hn⟩
      rw [this]
      exact ⟨n, hide trivial, fun w hT => integer_yes s (by omega) n hn w hT⟩
    · have : b = false := by cases b with | false => rfl | true => obtain ⟨n, h⟩ := hb.1 rfl; exact absurd h (hn n)
      rw [this]
      exact ⟨0, hide trivial, fun w hT => integer_no s (by omega) hn w hT⟩
  obtain ⟨n, _, hI⟩ := hI
  clear hb
  go_enter Tryz.func31, Tryz.ntmps31
  go_wp2_with (go_at_call 18; fail)
  refine (hI _ hT.tabs).mono ?_
  rintro e w1 ⟨rfl, hb1⟩
  go_wp2
  go_ret
  exact ⟨rfl, hb1⟩

set_option maxRecDepth 100000 in
set_option maxHeartbeats 8000000 in
theorem formed4 (s : ByteArray) (h200 : s.size ≤ 200) (b : Bool) (hb : b = true ↔ Formed 4 s.data.toList) (w : World) (hT : TT w) :
    Calls Tryz.prog 31 #[.int .i64 4, .string s] w fun e w' => e = .returned (.bool b) ∧ Below w.heap.size w w' := by
  have hF : Formed 4 s.data.toList ↔ IsText s := ⟨fun h => h.pl rfl, fun h => ⟨fun e => (by omega), fun e => (by omega), fun _ => h⟩⟩
  rw [hF] at hb
  clear hF
  by_cases h : IsText s
  · have hb' : Hid (b = true) := hide (hb.2 h)
    clear hb
    obtain ⟨p, q, hp, hq, e⟩ := h
    have hP := fun w hT => parse_yes s (by omega) p q hp hq e w hT
    clear e
    go_enter Tryz.func31, Tryz.ntmps31
    go_wp2_with (go_at_call 20; fail)
    refine (hP _ hT.tabs).mono ?_
    rintro e w1 ⟨rfl, hb1⟩
    go_wp2
    go_ret
    exact ⟨by rw [hb'.out]; rfl, hb1⟩
  · have hb' : Hid (b = false) := hide (by cases b with | false => rfl | true => exact absurd (hb.1 rfl) h)
    have hP := fun w hT => parse_no s (by omega) h w hT
    clear hb h
    go_enter Tryz.func31, Tryz.ntmps31
    go_wp2_with (go_at_call 20; fail)
    refine (hP _ hT.tabs).mono ?_
    rintro e w1 ⟨rfl, hb1⟩
    go_wp2
    go_ret
    exact ⟨by rw [hb'.out]; rfl, hb1⟩

theorem rformed_any (x : Int) (hx : 1 ≤ x ∧ x ≤ 4) (s : ByteArray) (h200 : s.size ≤ 200) (b : Bool) (hb : b = true ↔ Formed x s.data.toList) (w : World) (hT : TT w) :
    Calls Tryz.prog 31 #[.int .i64 x, .string s] w fun e w' => e = .returned (.bool b) ∧ Below w.heap.size w w' := by
  have : x = 1 ∨ x = 2 ∨ x = 3 ∨ x = 4 := by omega
  rcases this with rfl | rfl | rfl | rfl
  · exact formed1 s h200 b hb w
  · exact formed2 s b hb w
  · exact formed3 s h200 b hb w hT
  · exact formed4 s h200 b hb w hT

end Go.Proofs.YtedenhfpbabjkaaGreatDoor
