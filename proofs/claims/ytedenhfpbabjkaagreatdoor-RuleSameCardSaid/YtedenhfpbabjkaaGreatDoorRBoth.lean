/-
  The normal forms of two values. By an AI agent.
-/
import Derived.Test.YtedenhfpbabjkaaGreatDoorRNormals
import Derived.OwnWalk
namespace Go.Proofs.YtedenhfpbabjkaaGreatDoor
open Go.RowKit
set_option linter.unusedVariables false

/-- What is told of two values: both normal forms, or the first error. -/
inductive BothIs (n a b : List UInt8) : List UInt8 → List UInt8 → Int → Prop where
  | fst (h : (norm n a).2 ≠ 0) : BothIs n a b [] [] (norm n a).2
  | snd (h0 : (norm n a).2 = 0) (h : (norm n b).2 ≠ 0) : BothIs n a b [] [] (norm n b).2
  | ok (h0 : (norm n a).2 = 0) (h1 : (norm n b).2 = 0) : BothIs n a b (norm n a).1 (norm n b).1 0

theorem both_or (n a b : List UInt8) : ∃ x y f, BothIs n a b x y f := by
  by_cases h0 : (norm n a).2 = 0
  · by_cases h1 : (norm n b).2 = 0
    · exact ⟨_, _, _, .ok h0 h1⟩
    · exact ⟨_, _, _, .snd h0 h1⟩
  · exact ⟨_, _, _, .fst h0⟩

/-- What a normal form is. -/
theorem norm_is {n v : List UInt8} (h : (norm n v).2 = 0) : (1 ≤ (typ n).2 ∧ (typ n).2 ≤ 4) ∧ ((typ n).2 = 3 → ∃ p, IsInt (norm n v).1 p) ∧ ((typ n).2 = 4 → ∃ a b, Small a ∧ Small b ∧ (norm n v).1 = text a b) := by
  cases road n v with
  | none _ r => rw [r] at h; simp at h
  | name _ r => rw [r] at h; simp at h
  | short _ _ r => rw [r] at h; simp at h
  | long _ _ r => rw [r] at h; simp at h
  | form _ _ _ r => rw [r] at h; simp at h
  | text ht k f r => exact ⟨by omega, fun e => (by omega), fun e => (by omega)⟩
  | same hh k f r =>
    rw [r]
    exact ⟨by omega, fun e => f.nu e, fun e => f.pl e⟩

/-- An error stands beside nothing; no error beside normal forms. -/
theorem both_cases {n a b x y : List UInt8} {f : Int} (h : BothIs n a b x y f) : (f ≠ 0 ∧ x = [] ∧ y = [] ∧ ¬ ((norm n a).2 = 0 ∧ (norm n b).2 = 0)) ∨ (f = 0 ∧ (norm n a).2 = 0 ∧ (norm n b).2 = 0 ∧ x = (norm n a).1 ∧ y = (norm n b).1) := by
  cases h with
  | fst h => exact Or.inl ⟨h, rfl, rfl, fun k => h k.1⟩
  | snd _ h => exact Or.inl ⟨h, rfl, rfl, fun k => h k.2⟩
  | ok h0 h1 => exact Or.inr ⟨rfl, h0, h1, rfl, rfl⟩
theorem both_len {n a b x y : List UInt8} {f : Int} (h : BothIs n a b x y f) : x.length ≤ 200 ∧ y.length ≤ 200 := by
  rcases both_cases h with ⟨_, rfl, rfl, _⟩ | ⟨_, _, _, rfl, rfl⟩
  · simp
  · exact ⟨norm_len _ _, norm_len _ _⟩

set_option maxRecDepth 100000 in
set_option maxHeartbeats 8000000 in
theorem both_any (n a b : ByteArray) (ha : a.size ≤ 281474976710656) (hb : b.size ≤ 281474976710656) (x y : List UInt8) (f : Int) (h : BothIs n.data.toList a.data.toList b.data.toList x y f) (w : World) (hT : TT w) :
    Calls Tryz.prog 15 #[.string n, .string a, .string b] w fun e w' => e = .returned (.tuple #[.string (txt x), .string (txt y), .int .i64 f]) ∧ Below w.heap.size w w' := by
  have hA := fun w hT => normal_any n a ha w hT
  have hB := fun w hT => normal_any n b hb w hT
  cases h with
  | fst h =>
    have hz : ((norm n.data.toList a.data.toList).2 == 0) = false := beq_false_of_ne h
    generalize txt (norm n.data.toList a.data.toList).1 = X at *
    generalize (norm n.data.toList a.data.toList).2 = q at *
    clear h hB
    go_enter Tryz.func15, Tryz.ntmps15
    go_wp2_with (go_at_call 14; fail)
    refine (hA _ hT).mono ?_
    rintro e w1 ⟨rfl, hb1⟩
    go_wp2
    go_ret3
    exact ⟨rfl, hb1⟩
  | snd h0 h =>
    simp only [h0] at hA
    have hz : ((norm n.data.toList b.data.toList).2 == 0) = false := beq_false_of_ne h
    generalize txt (norm n.data.toList a.data.toList).1 = X at *
    generalize txt (norm n.data.toList b.data.toList).1 = Y at *
    generalize (norm n.data.toList b.data.toList).2 = q at *
    clear h h0
    go_enter Tryz.func15, Tryz.ntmps15
    go_wp2_with (go_at_call 14; fail)
    refine (hA _ hT).mono ?_
    rintro e w1 ⟨rfl, hb1⟩
    go_wp2_with (go_at_call 14; fail)
    refine (hB _ (hT.below hb1)).mono ?_
    rintro e w2 ⟨rfl, hb2⟩
    go_wp2
    go_ret3
    exact ⟨rfl, hb1.trans (hb2.mono hb1.size)⟩
  | ok h0 h1 =>
    simp only [h0] at hA
    simp only [h1] at hB
    generalize txt (norm n.data.toList a.data.toList).1 = X at *
    generalize txt (norm n.data.toList b.data.toList).1 = Y at *
    clear h0 h1
    go_enter Tryz.func15, Tryz.ntmps15
    go_wp2_with (go_at_call 14; fail)
    refine (hA _ hT).mono ?_
    rintro e w1 ⟨rfl, hb1⟩
    go_wp2_with (go_at_call 14; fail)
    refine (hB _ (hT.below hb1)).mono ?_
    rintro e w2 ⟨rfl, hb2⟩
    go_wp2
    go_ret3
    exact ⟨rfl, hb1.trans (hb2.mono hb1.size)⟩

set_option maxRecDepth 100000 in
set_option maxHeartbeats 8000000 in
theorem rboth_any (n a b : ByteArray) (hn : n.size ≤ 281474976710656) (ha : a.size ≤ 281474976710656) (hb : b.size ≤ 281474976710656) (x y : List UInt8) (f : Int) (h : BothIs n.data.toList a.data.toList b.data.toList x y f) (w : World) (hT : TT w) :
    Calls Tryz.prog 16 #[.string n, .string a, .string b] w fun e w' => e = .returned (.tuple #[.string (txt x), .string (txt y), .int .i64 f]) ∧ Below w.heap.size w w' := by
  have hA := fun w hT => rnormal_any n a hn ha w hT
  have hB := fun w hT => rnormal_any n b hn hb w hT
  cases h with
  | fst h =>
    have hz : ((norm n.data.toList a.data.toList).2 == 0) = false := beq_false_of_ne h
    generalize txt (norm n.data.toList a.data.toList).1 = X at *
    generalize (norm n.data.toList a.data.toList).2 = q at *
    clear h hB
    go_enter Tryz.func16, Tryz.ntmps16
    go_wp2_with (go_at_call 34; fail)
    refine (hA _ hT).mono ?_
    rintro e w1 ⟨rfl, hb1⟩
    go_wp2
    go_ret3
    exact ⟨rfl, hb1⟩
  | snd h0 h =>
    simp only [h0] at hA
    have hz : ((norm n.data.toList b.data.toList).2 == 0) = false := beq_false_of_ne h
    generalize txt (norm n.data.toList a.data.toList).1 = X at *
    generalize txt (norm n.data.toList b.data.toList).1 = Y at *
    generalize (norm n.data.toList b.data.toList).2 = q at *
    clear h h0
    go_enter Tryz.func16, Tryz.ntmps16
    go_wp2_with (go_at_call 34; fail)
    refine (hA _ hT).mono ?_
    rintro e w1 ⟨rfl, hb1⟩
    go_wp2_with (go_at_call 34; fail)
    refine (hB _ (hT.below hb1)).mono ?_
    rintro e w2 ⟨rfl, hb2⟩
    go_wp2
    go_ret3
    exact ⟨rfl, hb1.trans (hb2.mono hb1.size)⟩
  | ok h0 h1 =>
    simp only [h0] at hA
    simp only [h1] at hB
    generalize txt (norm n.data.toList a.data.toList).1 = X at *
    generalize txt (norm n.data.toList b.data.toList).1 = Y at *
    clear h0 h1
    go_enter Tryz.func16, Tryz.ntmps16
    go_wp2_with (go_at_call 34; fail)
    refine (hA _ hT).mono ?_
    rintro e w1 ⟨rfl, hb1⟩
    go_wp2_with (go_at_call 34; fail)
    refine (hB _ (hT.below hb1)).mono ?_
    rintro e w2 ⟨rfl, hb2⟩
    go_wp2
    go_ret3
    exact ⟨rfl, hb1.trans (hb2.mono hb1.size)⟩

end Go.Proofs.YtedenhfpbabjkaaGreatDoor
