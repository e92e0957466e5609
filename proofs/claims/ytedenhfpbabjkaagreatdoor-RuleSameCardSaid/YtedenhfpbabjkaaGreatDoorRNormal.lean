/-
  Normal: a value's normal form, by the program. By an AI agent.
-/
import Derived.Test.YtedenhfpbabjkaaGreatDoorRFormed
namespace Go.Proofs.YtedenhfpbabjkaaGreatDoor
open Go.RowKit
set_option linter.unusedVariables false

open Classical in
/-- A value's normal form, and an error. -/
noncomputable def norm (n v : List UInt8) : List UInt8 × Int :=
  if (typ n).2 = 0 then ([], 5)
  else if (typ n).2 = 5 then ([], 1)
  else if v.length < 1 ∨ 200 < v.length ∨ ¬ Formed (typ n).2 v then ([], 2)
  else if (typ n).2 = 1 then (nt v, 0)
  else (v, 0)

/-- Which of the roads a value takes. -/
inductive Road (n v : List UInt8) : Prop where
  | none (h : (typ n).2 = 0) (r : norm n v = ([], 5))
  | name (h : (typ n).2 = 5) (r : norm n v = ([], 1))
  | short (h : 1 ≤ (typ n).2 ∧ (typ n).2 ≤ 4) (k : v.length < 1) (r : norm n v = ([], 2))
  | long (h : 1 ≤ (typ n).2 ∧ (typ n).2 ≤ 4) (k : 200 < v.length) (r : norm n v = ([], 2))
  | form (h : 1 ≤ (typ n).2 ∧ (typ n).2 ≤ 4) (k : 1 ≤ v.length ∧ v.length ≤ 200) (f : ¬ Formed (typ n).2 v) (r : norm n v = ([], 2))
  | text (h : (typ n).2 = 1) (k : 1 ≤ v.length ∧ v.length ≤ 200) (f : Formed (typ n).2 v) (r : norm n v = (nt v, 0))
  | same (h : 2 ≤ (typ n).2 ∧ (typ n).2 ≤ 4) (k : 1 ≤ v.length ∧ v.length ≤ 200) (f : Formed (typ n).2 v) (r : norm n v = (v, 0))

theorem road (n v : List UInt8) : Road n v := by
  have hr := typ_range n
  by_cases h0 : (typ n).2 = 0
  · exact .none h0 (by unfold norm; rw [if_pos h0])
  · by_cases h5 : (typ n).2 = 5
    · exact .name h5 (by unfold norm; rw [if_neg h0, if_pos h5])
    · have h14 : 1 ≤ (typ n).2 ∧ (typ n).2 ≤ 4 := by omega
      by_cases k1 : v.length < 1
      · exact .short h14 k1 (by unfold norm; rw [if_neg h0, if_neg h5, if_pos (Or.inl k1)])
      · by_cases k2 : 200 < v.length
        · exact .long h14 k2 (by unfold norm; rw [if_neg h0, if_neg h5, if_pos (Or.inr (Or.inl k2))])
        · by_cases f : Formed (typ n).2 v
          · have hno : ¬ (v.length < 1 ∨ 200 < v.length ∨ ¬ Formed (typ n).2 v) := by
              rintro (h | h | h)
              · exact k1 h
              · exact k2 h
              · exact h f
            by_cases h1 : (typ n).2 = 1
            · exact .text h1 ⟨by omega, by omega⟩ f (by unfold norm; rw [if_neg h0, if_neg h5, if_neg hno, if_pos h1])
            · exact .same ⟨by omega, by omega⟩ ⟨by omega, by omega⟩ f (by unfold norm; rw [if_neg h0, if_neg h5, if_neg hno, if_neg h1])
          · exact .form h14 ⟨by omega, by omega⟩ f (by unfold norm; rw [if_neg h0, if_neg h5, if_pos (Or.inr (Or.inr f))])

theorem int_cases {x : Int} (h : 1 ≤ x ∧ x ≤ 4) : ((x == 0) = false) ∧ ((x == 5) = false) := ⟨beq_false_of_ne (by omega), beq_false_of_ne (by omega)⟩

theorem clone_any (s : ByteArray) (h : s.size ≤ 281474976710656) (w : World) :
    Calls Tryz.prog 33 #[.string s] w fun e w' => e = .returned (.string s) ∧ Below w.heap.size w w' := by
  have hC := fun w => Tryz.stringslite_Clone s w h
  go_enter Tryz.func33, Tryz.ntmps33
  go_wp2_with (go_at_call 55; fail)
  refine (hC _).mono ?_
  rintro e w1 ⟨rfl, hb⟩
  go_wp2
  go_ret
  exact ⟨rfl, hb⟩

set_option maxRecDepth 100000 in
set_option maxHeartbeats 16000000 in
theorem normal_any (n v : ByteArray) (hv : v.size ≤ 281474976710656) (w : World) (hT : TT w) :
    Calls Tryz.prog 14 #[.string n, .string v] w fun e w' => e = .returned (.tuple #[.string (txt (norm n.data.toList v.data.toList).1), .int .i64 (norm n.data.toList v.data.toList).2]) ∧ Below w.heap.size w w' := by
  have hTy := type_any n w hT.types
  have hF := fun (hx : 1 ≤ (typ n.data.toList).2 ∧ (typ n.data.toList).2 ≤ 4) h200 b hb w hT => rformed_any (typ n.data.toList).2 hx v h200 b hb w hT
  have hN := fun h w => texts_any v h w
  have hC := fun w => clone_any v hv w
  have hsz := Lib.size_eq v
  have hR := road n.data.toList v.data.toList
  have hself : txt v.data.toList = v := (data_cell v _ rfl).symm
  generalize hl : v.data.toList = l at *
  generalize hn : n.data.toList = m at *
  obtain ⟨X, hX⟩ : ∃ X, txt (typ m).1 = X := ⟨_, rfl⟩
  rw [hX] at hTy
  obtain ⟨x, hx⟩ : ∃ x, (typ m).2 = x := ⟨_, rfl⟩
  rw [hx] at hTy hF
  have hlT := fun w1 (h : Below w.heap.size w w1) => hT.below h
  cases hR with
  | none h r =>
    obtain rfl : x = 0 := by omega
    rw [r]
    clear hF hN hC hself hX hx h r
    go_enter Tryz.func14, Tryz.ntmps14
    go_wp2_with (go_at_call 17; fail)
    refine hTy.mono ?_
    rintro e w1 ⟨rfl, hb1⟩
    go_wp2
    go_ret2
    exact ⟨rfl, hb1⟩
  | name h r =>
    obtain rfl : x = 5 := by omega
    rw [r]
    clear hF hN hC hself hX hx h r
    go_enter Tryz.func14, Tryz.ntmps14
    go_wp2_with (go_at_call 17; fail)
    refine hTy.mono ?_
    rintro e w1 ⟨rfl, hb1⟩
    go_wp2
    go_ret2
    exact ⟨rfl, hb1⟩
  | short h k r =>
    rw [hx] at h
    obtain ⟨e0, e5⟩ := int_cases h
    have hk : ((v.size : Int) < 1) := by omega
    rw [r]
    clear hF hN hC hself hX hx h r
    go_enter Tryz.func14, Tryz.ntmps14
    go_wp2_with (go_at_call 17; fail)
    refine hTy.mono ?_
    rintro e w1 ⟨rfl, hb1⟩
    go_wp2
    go_ret2
    exact ⟨rfl, hb1⟩
  | long h k r =>
    rw [hx] at h
    obtain ⟨e0, e5⟩ := int_cases h
    have hk : ¬ ((v.size : Int) < 1) := by omega
    have hk2 : ((200 : Int) < (v.size : Int)) := by omega
    rw [r]
    clear hF hN hC hself hX hx h r
    go_enter Tryz.func14, Tryz.ntmps14
    go_wp2_with (go_at_call 17; fail)
    refine hTy.mono ?_
    rintro e w1 ⟨rfl, hb1⟩
    go_wp2
    go_ret2
    exact ⟨rfl, hb1⟩
  | form h k f r =>
    rw [hx] at h f
    obtain ⟨e0, e5⟩ := int_cases h
    have hk : ¬ ((v.size : Int) < 1) := by omega
    have hk2 : ¬ ((200 : Int) < (v.size : Int)) := by omega
    have hFo := fun w hT => hF h (by omega) false (by simp [f]) w hT
    rw [r]
    clear hF hN hC hself hX hx h r f
    go_enter Tryz.func14, Tryz.ntmps14
    go_wp2_with (go_at_call 17; fail)
    refine hTy.mono ?_
    rintro e w1 ⟨rfl, hb1⟩
    go_wp2_with (go_at_call 31; fail)
    refine (hFo _ (hlT _ hb1)).mono ?_
    rintro e w2 ⟨rfl, hb2⟩
    go_wp2
    go_ret2
    exact ⟨rfl, hb1.trans (hb2.mono hb1.size)⟩
  | text h k f r =>
    obtain rfl : x = 1 := by omega
    rw [h] at f
    have hk : ¬ ((v.size : Int) < 1) := by omega
    have hk2 : ¬ ((200 : Int) < (v.size : Int)) := by omega
    have hFo := fun w hT => hF ⟨by omega, by omega⟩ (by omega) true (by simp [f]) w hT
    have hNo := fun w => hN (by omega) w
    rw [r]
    simp only
    generalize txt (nt l) = Y at *
    clear hF hN hC hself hX hx h r f
    go_enter Tryz.func14, Tryz.ntmps14
    go_wp2_with (go_at_call 17; fail)
    refine hTy.mono ?_
    rintro e w1 ⟨rfl, hb1⟩
    go_wp2_with (go_at_call 31; fail)
    refine (hFo _ (hlT _ hb1)).mono ?_
    rintro e w2 ⟨rfl, hb2⟩
    go_wp2_with (go_at_call 32; fail)
    refine (hNo _).mono ?_
    rintro e w3 ⟨rfl, hb3⟩
    go_wp2
    go_ret2
    have hb12 := hb1.trans (hb2.mono hb1.size)
    exact ⟨rfl, hb12.trans (hb3.mono hb12.size)⟩
  | same h k f r =>
    rw [hx] at h f
    obtain ⟨e0, e5⟩ := int_cases (x := x) ⟨by omega, by omega⟩
    have e1 : (x == 1) = false := beq_false_of_ne (by omega)
    have hk : ¬ ((v.size : Int) < 1) := by omega
    have hk2 : ¬ ((200 : Int) < (v.size : Int)) := by omega
    have hFo := fun w hT => hF ⟨by omega, by omega⟩ (by omega) true (by simp [f]) w hT
    rw [r]
    simp only
    rw [hself]
    clear hF hN hself hX hx h r f
    go_enter Tryz.func14, Tryz.ntmps14
    go_wp2_with (go_at_call 17; fail)
    refine hTy.mono ?_
    rintro e w1 ⟨rfl, hb1⟩
    go_wp2_with (go_at_call 31; fail)
    refine (hFo _ (hlT _ hb1)).mono ?_
    rintro e w2 ⟨rfl, hb2⟩
    go_wp2_with (go_at_call 33; fail)
    refine (hC _).mono ?_
    rintro e w3 ⟨rfl, hb3⟩
    go_wp2
    go_ret2
    have hb12 := hb1.trans (hb2.mono hb1.size)
    exact ⟨rfl, hb12.trans (hb3.mono hb12.size)⟩

end Go.Proofs.YtedenhfpbabjkaaGreatDoor
