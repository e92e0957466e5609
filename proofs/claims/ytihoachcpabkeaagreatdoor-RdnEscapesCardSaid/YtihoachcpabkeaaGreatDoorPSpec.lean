/-
  The reference's small looks: a byte that is written with a stroke ahead, a hexadecimal digit's value. By an AI agent.
-/
import Derived.Test.YtihoachcpabkeaaGreatDoorPMath
import Derived.Test.YtihoachcpabkeaaGreatDoorSeat
namespace Go.Proofs.YtihoachcpabkeaaGreatDoor
open Go.RowKit
set_option linter.unusedVariables false

theorem ne8 {c : UInt8} {k : Nat} (hk : k < 256) (h : c ≠ UInt8.ofNat k) : ((c.toNat : Int) == (k : Int)) = false := by
  refine beq_false_of_ne fun e => h ?_
  have e' : c.toNat = k := by omega
  apply UInt8.toNat_inj.1
  rw [e', UInt8.toNat_ofNat', Nat.mod_eq_of_lt (by omega)]

theorem spec_cases (c : UInt8) : c = 44 ∨ c = 43 ∨ c = 34 ∨ c = 92 ∨ c = 60 ∨ c = 62 ∨ c = 59 ∨ isSpec c = false := by
  unfold isSpec
  by_cases h1 : c = 44
  · exact Or.inl h1
  by_cases h2 : c = 43
  · exact Or.inr (Or.inl h2)
  by_cases h3 : c = 34
  · exact Or.inr (Or.inr (Or.inl h3))
  by_cases h4 : c = 92
  · exact Or.inr (Or.inr (Or.inr (Or.inl h4)))
  by_cases h5 : c = 60
  · exact Or.inr (Or.inr (Or.inr (Or.inr (Or.inl h5))))
  by_cases h6 : c = 62
  · exact Or.inr (Or.inr (Or.inr (Or.inr (Or.inr (Or.inl h6)))))
  by_cases h7 : c = 59
  · exact Or.inr (Or.inr (Or.inr (Or.inr (Or.inr (Or.inr (Or.inl h7))))))
  simp [h1, h2, h3, h4, h5, h6, h7]

/-- What is no such byte, by number. -/
structure NoSpec (x : Int) : Prop where
  a : (x == 44) = false
  b : (x == 43) = false
  c : (x == 34) = false
  d : (x == 92) = false
  e : (x == 60) = false
  f : (x == 62) = false
  g : (x == 59) = false
theorem no_spec {c : UInt8} (h : isSpec c = false) : NoSpec (c.toNat : Int) := by
  unfold isSpec at h
  simp only [Bool.or_eq_false_iff, beq_eq_false_iff_ne] at h
  obtain ⟨⟨⟨⟨⟨⟨h1, h2⟩, h3⟩, h4⟩, h5⟩, h6⟩, h7⟩ := h
  exact ⟨ne8 (k := 44) (by omega) h1, ne8 (k := 43) (by omega) h2, ne8 (k := 34) (by omega) h3, ne8 (k := 92) (by omega) h4, ne8 (k := 60) (by omega) h5, ne8 (k := 62) (by omega) h6, ne8 (k := 59) (by omega) h7⟩

set_option maxRecDepth 100000 in
set_option maxHeartbeats 4000000 in
theorem special_any (c : UInt8) (w : World) :
    Calls Tryz.prog 37 #[.int .u8 (c.toNat : Int)] w fun e w' => e = .returned (.bool (isSpec c)) ∧ w' = w := by
  have hcs := spec_cases c
  rcases hcs with rfl | rfl | rfl | rfl | rfl | rfl | rfl | h
  case inr.inr.inr.inr.inr.inr.inr =>
    obtain ⟨h1, h2, h3, h4, h5, h6, h7⟩ := no_spec h
    rw [h]
    clear h
    generalize (c.toNat : Int) = x at *
    go_enter Tryz.func37, Tryz.ntmps37
    go_wp2
    go_ret
    exact ⟨rfl, rfl⟩
  all_goals
    go_enter Tryz.func37, Tryz.ntmps37
    go_wp2
    go_ret
    exact ⟨rfl, rfl⟩

/-- A digit's value, as the reference tells it. -/
def hexI (c : UInt8) : Int := match hexV c with
  | some k => (k : Int)
  | none => -1
theorem hexI_some {c : UInt8} {k : Nat} (h : hexV c = some k) : hexI c = k := by unfold hexI; rw [h]
theorem hexI_none {c : UInt8} (h : hexV c = none) : hexI c = -1 := by unfold hexI; rw [h]
theorem hexV_lt {c : UInt8} {k : Nat} (h : hexV c = some k) : k < 16 := by
  unfold hexV at h
  split at h
  · obtain rfl := Option.some.inj h; omega
  · split at h
    · obtain rfl := Option.some.inj h; omega
    · split at h
      · obtain rfl := Option.some.inj h; omega
      · cases h

set_option maxRecDepth 100000 in
set_option maxHeartbeats 4000000 in
theorem hex_any (c : UInt8) (w : World) :
    Calls Tryz.prog 70 #[.int .u8 (c.toNat : Int)] w fun e w' => e = .returned (.int .i64 (hexI c)) ∧ w' = w := by
  have hI : hexI c = if 48 ≤ c.toNat ∧ c.toNat ≤ 57 then (c.toNat : Int) - 48 else if 97 ≤ c.toNat ∧ c.toNat ≤ 102 then (c.toNat : Int) - 87 else if 65 ≤ c.toNat ∧ c.toNat ≤ 70 then (c.toNat : Int) - 55 else -1 := by
    unfold hexI hexV
    split
    · rename_i k hk
      split at hk
      · rename_i h
        rw [if_pos h]
        obtain rfl := Option.some.inj hk; omega
      · rename_i h
        rw [if_neg h]
        split at hk
        · rename_i h
          rw [if_pos h]
          obtain rfl := Option.some.inj hk; omega
        · rename_i h
          rw [if_neg h]
          split at hk
          · rename_i h
            rw [if_pos h]
            obtain rfl := Option.some.inj hk; omega
          · cases hk
    · rename_i hk
      split at hk
      · cases hk
      · rename_i h
        rw [if_neg h]
        split at hk
        · cases hk
        · rename_i h
          rw [if_neg h]
          split at hk
          · cases hk
          · rename_i h
            rw [if_neg h]
  have hlt := c.toNat_lt
  generalize hexI c = I at *
  generalize hx : c.toNat = x at *
  by_cases h1 : 48 ≤ x ∧ x ≤ 57
  · rw [if_pos h1] at hI
    obtain ⟨a1, a2⟩ := h1
    have b1 : (48 : Int) ≤ x := by omega
    have b2 : (x : Int) ≤ 57 := by omega
    go_enter Tryz.func70, Tryz.ntmps70
    go_wp2
    go_ret
    exact ⟨congrArg (fun z => Ending.returned (Value.int .i64 z)) (show _ = _ by omega), rfl⟩
  · rw [if_neg h1] at hI
    by_cases h2 : 97 ≤ x ∧ x ≤ 102
    · rw [if_pos h2] at hI
      obtain ⟨a1, a2⟩ := h2
      have b0 : ¬ ((x : Int) ≤ 57) := by omega
      have b1 : (97 : Int) ≤ x := by omega
      have b2 : (x : Int) ≤ 102 := by omega
      have b3 : (48 : Int) ≤ x := by omega
      go_enter Tryz.func70, Tryz.ntmps70
      go_wp2
      go_ret
      exact ⟨congrArg (fun z => Ending.returned (Value.int .i64 z)) (show _ = _ by omega), rfl⟩
    · rw [if_neg h2] at hI
      by_cases h3 : 65 ≤ x ∧ x ≤ 70
      · rw [if_pos h3] at hI
        obtain ⟨a1, a2⟩ := h3
        have b0 : ¬ ((x : Int) ≤ 57) := by omega
        have b1 : ¬ ((97 : Int) ≤ x) := by omega
        have b2 : (x : Int) ≤ 70 := by omega
        have b3 : (48 : Int) ≤ x := by omega
        have b4 : (65 : Int) ≤ x := by omega
        go_enter Tryz.func70, Tryz.ntmps70
        go_wp2
        go_ret
        exact ⟨congrArg (fun z => Ending.returned (Value.int .i64 z)) (show _ = _ by omega), rfl⟩
      · rw [if_neg h3] at hI
        subst hI
        by_cases c1 : x < 48
        · have b0 : ¬ ((48 : Int) ≤ x) := by omega
          have b1 : ¬ ((97 : Int) ≤ x) := by omega
          have b2 : ¬ ((65 : Int) ≤ x) := by omega
          go_enter Tryz.func70, Tryz.ntmps70
          go_wp2
          go_ret
          exact ⟨rfl, rfl⟩
        · by_cases c2 : x < 65
          · have b0 : ((48 : Int) ≤ x) := by omega
            have b3 : ¬ ((x : Int) ≤ 57) := by omega
            have b1 : ¬ ((97 : Int) ≤ x) := by omega
            have b2 : ¬ ((65 : Int) ≤ x) := by omega
            go_enter Tryz.func70, Tryz.ntmps70
            go_wp2
            go_ret
            exact ⟨rfl, rfl⟩
          · by_cases c3 : x < 97
            · have b0 : ((48 : Int) ≤ x) := by omega
              have b3 : ¬ ((x : Int) ≤ 57) := by omega
              have b1 : ¬ ((97 : Int) ≤ x) := by omega
              have b2 : ((65 : Int) ≤ x) := by omega
              have b4 : ¬ ((x : Int) ≤ 70) := by omega
              go_enter Tryz.func70, Tryz.ntmps70
              go_wp2
              go_ret
              exact ⟨rfl, rfl⟩
            · have b0 : ((48 : Int) ≤ x) := by omega
              have b3 : ¬ ((x : Int) ≤ 57) := by omega
              have b1 : ((97 : Int) ≤ x) := by omega
              have b2 : ((65 : Int) ≤ x) := by omega
              have b4 : ¬ ((x : Int) ≤ 70) := by omega
              have b5 : ¬ ((x : Int) ≤ 102) := by omega
              go_enter Tryz.func70, Tryz.ntmps70
              go_wp2
              go_ret
              exact ⟨rfl, rfl⟩

end Go.Proofs.YtihoachcpabkeaaGreatDoor
