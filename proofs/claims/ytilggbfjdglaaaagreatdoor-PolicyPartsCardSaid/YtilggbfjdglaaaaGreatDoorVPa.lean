/-
  PolicyParts where the rules, or the question, are not looked at. By an AI agent.
-/
import Derived.Test.YtilggbfjdglaaaaGreatDoorVLook
namespace Go.Proofs.YtilggbfjdglaaaaGreatDoor
open Go.RowKit Go.Proofs.YtilggbfjdglaaaaGreatDoor.Opens
set_option linter.unusedVariables false

set_option maxRecDepth 100000 in
set_option maxHeartbeats 64000000 in
theorem parts_a (L : List Ru) (b : Int) (s n a : List UInt8) (x : Int) (w : World) (A : Option Addr) (nl cl : Nat) (hA : Has w w.heap.size 5 A nl (rusC L)) (hT : TM w) (z1 : (20 : Int) < (nl : Int)) :
    Calls Tryz.prog 4 #[.slice A nl cl, .int .i64 b, .agg #[.string (txt s), .string (txt n), .string (txt a), .int .i64 x]] w fun e w' => e = .returned (.bool true) ∧ Below w.heap.size w w' := by
  have hb1 := below1 w (.cells #[.string (txt s), .string (txt n), .string (txt a), .int .i64 x] 24)
  have hX := Box4.new w (txt s) (txt n) (txt a) x 24
  have hT1 := hT.below hb1
  have hA1 := (hA.below hb1).upto hb1.size
  obtain ⟨w1, hw1⟩ : ∃ w1, w.alloc (.cells #[.string (txt s), .string (txt n), .string (txt a), .int .i64 x] 24) = w1 := ⟨_, rfl⟩
  obtain ⟨h, hh⟩ : ∃ h, w.heap.size = h := ⟨_, rfl⟩
  rw [hw1] at hb1 hX hT1 hA1
  rw [hh] at hX
  have HX := hide hX
  have HB := hide hb1
  have HT := hide hT1
  have HA := hide hA1
  have Hw1 := hide hw1
  have Hh := hide hh
  clear hb1 hX hT1 hA1 hw1 hh hT hA
  generalize txt s = S at *
  generalize txt n = U at *
  generalize txt a = V at *
  go_enter Tryz.func4, Tryz.ntmps4
  go_upto_region 1 with fail
  rw [Hw1.out, Hh.out]
  go_wp2_with (go_at_call 5; fail)
  refine (awake12_any _ HT.out).mono ?_
  rintro e w2 ⟨rfl, hb⟩
  have HX' := hide (HX.out.grow hb)
  have HB' := hide (HB.out.trans (hb.mono HB.out.size))
  have HT' := hide (HT.out.below hb)
  have HA' := hide ((HA.out.below hb).upto hb.size)
  clear hb HX HB HT HA
  have HX := HX'
  have HB := HB'
  have HT := HT'
  have HA := HA'
  clear HX' HB' HT' HA'
  go_wp2_with (go_at_call 5; fail)
  refine (awake12_any _ HT.out).mono ?_
  rintro e w3 ⟨rfl, hb⟩
  have HX' := hide (HX.out.grow hb)
  have HB' := hide (HB.out.trans (hb.mono HB.out.size))
  have HT' := hide (HT.out.below hb)
  have HA' := hide ((HA.out.below hb).upto hb.size)
  clear hb HX HB HT HA
  have HX := HX'
  have HB := HB'
  have HT := HT'
  have HA := HA'
  clear HX' HB' HT' HA'
  go_wp2
  go_ret
  exact ⟨rfl, HB.out⟩

set_option maxRecDepth 100000 in
set_option maxHeartbeats 64000000 in
theorem parts_b (L : List Ru) (b : Int) (s n a : List UInt8) (x : Int) (w : World) (A : Option Addr) (nl cl : Nat) (hA : Has w w.heap.size 5 A nl (rusC L)) (hT : TM w) (z1 : ¬ ((20 : Int) < (nl : Int))) (hFew : ∀ w, Has w w.heap.size 5 A nl (rusC L) → Calls Tryz.prog 6 #[.slice A nl cl] w fun e w' => e = .returned (.bool false) ∧ Below w.heap.size w w') :
    Calls Tryz.prog 4 #[.slice A nl cl, .int .i64 b, .agg #[.string (txt s), .string (txt n), .string (txt a), .int .i64 x]] w fun e w' => e = .returned (.bool true) ∧ Below w.heap.size w w' := by
  have hb1 := below1 w (.cells #[.string (txt s), .string (txt n), .string (txt a), .int .i64 x] 24)
  have hX := Box4.new w (txt s) (txt n) (txt a) x 24
  have hT1 := hT.below hb1
  have hA1 := (hA.below hb1).upto hb1.size
  obtain ⟨w1, hw1⟩ : ∃ w1, w.alloc (.cells #[.string (txt s), .string (txt n), .string (txt a), .int .i64 x] 24) = w1 := ⟨_, rfl⟩
  obtain ⟨h, hh⟩ : ∃ h, w.heap.size = h := ⟨_, rfl⟩
  rw [hw1] at hb1 hX hT1 hA1
  rw [hh] at hX
  have HX := hide hX
  have HB := hide hb1
  have HT := hide hT1
  have HA := hide hA1
  have Hw1 := hide hw1
  have Hh := hide hh
  clear hb1 hX hT1 hA1 hw1 hh hT hA
  have HFew := hide hFew
  clear hFew
  generalize txt s = S at *
  generalize txt n = U at *
  generalize txt a = V at *
  go_enter Tryz.func4, Tryz.ntmps4
  go_upto_region 1 with fail
  rw [Hw1.out, Hh.out]
  go_wp2_with (go_at_call 5; fail)
  refine (awake12_any _ HT.out).mono ?_
  rintro e w2 ⟨rfl, hb⟩
  have HX' := hide (HX.out.grow hb)
  have HB' := hide (HB.out.trans (hb.mono HB.out.size))
  have HT' := hide (HT.out.below hb)
  have HA' := hide ((HA.out.below hb).upto hb.size)
  clear hb HX HB HT HA
  have HX := HX'
  have HB := HB'
  have HT := HT'
  have HA := HA'
  clear HX' HB' HT' HA'
  go_wp2_with (go_at_call 6; fail)
  refine (HFew.out _ HA.out).mono ?_
  rintro e w3 ⟨rfl, hb⟩
  have HX' := hide (HX.out.grow hb)
  have HB' := hide (HB.out.trans (hb.mono HB.out.size))
  have HT' := hide (HT.out.below hb)
  have HA' := hide ((HA.out.below hb).upto hb.size)
  clear hb HX HB HT HA
  have HX := HX'
  have HB := HB'
  have HT := HT'
  have HA := HA'
  clear HX' HB' HT' HA'
  go_wp2_with (go_at_call 5; fail)
  refine (awake12_any _ HT.out).mono ?_
  rintro e w4 ⟨rfl, hb⟩
  have HX' := hide (HX.out.grow hb)
  have HB' := hide (HB.out.trans (hb.mono HB.out.size))
  have HT' := hide (HT.out.below hb)
  have HA' := hide ((HA.out.below hb).upto hb.size)
  clear hb HX HB HT HA
  have HX := HX'
  have HB := HB'
  have HT := HT'
  have HA := HA'
  clear HX' HB' HT' HA'
  go_wp2
  go_ret
  exact ⟨rfl, HB.out⟩

set_option maxRecDepth 100000 in
set_option maxHeartbeats 64000000 in
theorem parts_c (L : List Ru) (b : Int) (s n a : List UInt8) (x : Int) (w : World) (A : Option Addr) (nl cl : Nat) (hA : Has w w.heap.size 5 A nl (rusC L)) (hT : TM w) (z1 : ¬ ((20 : Int) < (nl : Int))) (hFew : ∀ w, Has w w.heap.size 5 A nl (rusC L) → Calls Tryz.prog 6 #[.slice A nl cl] w fun e w' => e = .returned (.bool true) ∧ Below w.heap.size w w') (hAf : ∀ w, Calls Tryz.prog 7 #[.agg #[.string (txt s), .string (txt n), .string (txt a), .int .i64 x]] w fun e w' => e = .returned (.bool false) ∧ Below w.heap.size w w') :
    Calls Tryz.prog 4 #[.slice A nl cl, .int .i64 b, .agg #[.string (txt s), .string (txt n), .string (txt a), .int .i64 x]] w fun e w' => e = .returned (.bool true) ∧ Below w.heap.size w w' := by
  have hb1 := below1 w (.cells #[.string (txt s), .string (txt n), .string (txt a), .int .i64 x] 24)
  have hX := Box4.new w (txt s) (txt n) (txt a) x 24
  have hT1 := hT.below hb1
  have hA1 := (hA.below hb1).upto hb1.size
  obtain ⟨w1, hw1⟩ : ∃ w1, w.alloc (.cells #[.string (txt s), .string (txt n), .string (txt a), .int .i64 x] 24) = w1 := ⟨_, rfl⟩
  obtain ⟨h, hh⟩ : ∃ h, w.heap.size = h := ⟨_, rfl⟩
  rw [hw1] at hb1 hX hT1 hA1
  rw [hh] at hX
  have HX := hide hX
  have HB := hide hb1
  have HT := hide hT1
  have HA := hide hA1
  have Hw1 := hide hw1
  have Hh := hide hh
  clear hb1 hX hT1 hA1 hw1 hh hT hA
  have HFew := hide hFew
  have HAf := hide hAf
  clear hFew hAf
  generalize txt s = S at *
  generalize txt n = U at *
  generalize txt a = V at *
  go_enter Tryz.func4, Tryz.ntmps4
  go_upto_region 1 with fail
  rw [Hw1.out, Hh.out]
  go_wp2_with (go_at_call 5; fail)
  refine (awake12_any _ HT.out).mono ?_
  rintro e w2 ⟨rfl, hb⟩
  have HX' := hide (HX.out.grow hb)
  have HB' := hide (HB.out.trans (hb.mono HB.out.size))
  have HT' := hide (HT.out.below hb)
  have HA' := hide ((HA.out.below hb).upto hb.size)
  clear hb HX HB HT HA
  have HX := HX'
  have HB := HB'
  have HT := HT'
  have HA := HA'
  clear HX' HB' HT' HA'
  go_wp2_with (go_at_call 6; fail)
  refine (HFew.out _ HA.out).mono ?_
  rintro e w3 ⟨rfl, hb⟩
  have HX' := hide (HX.out.grow hb)
  have HB' := hide (HB.out.trans (hb.mono HB.out.size))
  have HT' := hide (HT.out.below hb)
  have HA' := hide ((HA.out.below hb).upto hb.size)
  clear hb HX HB HT HA
  have HX := HX'
  have HB := HB'
  have HT := HT'
  have HA := HA'
  clear HX' HB' HT' HA'
  obtain ⟨x5, x0, x1, x2, x3⟩ := HX.out
  go_wp2_with (go_at_call 7; fail)
  refine (HAf.out _).mono ?_
  rintro e w4 ⟨rfl, hb⟩
  clear x0 x1 x2 x3 x5
  have HX' := hide (HX.out.grow hb)
  have HB' := hide (HB.out.trans (hb.mono HB.out.size))
  have HT' := hide (HT.out.below hb)
  have HA' := hide ((HA.out.below hb).upto hb.size)
  clear hb HX HB HT HA
  have HX := HX'
  have HB := HB'
  have HT := HT'
  have HA := HA'
  clear HX' HB' HT' HA'
  go_wp2_with (go_at_call 5; fail)
  refine (awake12_any _ HT.out).mono ?_
  rintro e w5 ⟨rfl, hb⟩
  have HX' := hide (HX.out.grow hb)
  have HB' := hide (HB.out.trans (hb.mono HB.out.size))
  have HT' := hide (HT.out.below hb)
  have HA' := hide ((HA.out.below hb).upto hb.size)
  clear hb HX HB HT HA
  have HX := HX'
  have HB := HB'
  have HT := HT'
  have HA := HA'
  clear HX' HB' HT' HA'
  go_wp2
  go_ret
  exact ⟨rfl, HB.out⟩

set_option maxRecDepth 100000 in
set_option maxHeartbeats 64000000 in
theorem parts_d (L : List Ru) (b : Int) (s n a : List UInt8) (x : Int) (w : World) (A : Option Addr) (nl cl : Nat) (hA : Has w w.heap.size 5 A nl (rusC L)) (hT : TM w) (z1 : ¬ ((20 : Int) < (nl : Int))) (hFew : ∀ w, Has w w.heap.size 5 A nl (rusC L) → Calls Tryz.prog 6 #[.slice A nl cl] w fun e w' => e = .returned (.bool true) ∧ Below w.heap.size w w') (hAf : ∀ w, Calls Tryz.prog 7 #[.agg #[.string (txt s), .string (txt n), .string (txt a), .int .i64 x]] w fun e w' => e = .returned (.bool true) ∧ Below w.heap.size w w') (hG : ∀ w, Has w w.heap.size 5 A nl (rusC L) → TM w → Calls Tryz.prog 11 #[.slice A nl cl] w fun e w' => e = .returned (.bool false) ∧ Below w.heap.size w w') :
    Calls Tryz.prog 4 #[.slice A nl cl, .int .i64 b, .agg #[.string (txt s), .string (txt n), .string (txt a), .int .i64 x]] w fun e w' => e = .returned (.bool true) ∧ Below w.heap.size w w' := by
  have hb1 := below1 w (.cells #[.string (txt s), .string (txt n), .string (txt a), .int .i64 x] 24)
  have hX := Box4.new w (txt s) (txt n) (txt a) x 24
  have hT1 := hT.below hb1
  have hA1 := (hA.below hb1).upto hb1.size
  obtain ⟨w1, hw1⟩ : ∃ w1, w.alloc (.cells #[.string (txt s), .string (txt n), .string (txt a), .int .i64 x] 24) = w1 := ⟨_, rfl⟩
  obtain ⟨h, hh⟩ : ∃ h, w.heap.size = h := ⟨_, rfl⟩
  rw [hw1] at hb1 hX hT1 hA1
  rw [hh] at hX
  have HX := hide hX
  have HB := hide hb1
  have HT := hide hT1
  have HA := hide hA1
  have Hw1 := hide hw1
  have Hh := hide hh
  clear hb1 hX hT1 hA1 hw1 hh hT hA
  have HFew := hide hFew
  have HAf := hide hAf
  have HG := hide hG
  clear hFew hAf hG
  generalize txt s = S at *
  generalize txt n = U at *
  generalize txt a = V at *
  go_enter Tryz.func4, Tryz.ntmps4
  go_upto_region 1 with fail
  rw [Hw1.out, Hh.out]
  go_wp2_with (go_at_call 5; fail)
  refine (awake12_any _ HT.out).mono ?_
  rintro e w2 ⟨rfl, hb⟩
  have HX' := hide (HX.out.grow hb)
  have HB' := hide (HB.out.trans (hb.mono HB.out.size))
  have HT' := hide (HT.out.below hb)
  have HA' := hide ((HA.out.below hb).upto hb.size)
  clear hb HX HB HT HA
  have HX := HX'
  have HB := HB'
  have HT := HT'
  have HA := HA'
  clear HX' HB' HT' HA'
  go_wp2_with (go_at_call 6; fail)
  refine (HFew.out _ HA.out).mono ?_
  rintro e w3 ⟨rfl, hb⟩
  have HX' := hide (HX.out.grow hb)
  have HB' := hide (HB.out.trans (hb.mono HB.out.size))
  have HT' := hide (HT.out.below hb)
  have HA' := hide ((HA.out.below hb).upto hb.size)
  clear hb HX HB HT HA
  have HX := HX'
  have HB := HB'
  have HT := HT'
  have HA := HA'
  clear HX' HB' HT' HA'
  obtain ⟨x5, x0, x1, x2, x3⟩ := HX.out
  go_wp2_with (go_at_call 7; fail)
  refine (HAf.out _).mono ?_
  rintro e w4 ⟨rfl, hb⟩
  clear x0 x1 x2 x3 x5
  have HX' := hide (HX.out.grow hb)
  have HB' := hide (HB.out.trans (hb.mono HB.out.size))
  have HT' := hide (HT.out.below hb)
  have HA' := hide ((HA.out.below hb).upto hb.size)
  clear hb HX HB HT HA
  have HX := HX'
  have HB := HB'
  have HT := HT'
  have HA := HA'
  clear HX' HB' HT' HA'
  go_wp2_with (go_at_call 11; fail)
  refine (HG.out _ HA.out HT.out).mono ?_
  rintro e w5 ⟨rfl, hb⟩
  have HX' := hide (HX.out.grow hb)
  have HB' := hide (HB.out.trans (hb.mono HB.out.size))
  have HT' := hide (HT.out.below hb)
  have HA' := hide ((HA.out.below hb).upto hb.size)
  clear hb HX HB HT HA
  have HX := HX'
  have HB := HB'
  have HT := HT'
  have HA := HA'
  clear HX' HB' HT' HA'
  go_wp2_with (go_at_call 5; fail)
  refine (awake12_any _ HT.out).mono ?_
  rintro e w6 ⟨rfl, hb⟩
  have HX' := hide (HX.out.grow hb)
  have HB' := hide (HB.out.trans (hb.mono HB.out.size))
  have HT' := hide (HT.out.below hb)
  have HA' := hide ((HA.out.below hb).upto hb.size)
  clear hb HX HB HT HA
  have HX := HX'
  have HB := HB'
  have HT := HT'
  have HA := HA'
  clear HX' HB' HT' HA'
  go_wp2
  go_ret
  exact ⟨rfl, HB.out⟩

end Go.Proofs.YtilggbfjdglaaaaGreatDoor
