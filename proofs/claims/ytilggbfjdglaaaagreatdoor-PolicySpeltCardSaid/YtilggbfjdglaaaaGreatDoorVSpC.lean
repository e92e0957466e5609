/-
  PolicySpelt where a name is none. By an AI agent.
-/
import Derived.Test.YtilggbfjdglaaaaGreatDoorVLook
namespace Go.Proofs.YtilggbfjdglaaaaGreatDoor
open Go.RowKit Go.Proofs.YtilggbfjdglaaaaGreatDoor.Opens
set_option linter.unusedVariables false

set_option maxRecDepth 100000 in
set_option maxHeartbeats 64000000 in
theorem spelt_c (L : List Ru) (s n a : List UInt8) (x : Int) (w : World) (A : Option Addr) (nl cl : Nat) (hA : Has w w.heap.size 5 A nl (rusC L)) (hT : TM w) (hFew : ∀ w, Has w w.heap.size 5 A nl (rusC L) → Calls Tryz.prog 6 #[.slice A nl cl] w fun e w' => e = .returned (.bool true) ∧ Below w.heap.size w w') (hAf : ∀ w, Calls Tryz.prog 7 #[.agg #[.string (txt s), .string (txt n), .string (txt a), .int .i64 x]] w fun e w' => e = .returned (.bool true) ∧ Below w.heap.size w w') (S1 U1 : ByteArray) (y1 y2 : Int) (e1 : (y1 == 0) = false ∨ ((y1 == 0) = true ∧ (y2 == 0) = false)) (hN1 : ∀ w, TM w → Calls Tryz.prog 8 #[.string (txt s)] w fun e w' => e = .returned (.tuple #[.string S1, .int .i64 y1]) ∧ Below w.heap.size w w') (hN2 : ∀ w, TM w → Calls Tryz.prog 8 #[.string (txt n)] w fun e w' => e = .returned (.tuple #[.string U1, .int .i64 y2]) ∧ Below w.heap.size w w') (hD : ∀ w A c, Has w w.heap.size 5 A L.length (rusC L) → TM w → Calls Tryz.prog 9 #[.slice A L.length c, .string (txt s), .int .i64 x, .string (txt n), .string (txt a)] w fun e w' => e = .returned (.bool false) ∧ Below w.heap.size w w') (hl : nl ≤ 100000) :
    Calls Tryz.prog 3 #[.slice A nl cl, .agg #[.string (txt s), .string (txt n), .string (txt a), .int .i64 x]] w fun e w' => e = .returned (.bool true) ∧ Below w.heap.size w w' := by
  have hb1 := below1 w (.cells #[.string (txt s), .string (txt n), .string (txt a), .int .i64 x] 24)
  have hX := Box4.new w (txt s) (txt n) (txt a) x 24
  have hT1 := hT.below hb1
  have hA1 := (hA.below hb1).upto hb1.size
  obtain ⟨w1, hw1⟩ : ∃ w1, w.alloc (.cells #[.string (txt s), .string (txt n), .string (txt a), .int .i64 x] 24) = w1 := ⟨_, rfl⟩
  obtain ⟨h, hh⟩ : ∃ h, w.heap.size = h := ⟨_, rfl⟩
  rw [hw1] at hb1 hX hT1 hA1
  rw [hh] at hX
  have HX := hide hX
  have HB := hide hb1
  have HT := hide hT1
  have HA := hide hA1
  have Hw1 := hide hw1
  have Hh := hide hh
  clear hb1 hX hT1 hA1 hw1 hh hT hA
  have HFew := hide hFew
  have HAf := hide hAf
  have HN1 := hide hN1
  have HN2 := hide hN2
  have HD := hide hD
  clear hFew hAf hN1 hN2 hD
  have n1 : (y1 != 0) = !(y1 == 0) := rfl
  have n2 : (y2 != 0) = !(y2 == 0) := rfl
  generalize txt s = S at *
  generalize txt n = U at *
  generalize txt a = V at *
  rcases e1 with e1 | ⟨e1, e2⟩
  · rw [e1, Bool.not_false] at n1
    clear n2
    go_enter Tryz.func3, Tryz.ntmps3
    go_upto_region 1 with fail
    rw [Hw1.out, Hh.out]
    go_wp2_with (go_at_call 5; fail)
    refine (awake12_any _ HT.out).mono ?_
    rintro e w2 ⟨rfl, hb⟩
    have HX' := hide (HX.out.grow hb)
    have HB' := hide (HB.out.trans (hb.mono HB.out.size))
    have HT' := hide (HT.out.below hb)
    have HA' := hide ((HA.out.below hb).upto hb.size)
    clear hb HX HB HT HA
    have HX := HX'
    have HB := HB'
    have HT := HT'
    have HA := HA'
    clear HX' HB' HT' HA'
    go_wp2_with (go_at_call 6; fail)
    refine (HFew.out _ HA.out).mono ?_
    rintro e w3 ⟨rfl, hb⟩
    have HX' := hide (HX.out.grow hb)
    have HB' := hide (HB.out.trans (hb.mono HB.out.size))
    have HT' := hide (HT.out.below hb)
    have HA' := hide ((HA.out.below hb).upto hb.size)
    clear hb HX HB HT HA
    have HX := HX'
    have HB := HB'
    have HT := HT'
    have HA := HA'
    clear HX' HB' HT' HA'
    obtain ⟨x5, x0, x1, x2, x3⟩ := HX.out
    go_wp2_with (go_at_call 7; fail)
    refine (HAf.out _).mono ?_
    rintro e w4 ⟨rfl, hb⟩
    clear x0 x1 x2 x3 x5
    have HX' := hide (HX.out.grow hb)
    have HB' := hide (HB.out.trans (hb.mono HB.out.size))
    have HT' := hide (HT.out.below hb)
    have HA' := hide ((HA.out.below hb).upto hb.size)
    clear hb HX HB HT HA
    have HX := HX'
    have HB := HB'
    have HT := HT'
    have HA := HA'
    clear HX' HB' HT' HA'
    obtain ⟨x5, x0, x1, x2, x3⟩ := HX.out
    go_wp2_with (go_at_call 8; fail)
    refine (HN1.out _ HT.out).mono ?_
    rintro e w5 ⟨rfl, hb⟩
    clear x0 x1 x2 x3 x5
    have HX' := hide (HX.out.grow hb)
    have HB' := hide (HB.out.trans (hb.mono HB.out.size))
    have HT' := hide (HT.out.below hb)
    have HA' := hide ((HA.out.below hb).upto hb.size)
    clear hb HX HB HT HA
    have HX := HX'
    have HB := HB'
    have HT := HT'
    have HA := HA'
    clear HX' HB' HT' HA'
    obtain ⟨x5, x0, x1, x2, x3⟩ := HX.out
    go_wp2_with (go_at_call 8; fail)
    refine (HN2.out _ HT.out).mono ?_
    rintro e w6 ⟨rfl, hb⟩
    clear x0 x1 x2 x3 x5
    have HX' := hide (HX.out.grow hb)
    have HB' := hide (HB.out.trans (hb.mono HB.out.size))
    have HT' := hide (HT.out.below hb)
    have HA' := hide ((HA.out.below hb).upto hb.size)
    clear hb HX HB HT HA
    have HX := HX'
    have HB := HB'
    have HT := HT'
    have HA := HA'
    clear HX' HB' HT' HA'
    go_wp2_with fail
    refine grow_begin (by kernel_rfl) ?_
    have hdr : Below w6.heap.size w6 w6.drew := (Below.refl _ _).drew
    have HX' := hide (HX.out.grow hdr)
    have HB' := hide (HB.out.trans (hdr.mono HB.out.size))
    have HT' := hide (HT.out.below hdr)
    have HA' := hide ((HA.out.below hdr).upto hdr.size)
    clear hdr HX HB HT HA
    have HX := HX'
    have HB := HB'
    have HT := HT'
    have HA := HA'
    clear HX' HB' HT' HA'
    generalize w6.drew = wd at *
    obtain ⟨x5, x0, x1, x2, x3⟩ := HX.out
    refine grow_take 0 (some 40) (v := ?vp0) rfl rfl (by kernel_rfl) (by kernel_rfl) (by kernel_rfl) (fun _ _ _ h => h) (by rfl) (fun W hW => ?yp0) ?_
    case yp0 =>
      go_simp <;> with_reducible rfl
    simp only [Act.put, List.setIfInBounds_toArray, List.set_cons_zero, List.set_cons_succ]
    refine grow_take 2 (some 42) (v := ?vp2) rfl rfl (by kernel_rfl) (by kernel_rfl) (by kernel_rfl) (fun _ _ _ h => h) (by rfl) (fun W hW => ?yp2) ?_
    case yp2 =>
      go_simp <;> with_reducible rfl
    simp only [Act.put, List.setIfInBounds_toArray, List.set_cons_zero, List.set_cons_succ]
    refine grow_take 3 (some 43) (v := ?vp3) rfl rfl (by kernel_rfl) (by kernel_rfl) (by kernel_rfl) (fun _ _ _ h => h) (by rfl) (fun W hW => ?yp3) ?_
    case yp3 =>
      have h1 := (hW.cell (p := ⟨h, 0, none⟩) x5).trans x0
      go_simp <;> with_reducible rfl
    simp only [Act.put, List.setIfInBounds_toArray, List.set_cons_zero, List.set_cons_succ]
    refine grow_take 4 (some 44) (v := ?vp4) rfl rfl (by kernel_rfl) (by kernel_rfl) (by kernel_rfl) (fun _ _ _ h => h) (by rfl) (fun W hW => ?yp4) ?_
    case yp4 =>
      go_simp <;> with_reducible rfl
    simp only [Act.put, List.setIfInBounds_toArray, List.set_cons_zero, List.set_cons_succ]
    refine grow_take 5 (some 45) (v := ?vp5) rfl rfl (by kernel_rfl) (by kernel_rfl) (by kernel_rfl) (fun _ _ _ h => h) (by rfl) (fun W hW => ?yp5) ?_
    case yp5 =>
      have h1 := (hW.cell (p := ⟨h, 3, none⟩) x5).trans x3
      go_simp <;> with_reducible rfl
    simp only [Act.put, List.setIfInBounds_toArray, List.set_cons_zero, List.set_cons_succ]
    refine grow_take 6 (some 46) (v := ?vp6) rfl rfl (by kernel_rfl) (by kernel_rfl) (by kernel_rfl) (fun _ _ _ h => h) (by rfl) (fun W hW => ?yp6) ?_
    case yp6 =>
      go_simp <;> with_reducible rfl
    simp only [Act.put, List.setIfInBounds_toArray, List.set_cons_zero, List.set_cons_succ]
    refine grow_take 7 (some 47) (v := ?vp7) rfl rfl (by kernel_rfl) (by kernel_rfl) (by kernel_rfl) (fun _ _ _ h => h) (by rfl) (fun W hW => ?yp7) ?_
    case yp7 =>
      have h1 := (hW.cell (p := ⟨h, 1, none⟩) x5).trans x1
      go_simp <;> with_reducible rfl
    simp only [Act.put, List.setIfInBounds_toArray, List.set_cons_zero, List.set_cons_succ]
    refine grow_take 8 (some 48) (v := ?vp8) rfl rfl (by kernel_rfl) (by kernel_rfl) (by kernel_rfl) (fun _ _ _ h => h) (by rfl) (fun W hW => ?yp8) ?_
    case yp8 =>
      go_simp <;> with_reducible rfl
    simp only [Act.put, List.setIfInBounds_toArray, List.set_cons_zero, List.set_cons_succ]
    refine grow_take 9 (some 49) (v := ?vp9) rfl rfl (by kernel_rfl) (by kernel_rfl) (by kernel_rfl) (fun _ _ _ h => h) (by rfl) (fun W hW => ?yp9) ?_
    case yp9 =>
      have h1 := (hW.cell (p := ⟨h, 2, none⟩) x5).trans x2
      go_simp <;> with_reducible rfl
    simp only [Act.put, List.setIfInBounds_toArray, List.set_cons_zero, List.set_cons_succ]
    refine grow_only 1 rfl (by kernel_rfl) (fun K hK => ?_)
    go_simp
    refine (theirs12_any L _ _ nl cl HA.out (by omega)).mono ?_
    rintro e w5 hpost
    obtain ⟨v, rfl, hown1, hb⟩ := hpost.out
    obtain ⟨A1, c1, rfl, hc1, hh1⟩ := own_form hown1
    refine hK.out _ _ hb ?_
    have HH1 := hide hh1
    have HX9 := hide (HX.out.grow hb)
    have HB9 := hide (HB.out.trans (hb.mono HB.out.size))
    have HT9 := hide (HT.out.below hb)
    have HA9 := hide ((HA.out.below hb).upto hb.size)
    clear hK K hpost hown1 hc1 hh1 hb HX HB HT HA
    have HX := HX9
    have HB := HB9
    have HT := HT9
    have HA := HA9
    clear HX9 HB9 HT9 HA9
    try simp only [Act.put, List.setIfInBounds_toArray, List.set_cons_zero, List.set_cons_succ]
    refine grow_only 10 rfl (by kernel_rfl) (fun K hK => ?_)
    go_simp
    refine (HD.out _ _ _ HH1.out HT.out).mono ?_
    rintro e w6 ⟨rfl, hb⟩
    refine hK.out _ _ hb ?_
    have HX9 := hide (HX.out.grow hb)
    have HB9 := hide (HB.out.trans (hb.mono HB.out.size))
    have HT9 := hide (HT.out.below hb)
    have HA9 := hide ((HA.out.below hb).upto hb.size)
    clear hK K hb HX HB HT HA
    have HX := HX9
    have HB := HB9
    have HT := HT9
    have HA := HA9
    clear HX9 HB9 HT9 HA9
    try simp only [Act.put, List.setIfInBounds_toArray, List.set_cons_zero, List.set_cons_succ]
    refine grow_take 11 (some 51) (v := ?vp11) rfl rfl (by kernel_rfl) (by kernel_rfl) (by kernel_rfl) (fun _ _ _ h => h) (by rfl) (fun W hW => ?yp11) ?_
    case yp11 =>
      go_simp <;> with_reducible rfl
    simp only [Act.put, List.setIfInBounds_toArray, List.set_cons_zero, List.set_cons_succ]
    refine grow_take 12 (some 4) (v := ?vp12) rfl rfl (by kernel_rfl) (by kernel_rfl) (by kernel_rfl) (fun _ _ _ h => h) (by rfl) (fun W hW => ?yp12) ?_
    case yp12 =>
      go_simp <;> with_reducible rfl
    simp only [Act.put, List.setIfInBounds_toArray, List.set_cons_zero, List.set_cons_succ]
    refine grow_done (by kernel_rfl) ?_ _
    go_wp2
    go_ret
    exact ⟨rfl, HB.out⟩
  · rw [e1, Bool.not_true] at n1
    rw [e2, Bool.not_false] at n2
    go_enter Tryz.func3, Tryz.ntmps3
    go_upto_region 1 with fail
    rw [Hw1.out, Hh.out]
    go_wp2_with (go_at_call 5; fail)
    refine (awake12_any _ HT.out).mono ?_
    rintro e w2 ⟨rfl, hb⟩
    have HX' := hide (HX.out.grow hb)
    have HB' := hide (HB.out.trans (hb.mono HB.out.size))
    have HT' := hide (HT.out.below hb)
    have HA' := hide ((HA.out.below hb).upto hb.size)
    clear hb HX HB HT HA
    have HX := HX'
    have HB := HB'
    have HT := HT'
    have HA := HA'
    clear HX' HB' HT' HA'
    go_wp2_with (go_at_call 6; fail)
    refine (HFew.out _ HA.out).mono ?_
    rintro e w3 ⟨rfl, hb⟩
    have HX' := hide (HX.out.grow hb)
    have HB' := hide (HB.out.trans (hb.mono HB.out.size))
    have HT' := hide (HT.out.below hb)
    have HA' := hide ((HA.out.below hb).upto hb.size)
    clear hb HX HB HT HA
    have HX := HX'
    have HB := HB'
    have HT := HT'
    have HA := HA'
    clear HX' HB' HT' HA'
    obtain ⟨x5, x0, x1, x2, x3⟩ := HX.out
    go_wp2_with (go_at_call 7; fail)
    refine (HAf.out _).mono ?_
    rintro e w4 ⟨rfl, hb⟩
    clear x0 x1 x2 x3 x5
    have HX' := hide (HX.out.grow hb)
    have HB' := hide (HB.out.trans (hb.mono HB.out.size))
    have HT' := hide (HT.out.below hb)
    have HA' := hide ((HA.out.below hb).upto hb.size)
    clear hb HX HB HT HA
    have HX := HX'
    have HB := HB'
    have HT := HT'
    have HA := HA'
    clear HX' HB' HT' HA'
    obtain ⟨x5, x0, x1, x2, x3⟩ := HX.out
    go_wp2_with (go_at_call 8; fail)
    refine (HN1.out _ HT.out).mono ?_
    rintro e w5 ⟨rfl, hb⟩
    clear x0 x1 x2 x3 x5
    have HX' := hide (HX.out.grow hb)
    have HB' := hide (HB.out.trans (hb.mono HB.out.size))
    have HT' := hide (HT.out.below hb)
    have HA' := hide ((HA.out.below hb).upto hb.size)
    clear hb HX HB HT HA
    have HX := HX'
    have HB := HB'
    have HT := HT'
    have HA := HA'
    clear HX' HB' HT' HA'
    obtain ⟨x5, x0, x1, x2, x3⟩ := HX.out
    go_wp2_with (go_at_call 8; fail)
    refine (HN2.out _ HT.out).mono ?_
    rintro e w6 ⟨rfl, hb⟩
    clear x0 x1 x2 x3 x5
    have HX' := hide (HX.out.grow hb)
    have HB' := hide (HB.out.trans (hb.mono HB.out.size))
    have HT' := hide (HT.out.below hb)
    have HA' := hide ((HA.out.below hb).upto hb.size)
    clear hb HX HB HT HA
    have HX := HX'
    have HB := HB'
    have HT := HT'
    have HA := HA'
    clear HX' HB' HT' HA'
    go_wp2_with fail
    refine grow_begin (by kernel_rfl) ?_
    have hdr : Below w6.heap.size w6 w6.drew := (Below.refl _ _).drew
    have HX' := hide (HX.out.grow hdr)
    have HB' := hide (HB.out.trans (hdr.mono HB.out.size))
    have HT' := hide (HT.out.below hdr)
    have HA' := hide ((HA.out.below hdr).upto hdr.size)
    clear hdr HX HB HT HA
    have HX := HX'
    have HB := HB'
    have HT := HT'
    have HA := HA'
    clear HX' HB' HT' HA'
    generalize w6.drew = wd at *
    obtain ⟨x5, x0, x1, x2, x3⟩ := HX.out
    refine grow_take 0 (some 40) (v := ?vs0) rfl rfl (by kernel_rfl) (by kernel_rfl) (by kernel_rfl) (fun _ _ _ h => h) (by rfl) (fun W hW => ?ys0) ?_
    case ys0 =>
      go_simp <;> with_reducible rfl
    simp only [Act.put, List.setIfInBounds_toArray, List.set_cons_zero, List.set_cons_succ]
    refine grow_take 2 (some 42) (v := ?vs2) rfl rfl (by kernel_rfl) (by kernel_rfl) (by kernel_rfl) (fun _ _ _ h => h) (by rfl) (fun W hW => ?ys2) ?_
    case ys2 =>
      go_simp <;> with_reducible rfl
    simp only [Act.put, List.setIfInBounds_toArray, List.set_cons_zero, List.set_cons_succ]
    refine grow_take 3 (some 43) (v := ?vs3) rfl rfl (by kernel_rfl) (by kernel_rfl) (by kernel_rfl) (fun _ _ _ h => h) (by rfl) (fun W hW => ?ys3) ?_
    case ys3 =>
      have h1 := (hW.cell (p := ⟨h, 0, none⟩) x5).trans x0
      go_simp <;> with_reducible rfl
    simp only [Act.put, List.setIfInBounds_toArray, List.set_cons_zero, List.set_cons_succ]
    refine grow_take 4 (some 44) (v := ?vs4) rfl rfl (by kernel_rfl) (by kernel_rfl) (by kernel_rfl) (fun _ _ _ h => h) (by rfl) (fun W hW => ?ys4) ?_
    case ys4 =>
      go_simp <;> with_reducible rfl
    simp only [Act.put, List.setIfInBounds_toArray, List.set_cons_zero, List.set_cons_succ]
    refine grow_take 5 (some 45) (v := ?vs5) rfl rfl (by kernel_rfl) (by kernel_rfl) (by kernel_rfl) (fun _ _ _ h => h) (by rfl) (fun W hW => ?ys5) ?_
    case ys5 =>
      have h1 := (hW.cell (p := ⟨h, 3, none⟩) x5).trans x3
      go_simp <;> with_reducible rfl
    simp only [Act.put, List.setIfInBounds_toArray, List.set_cons_zero, List.set_cons_succ]
    refine grow_take 6 (some 46) (v := ?vs6) rfl rfl (by kernel_rfl) (by kernel_rfl) (by kernel_rfl) (fun _ _ _ h => h) (by rfl) (fun W hW => ?ys6) ?_
    case ys6 =>
      go_simp <;> with_reducible rfl
    simp only [Act.put, List.setIfInBounds_toArray, List.set_cons_zero, List.set_cons_succ]
    refine grow_take 7 (some 47) (v := ?vs7) rfl rfl (by kernel_rfl) (by kernel_rfl) (by kernel_rfl) (fun _ _ _ h => h) (by rfl) (fun W hW => ?ys7) ?_
    case ys7 =>
      have h1 := (hW.cell (p := ⟨h, 1, none⟩) x5).trans x1
      go_simp <;> with_reducible rfl
    simp only [Act.put, List.setIfInBounds_toArray, List.set_cons_zero, List.set_cons_succ]
    refine grow_take 8 (some 48) (v := ?vs8) rfl rfl (by kernel_rfl) (by kernel_rfl) (by kernel_rfl) (fun _ _ _ h => h) (by rfl) (fun W hW => ?ys8) ?_
    case ys8 =>
      go_simp <;> with_reducible rfl
    simp only [Act.put, List.setIfInBounds_toArray, List.set_cons_zero, List.set_cons_succ]
    refine grow_take 9 (some 49) (v := ?vs9) rfl rfl (by kernel_rfl) (by kernel_rfl) (by kernel_rfl) (fun _ _ _ h => h) (by rfl) (fun W hW => ?ys9) ?_
    case ys9 =>
      have h1 := (hW.cell (p := ⟨h, 2, none⟩) x5).trans x2
      go_simp <;> with_reducible rfl
    simp only [Act.put, List.setIfInBounds_toArray, List.set_cons_zero, List.set_cons_succ]
    refine grow_only 1 rfl (by kernel_rfl) (fun K hK => ?_)
    go_simp
    refine (theirs12_any L _ _ nl cl HA.out (by omega)).mono ?_
    rintro e w5 hpost
    obtain ⟨v, rfl, hown1, hb⟩ := hpost.out
    obtain ⟨A1, c1, rfl, hc1, hh1⟩ := own_form hown1
    refine hK.out _ _ hb ?_
    have HH1 := hide hh1
    have HX9 := hide (HX.out.grow hb)
    have HB9 := hide (HB.out.trans (hb.mono HB.out.size))
    have HT9 := hide (HT.out.below hb)
    have HA9 := hide ((HA.out.below hb).upto hb.size)
    clear hK K hpost hown1 hc1 hh1 hb HX HB HT HA
    have HX := HX9
    have HB := HB9
    have HT := HT9
    have HA := HA9
    clear HX9 HB9 HT9 HA9
    try simp only [Act.put, List.setIfInBounds_toArray, List.set_cons_zero, List.set_cons_succ]
    refine grow_only 10 rfl (by kernel_rfl) (fun K hK => ?_)
    go_simp
    refine (HD.out _ _ _ HH1.out HT.out).mono ?_
    rintro e w6 ⟨rfl, hb⟩
    refine hK.out _ _ hb ?_
    have HX9 := hide (HX.out.grow hb)
    have HB9 := hide (HB.out.trans (hb.mono HB.out.size))
    have HT9 := hide (HT.out.below hb)
    have HA9 := hide ((HA.out.below hb).upto hb.size)
    clear hK K hb HX HB HT HA
    have HX := HX9
    have HB := HB9
    have HT := HT9
    have HA := HA9
    clear HX9 HB9 HT9 HA9
    try simp only [Act.put, List.setIfInBounds_toArray, List.set_cons_zero, List.set_cons_succ]
    refine grow_take 11 (some 51) (v := ?vs11) rfl rfl (by kernel_rfl) (by kernel_rfl) (by kernel_rfl) (fun _ _ _ h => h) (by rfl) (fun W hW => ?ys11) ?_
    case ys11 =>
      go_simp <;> with_reducible rfl
    simp only [Act.put, List.setIfInBounds_toArray, List.set_cons_zero, List.set_cons_succ]
    refine grow_take 12 (some 4) (v := ?vs12) rfl rfl (by kernel_rfl) (by kernel_rfl) (by kernel_rfl) (fun _ _ _ h => h) (by rfl) (fun W hW => ?ys12) ?_
    case ys12 =>
      go_simp <;> with_reducible rfl
    simp only [Act.put, List.setIfInBounds_toArray, List.set_cons_zero, List.set_cons_succ]
    refine grow_done (by kernel_rfl) ?_ _
    go_wp2
    go_ret
    exact ⟨rfl, HB.out⟩

end Go.Proofs.YtilggbfjdglaaaaGreatDoor
