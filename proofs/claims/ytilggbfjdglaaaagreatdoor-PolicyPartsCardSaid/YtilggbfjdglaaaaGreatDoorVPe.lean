/-
  PolicyParts where all is looked at. By an AI agent.
-/
import Derived.Test.YtilggbfjdglaaaaGreatDoorVLook
import Derived.Test.YtilggbfjdglaaaaGreatDoorGrowZ
namespace Go.Proofs.YtilggbfjdglaaaaGreatDoor
open Go.RowKit Go.Proofs.YtilggbfjdglaaaaGreatDoor.Opens
set_option linter.unusedVariables false
set_option linter.unusedSimpArgs false

set_option maxRecDepth 100000 in
set_option maxHeartbeats 64000000 in
theorem parts_e (L : List Ru) (b : Int) (s n a : List UInt8) (x : Int) (w : World) (A : Option Addr) (nl cl : Nat) (hA : Has w w.heap.size 5 A nl (rusC L)) (hT : TM w) (z1 : ¬ ((20 : Int) < (nl : Int))) (hln : nl = L.length) (hFew : ∀ w, Has w w.heap.size 5 A nl (rusC L) → Calls Tryz.prog 6 #[.slice A nl cl] w fun e w' => e = .returned (.bool true) ∧ Below w.heap.size w w') (hAf : ∀ w, Calls Tryz.prog 7 #[.agg #[.string (txt s), .string (txt n), .string (txt a), .int .i64 x]] w fun e w' => e = .returned (.bool true) ∧ Below w.heap.size w w') (hG : ∀ w, Has w w.heap.size 5 A nl (rusC L) → TM w → Calls Tryz.prog 11 #[.slice A nl cl] w fun e w' => e = .returned (.bool true) ∧ Below w.heap.size w w') (D : Bool) (P : List Ru) (np : Nat) (hP : P = partL b L) (hnp : np = P.length) (hDp : ∀ w A c, Has w w.heap.size 5 A np (rusC P) → TM w → Calls Tryz.prog 9 #[.slice A np c, .string (txt s), .int .i64 x, .string (txt n), .string (txt a)] w fun e w' => e = .returned (.bool D) ∧ Below w.heap.size w w') (hD : ∀ w A c, Has w w.heap.size 5 A L.length (rusC L) → TM w → Calls Tryz.prog 9 #[.slice A L.length c, .string (txt s), .int .i64 x, .string (txt n), .string (txt a)] w fun e w' => e = .returned (.bool D) ∧ Below w.heap.size w w') :
    Calls Tryz.prog 4 #[.slice A nl cl, .int .i64 b, .agg #[.string (txt s), .string (txt n), .string (txt a), .int .i64 x]] w fun e w' => e = .returned (.bool true) ∧ Below w.heap.size w w' := by
  have hb1 := below1 w (.cells #[.string (txt s), .string (txt n), .string (txt a), .int .i64 x] 24)
  have hX := Box4.new w (txt s) (txt n) (txt a) x 24
  have hT1 := hT.below hb1
  have hA1 := (hA.below hb1).upto hb1.size
  obtain ⟨w1, hw1⟩ : ∃ w1, w.alloc (.cells #[.string (txt s), .string (txt n), .string (txt a), .int .i64 x] 24) = w1 := ⟨_, rfl⟩
  obtain ⟨h, hh⟩ : ∃ h, w.heap.size = h := ⟨_, rfl⟩
  rw [hw1] at hb1 hX hT1 hA1
  rw [hh] at hX
  have HX := hide hX
  have HB := hide hb1
  have HT := hide hT1
  have HA := hide hA1
  have Hw1 := hide hw1
  have Hh := hide hh
  clear hb1 hX hT1 hA1 hw1 hh hT hA
  have HL := hide hln
  have HFew := hide hFew
  have HAf := hide hAf
  have HG := hide hG
  have HD := hide hD
  have HDp := hide hDp
  have HP := hide hP
  have Hnp := hide hnp
  have hDD : (D == D) = true := by simp
  clear hln hFew hAf hG hD hDp hP hnp
  generalize txt s = S at *
  generalize txt n = U at *
  generalize txt a = V at *
  go_enter Tryz.func4, Tryz.ntmps4
  go_upto_region 1 with fail
  rw [Hw1.out, Hh.out]
  go_wp2_with (go_at_call 5; fail)
  refine (awake12_any _ HT.out).mono ?_
  rintro e w2 ⟨rfl, hb⟩
  have HX' := hide (HX.out.grow hb)
  have HB' := hide (HB.out.trans (hb.mono HB.out.size))
  have HT' := hide (HT.out.below hb)
  have HA' := hide ((HA.out.below hb).upto hb.size)
  clear hb HX HB HT HA
  have HX := HX'
  have HB := HB'
  have HT := HT'
  have HA := HA'
  clear HX' HB' HT' HA'
  go_wp2_with (go_at_call 6; fail)
  refine (HFew.out _ HA.out).mono ?_
  rintro e w3 ⟨rfl, hb⟩
  have HX' := hide (HX.out.grow hb)
  have HB' := hide (HB.out.trans (hb.mono HB.out.size))
  have HT' := hide (HT.out.below hb)
  have HA' := hide ((HA.out.below hb).upto hb.size)
  clear hb HX HB HT HA
  have HX := HX'
  have HB := HB'
  have HT := HT'
  have HA := HA'
  clear HX' HB' HT' HA'
  obtain ⟨x5, x0, x1, x2, x3⟩ := HX.out
  go_wp2_with (go_at_call 7; fail)
  refine (HAf.out _).mono ?_
  rintro e w4 ⟨rfl, hb⟩
  clear x0 x1 x2 x3 x5
  have HX' := hide (HX.out.grow hb)
  have HB' := hide (HB.out.trans (hb.mono HB.out.size))
  have HT' := hide (HT.out.below hb)
  have HA' := hide ((HA.out.below hb).upto hb.size)
  clear hb HX HB HT HA
  have HX := HX'
  have HB := HB'
  have HT := HT'
  have HA := HA'
  clear HX' HB' HT' HA'
  go_wp2_with (go_at_call 11; fail)
  refine (HG.out _ HA.out HT.out).mono ?_
  rintro e w5 ⟨rfl, hb⟩
  have HX' := hide (HX.out.grow hb)
  have HB' := hide (HB.out.trans (hb.mono HB.out.size))
  have HT' := hide (HT.out.below hb)
  have HA' := hide ((HA.out.below hb).upto hb.size)
  clear hb HX HB HT HA
  have HX := HX'
  have HB := HB'
  have HT := HT'
  have HA := HA'
  clear HX' HB' HT' HA'
  go_wp2
  go_loopg [7, 36] nl (fun r s7 s36 wx => ∃ i : Nat, i + r = nl ∧ s36 = .int .i64 (i : Int) ∧ Hid (wx.ownsRow w5.heap.size 35 5 s7 (partL b (L.take i)).length (rusC (partL b (L.take i)))) ∧ Hid (Below w5.heap.size w5 wx))
  case atStart => exact ⟨0, by omega, rfl, hide (by simpa [partL, rusC] using World.ownsRow_nil _ _ _ _), hide (Below.refl _ _)⟩
  case round =>
    obtain ⟨i, hig, rfl, hor, hbr⟩ := hrel
    have HXr := hide (HX.out.grow hbr.out)
    have HBr := hide (HB.out.trans (hbr.out.mono HB.out.size))
    have HTr := hide (HT.out.below hbr.out)
    have HAr := hide ((HA.out.below hbr.out).upto hbr.out.size)
    have HA0 := HA
    clear HX HB HT HA
    have HX := HXr
    have HB := HBr
    have HT := HTr
    have HA := HAr
    clear HXr HBr HTr HAr
    cases gk with
    | zero =>
      obtain rfl : nl = i := by omega
      have hiz : ¬ ((nl : Int) < (nl : Int)) := by omega
      have ho := hor.out
      rw [List.take_of_length_le (by rw [HL.out]; exact Nat.le_refl _), ← HP.out, ← Hnp.out] at ho
      obtain ⟨Ap, cp, rfl, hcp, hhp⟩ := own_form ho
      have HHp0 := hide hhp
      clear hor ho hcp hhp hbr HA0
      go_wp2_with fail
      refine grow_begin (by kernel_rfl) ?_
      have hdr : Below wr.heap.size wr wr.drew := (Below.refl _ _).drew
      have HX' := hide (HX.out.grow hdr)
      have HB' := hide (HB.out.trans (hdr.mono HB.out.size))
      have HT' := hide (HT.out.below hdr)
      have HA' := hide ((HA.out.below hdr).upto hdr.size)
      have HHp := hide ((HHp0.out.below hdr).upto hdr.size)
      clear HHp0
      clear hdr HX HB HT HA
      have HX := HX'
      have HB := HB'
      have HT := HT'
      have HA := HA'
      clear HX' HB' HT' HA'
      generalize wr.drew = wd at *
      obtain ⟨x5, x0, x1, x2, x3⟩ := HX.out
      refine grow_take 0 (some 72) (v := ?vz0) rfl rfl (by kernel_rfl) (by kernel_rfl) (by kernel_rfl) (fun _ _ _ h => h) (by rfl) (fun W hW => ?yz0) ?_
      case yz0 =>
        go_simp <;> with_reducible rfl
      simp only [Act.put, List.setIfInBounds_toArray, List.set_cons_zero, List.set_cons_succ]
      refine grow_take 1 (some 73) (v := ?vz1) rfl rfl (by kernel_rfl) (by kernel_rfl) (by kernel_rfl) (fun _ _ _ h => h) (by rfl) (fun W hW => ?yz1) ?_
      case yz1 =>
        go_simp <;> with_reducible rfl
      simp only [Act.put, List.setIfInBounds_toArray, List.set_cons_zero, List.set_cons_succ]
      refine grow_take 2 (some 74) (v := ?vz2) rfl rfl (by kernel_rfl) (by kernel_rfl) (by kernel_rfl) (fun _ _ _ h => h) (by rfl) (fun W hW => ?yz2) ?_
      case yz2 =>
        have h1 := (hW.cell (p := ⟨h, 0, none⟩) x5).trans x0
        go_simp <;> with_reducible rfl
      simp only [Act.put, List.setIfInBounds_toArray, List.set_cons_zero, List.set_cons_succ]
      refine grow_take 3 (some 75) (v := ?vz3) rfl rfl (by kernel_rfl) (by kernel_rfl) (by kernel_rfl) (fun _ _ _ h => h) (by rfl) (fun W hW => ?yz3) ?_
      case yz3 =>
        go_simp <;> with_reducible rfl
      simp only [Act.put, List.setIfInBounds_toArray, List.set_cons_zero, List.set_cons_succ]
      refine grow_take 4 (some 76) (v := ?vz4) rfl rfl (by kernel_rfl) (by kernel_rfl) (by kernel_rfl) (fun _ _ _ h => h) (by rfl) (fun W hW => ?yz4) ?_
      case yz4 =>
        have h1 := (hW.cell (p := ⟨h, 3, none⟩) x5).trans x3
        go_simp <;> with_reducible rfl
      simp only [Act.put, List.setIfInBounds_toArray, List.set_cons_zero, List.set_cons_succ]
      refine grow_take 5 (some 77) (v := ?vz5) rfl rfl (by kernel_rfl) (by kernel_rfl) (by kernel_rfl) (fun _ _ _ h => h) (by rfl) (fun W hW => ?yz5) ?_
      case yz5 =>
        go_simp <;> with_reducible rfl
      simp only [Act.put, List.setIfInBounds_toArray, List.set_cons_zero, List.set_cons_succ]
      refine grow_take 6 (some 78) (v := ?vz6) rfl rfl (by kernel_rfl) (by kernel_rfl) (by kernel_rfl) (fun _ _ _ h => h) (by rfl) (fun W hW => ?yz6) ?_
      case yz6 =>
        have h1 := (hW.cell (p := ⟨h, 1, none⟩) x5).trans x1
        go_simp <;> with_reducible rfl
      simp only [Act.put, List.setIfInBounds_toArray, List.set_cons_zero, List.set_cons_succ]
      refine grow_take 7 (some 79) (v := ?vz7) rfl rfl (by kernel_rfl) (by kernel_rfl) (by kernel_rfl) (fun _ _ _ h => h) (by rfl) (fun W hW => ?yz7) ?_
      case yz7 =>
        go_simp <;> with_reducible rfl
      simp only [Act.put, List.setIfInBounds_toArray, List.set_cons_zero, List.set_cons_succ]
      refine grow_take 8 (some 80) (v := ?vz8) rfl rfl (by kernel_rfl) (by kernel_rfl) (by kernel_rfl) (fun _ _ _ h => h) (by rfl) (fun W hW => ?yz8) ?_
      case yz8 =>
        have h1 := (hW.cell (p := ⟨h, 2, none⟩) x5).trans x2
        go_simp <;> with_reducible rfl
      simp only [Act.put, List.setIfInBounds_toArray, List.set_cons_zero, List.set_cons_succ]
      refine grow_take 10 (some 82) (v := ?vz10) rfl rfl (by kernel_rfl) (by kernel_rfl) (by kernel_rfl) (fun _ _ _ h => h) (by rfl) (fun W hW => ?yz10) ?_
      case yz10 =>
        go_simp <;> with_reducible rfl
      simp only [Act.put, List.setIfInBounds_toArray, List.set_cons_zero, List.set_cons_succ]
      refine grow_take 12 (some 84) (v := ?vz12) rfl rfl (by kernel_rfl) (by kernel_rfl) (by kernel_rfl) (fun _ _ _ h => h) (by rfl) (fun W hW => ?yz12) ?_
      case yz12 =>
        go_simp <;> with_reducible rfl
      simp only [Act.put, List.setIfInBounds_toArray, List.set_cons_zero, List.set_cons_succ]
      refine grow_take 13 (some 85) (v := ?vz13) rfl rfl (by kernel_rfl) (by kernel_rfl) (by kernel_rfl) (fun _ _ _ h => h) (by rfl) (fun W hW => ?yz13) ?_
      case yz13 =>
        have h1 := (hW.cell (p := ⟨h, 0, none⟩) x5).trans x0
        go_simp <;> with_reducible rfl
      simp only [Act.put, List.setIfInBounds_toArray, List.set_cons_zero, List.set_cons_succ]
      refine grow_take 14 (some 86) (v := ?vz14) rfl rfl (by kernel_rfl) (by kernel_rfl) (by kernel_rfl) (fun _ _ _ h => h) (by rfl) (fun W hW => ?yz14) ?_
      case yz14 =>
        go_simp <;> with_reducible rfl
      simp only [Act.put, List.setIfInBounds_toArray, List.set_cons_zero, List.set_cons_succ]
      refine grow_take 15 (some 87) (v := ?vz15) rfl rfl (by kernel_rfl) (by kernel_rfl) (by kernel_rfl) (fun _ _ _ h => h) (by rfl) (fun W hW => ?yz15) ?_
      case yz15 =>
        have h1 := (hW.cell (p := ⟨h, 3, none⟩) x5).trans x3
        go_simp <;> with_reducible rfl
      simp only [Act.put, List.setIfInBounds_toArray, List.set_cons_zero, List.set_cons_succ]
      refine grow_take 16 (some 88) (v := ?vz16) rfl rfl (by kernel_rfl) (by kernel_rfl) (by kernel_rfl) (fun _ _ _ h => h) (by rfl) (fun W hW => ?yz16) ?_
      case yz16 =>
        go_simp <;> with_reducible rfl
      simp only [Act.put, List.setIfInBounds_toArray, List.set_cons_zero, List.set_cons_succ]
      refine grow_take 17 (some 89) (v := ?vz17) rfl rfl (by kernel_rfl) (by kernel_rfl) (by kernel_rfl) (fun _ _ _ h => h) (by rfl) (fun W hW => ?yz17) ?_
      case yz17 =>
        have h1 := (hW.cell (p := ⟨h, 1, none⟩) x5).trans x1
        go_simp <;> with_reducible rfl
      simp only [Act.put, List.setIfInBounds_toArray, List.set_cons_zero, List.set_cons_succ]
      refine grow_take 18 (some 90) (v := ?vz18) rfl rfl (by kernel_rfl) (by kernel_rfl) (by kernel_rfl) (fun _ _ _ h => h) (by rfl) (fun W hW => ?yz18) ?_
      case yz18 =>
        go_simp <;> with_reducible rfl
      simp only [Act.put, List.setIfInBounds_toArray, List.set_cons_zero, List.set_cons_succ]
      refine grow_take 19 (some 91) (v := ?vz19) rfl rfl (by kernel_rfl) (by kernel_rfl) (by kernel_rfl) (fun _ _ _ h => h) (by rfl) (fun W hW => ?yz19) ?_
      case yz19 =>
        have h1 := (hW.cell (p := ⟨h, 2, none⟩) x5).trans x2
        go_simp <;> with_reducible rfl
      simp only [Act.put, List.setIfInBounds_toArray, List.set_cons_zero, List.set_cons_succ]
      refine grow_only 9 rfl (by kernel_rfl) (fun K hK => ?_)
      go_simp
      refine (HDp.out _ _ _ HHp.out HT.out).mono ?_
      rintro e w6 ⟨rfl, hb⟩
      refine hK.out _ _ hb ?_
      have HX9 := hide (HX.out.grow hb)
      have HB9 := hide (HB.out.trans (hb.mono HB.out.size))
      have HT9 := hide (HT.out.below hb)
      have HA9 := hide ((HA.out.below hb).upto hb.size)
      clear hK K hb HX HB HT HA
      have HX := HX9
      have HB := HB9
      have HT := HT9
      have HA := HA9
      clear HX9 HB9 HT9 HA9
      try simp only [Act.put, List.setIfInBounds_toArray, List.set_cons_zero, List.set_cons_succ]
      refine grow_only 11 rfl (by kernel_rfl) (fun K hK => ?_)
      go_simp
      refine (theirs12_any L _ _ nl cl HA.out (by omega)).mono ?_
      rintro e w5 hpost
      obtain ⟨v, rfl, hown2, hb⟩ := hpost.out
      obtain ⟨A2, c2, rfl, hc2, hh2⟩ := own_form hown2
      refine hK.out _ _ hb ?_
      have HH2 := hide hh2
      have HX9 := hide (HX.out.grow hb)
      have HB9 := hide (HB.out.trans (hb.mono HB.out.size))
      have HT9 := hide (HT.out.below hb)
      have HA9 := hide ((HA.out.below hb).upto hb.size)
      clear hK K hpost hown2 hc2 hh2 hb HX HB HT HA
      have HX := HX9
      have HB := HB9
      have HT := HT9
      have HA := HA9
      clear HX9 HB9 HT9 HA9
      try simp only [Act.put, List.setIfInBounds_toArray, List.set_cons_zero, List.set_cons_succ]
      refine grow_only 20 rfl (by kernel_rfl) (fun K hK => ?_)
      go_simp
      refine (HD.out _ _ _ HH2.out HT.out).mono ?_
      rintro e w6 ⟨rfl, hb⟩
      refine hK.out _ _ hb ?_
      have HX9 := hide (HX.out.grow hb)
      have HB9 := hide (HB.out.trans (hb.mono HB.out.size))
      have HT9 := hide (HT.out.below hb)
      have HA9 := hide ((HA.out.below hb).upto hb.size)
      clear hK K hb HX HB HT HA
      have HX := HX9
      have HB := HB9
      have HT := HT9
      have HA := HA9
      clear HX9 HB9 HT9 HA9
      try simp only [Act.put, List.setIfInBounds_toArray, List.set_cons_zero, List.set_cons_succ]
      refine grow_take 21 (some 93) (v := ?vz21) rfl rfl (by kernel_rfl) (by kernel_rfl) (by kernel_rfl) (fun _ _ _ h => h) (by rfl) (fun W hW => ?yz21) ?_
      case yz21 =>
        go_simp <;> with_reducible rfl
      simp only [Act.put, List.setIfInBounds_toArray, List.set_cons_zero, List.set_cons_succ]
      refine grow_take 22 (some 6) (v := ?vz22) rfl rfl (by kernel_rfl) (by kernel_rfl) (by kernel_rfl) (fun _ _ _ h => h) (by rfl) (fun W hW => ?yz22) ?_
      case yz22 =>
        go_simp <;> with_reducible rfl
      simp only [Act.put, List.setIfInBounds_toArray, List.set_cons_zero, List.set_cons_succ]
      refine grow_done (by kernel_rfl) ?_ _
      go_wp2
      go_ret
      exact ⟨rfl, HB.out⟩
    | succ r =>
      have hi : i < nl := by omega
      have hiz : (i : Int) < (nl : Int) := by omega
      obtain ⟨q, hq⟩ : ∃ q, L[i]? = some q := ⟨_, List.getElem?_eq_getElem (by rw [← HL.out]; exact hi)⟩
      obtain ⟨g, o, hAe, hg, hat⟩ := HA.out.rule (fun h => by rw [h] at hq; simp at hq)
      subst hAe
      obtain ⟨c0, c1, c2, c3, c4⟩ := hat i q hq
      have Hq := hide hq
      have Hpx : Hid (ruC (partX b q) = [.string (txt q.who), .string (txt q.tgt), .string (txt q.att), .int .i64 (andI q.rts b), .bool q.alw]) := hide rfl
      have Hpy : Hid (ruC (partY b q) = [.string (txt q.who), .string (txt q.tgt), .string (txt q.att), .int .i64 (andNotI q.rts b), .bool q.alw]) := hide rfl
      have Hp1 : Hid (part1 b q = (if andI q.rts b = 0 then [] else [partX b q]) ++ (if andNotI q.rts b = 0 then [] else [partY b q])) := hide rfl
      clear hq hat
      generalize txt q.who = SW at *
      generalize txt q.tgt = ST at *
      generalize txt q.att = SA at *
      generalize hrt : q.rts = rt at *
      generalize q.alw = al at *
      clear hrt
      go_upto_region 7 with fail
      go_cut [9, 10] from 39 to 46 (fun s9 s10 wx => ∃ hx hy : Nat, s9 = .pointer (some ⟨hx, 0, none⟩) ∧ s10 = .pointer (some ⟨hy, 0, none⟩) ∧ Hid (hx ≠ hy) ∧ Hid (wr.heap.size ≤ hx) ∧ Hid (wr.heap.size ≤ hy) ∧ Hid (Blk wx hx [.string SW, .string ST, .string SA, .int .i64 rt, .bool al]) ∧ Hid (Blk wx hy [.string SW, .string ST, .string SA, .int .i64 rt, .bool al]) ∧ Hid (Below wr.heap.size wr wx) ∧ Hid (wr.heap.size ≤ wx.heap.size))
      case first =>
        clear HX HB HT HA HA0 hor hbr HFew HAf HG HD HDp HP Hnp Hq Hpx Hpy Hp1 HL Hw1 Hh
        refine grow_begin_at wr.heap.size (by kernel_rfl) ?_
        have hdr : Below wr.heap.size wr wr.drew := (Below.refl _ _).drew
        have d0 := (hdr.cell (p := ⟨g, o + i * 5, none⟩) hg).trans c0
        have d1 := (hdr.cell (p := ⟨g, o + i * 5 + 1, none⟩) hg).trans c1
        have d2 := (hdr.cell (p := ⟨g, o + i * 5 + 2, none⟩) hg).trans c2
        have d3 := (hdr.cell (p := ⟨g, o + i * 5 + 3, none⟩) hg).trans c3
        have d4 := (hdr.cell (p := ⟨g, o + i * 5 + 4, none⟩) hg).trans c4
        have Hle : Hid (wr.heap.size ≤ wr.drew.heap.size) := hide (Nat.le_refl _)
        have HW := hide hdr
        clear c0 c1 c2 c3 c4 hdr
        generalize wr.drew = wd at *
        refine grow_take 0 (some 39) (v := ?va0) rfl rfl (by kernel_rfl) (by kernel_rfl) (by kernel_rfl) (fun _ _ _ h => h) (by rfl) (fun W hW => ?ya0) ?_
        case ya0 =>
          go_simp <;> with_reducible rfl
        simp only [Act.put, List.setIfInBounds_toArray, List.set_cons_zero, List.set_cons_succ]
        refine grow_take 1 (some 40) (v := ?va1) rfl rfl (by kernel_rfl) (by kernel_rfl) (by kernel_rfl) (fun _ _ _ h => h) (by rfl) (fun W hW => ?ya1) ?_
        case ya1 =>
          go_simp <;> with_reducible rfl
        simp only [Act.put, List.setIfInBounds_toArray, List.set_cons_zero, List.set_cons_succ]
        refine grow_take 2 (some 41) (v := ?va2) rfl rfl (by kernel_rfl) (by kernel_rfl) (by kernel_rfl) (fun _ _ _ h => h) (by rfl) (fun W hW => ?ya2) ?_
        case ya2 =>
          go_simp <;> with_reducible rfl
        simp only [Act.put, List.setIfInBounds_toArray, List.set_cons_zero, List.set_cons_succ]
        refine grow_take 3 (some 42) (v := ?va3) rfl rfl (by kernel_rfl) (by kernel_rfl) (by kernel_rfl) (fun _ _ _ h => h) (by rfl) (fun W hW => ?ya3) ?_
        case ya3 =>
          have k0 := (hW.cell (p := ⟨g, o + i * 5, none⟩) hg).trans d0
          have k1 := (hW.cell (p := ⟨g, o + i * 5 + 1, none⟩) hg).trans d1
          have k2 := (hW.cell (p := ⟨g, o + i * 5 + 2, none⟩) hg).trans d2
          have k3 := (hW.cell (p := ⟨g, o + i * 5 + 3, none⟩) hg).trans d3
          have k4 := (hW.cell (p := ⟨g, o + i * 5 + 4, none⟩) hg).trans d4
          go_simp <;> with_reducible rfl
        simp only [Act.put, List.setIfInBounds_toArray, List.set_cons_zero, List.set_cons_succ]
        refine grow_take 4 (some 43) (v := ?va4) rfl rfl (by kernel_rfl) (by kernel_rfl) (by kernel_rfl) (fun _ _ _ h => h) (by rfl) (fun W hW => ?ya4) ?_
        case ya4 =>
          go_simp <;> with_reducible rfl
        simp only [Act.put, List.setIfInBounds_toArray, List.set_cons_zero, List.set_cons_succ]
        refine grow_take 5 (some 44) (v := ?va5) rfl rfl (by kernel_rfl) (by kernel_rfl) (by kernel_rfl) (fun _ _ _ h => h) (by rfl) (fun W hW => ?ya5) ?_
        case ya5 =>
          go_simp <;> with_reducible rfl
        simp only [Act.put, List.setIfInBounds_toArray, List.set_cons_zero, List.set_cons_succ]
        refine grow_take 6 (some 45) (v := ?va6) rfl rfl (by kernel_rfl) (by kernel_rfl) (by kernel_rfl) (fun _ _ _ h => h) (by rfl) (fun W hW => ?ya6) ?_
        case ya6 =>
          go_simp <;> with_reducible rfl
        simp only [Act.put, List.setIfInBounds_toArray, List.set_cons_zero, List.set_cons_succ]
        refine grow_take 7 (some 46) (v := ?va7) rfl rfl (by kernel_rfl) (by kernel_rfl) (by kernel_rfl) (fun _ _ _ h => h) (by rfl) (fun W hW => ?ya7) ?_
        case ya7 =>
          have k0 := (hW.cell (p := ⟨g, o + i * 5, none⟩) hg).trans d0
          have k1 := (hW.cell (p := ⟨g, o + i * 5 + 1, none⟩) hg).trans d1
          have k2 := (hW.cell (p := ⟨g, o + i * 5 + 2, none⟩) hg).trans d2
          have k3 := (hW.cell (p := ⟨g, o + i * 5 + 3, none⟩) hg).trans d3
          have k4 := (hW.cell (p := ⟨g, o + i * 5 + 4, none⟩) hg).trans d4
          go_simp <;> with_reducible rfl
        simp only [Act.put, List.setIfInBounds_toArray, List.set_cons_zero, List.set_cons_succ]
        refine grow_each [8, 9] (by kernel_rfl) (by simp) ?_
        refine AllG.cons rfl (fun K hK => ?_) (AllG.cons rfl (fun K hK => ?_) AllG.nil)
        · go_simp
          have hBn := Blk.new wd [.string ⟨#[]⟩, .string ⟨#[]⟩, .string ⟨#[]⟩, .int .i64 0, .bool false] 35
          change Blk (wd.alloc (.cells #[.string ⟨#[]⟩, .string ⟨#[]⟩, .string ⟨#[]⟩, .int .i64 0, .bool false] 35)) _ _ at hBn
          have hbz := (Below.refl wr.heap.size wd).alloc Hle.out (.cells #[.string ⟨#[]⟩, .string ⟨#[]⟩, .string ⟨#[]⟩, .int .i64 0, .bool false] 35)
          refine hK.out _ _ hbz ?_
          have Hle9 : Hid (wr.heap.size ≤ (wd.alloc (.cells #[.string ⟨#[]⟩, .string ⟨#[]⟩, .string ⟨#[]⟩, .int .i64 0, .bool false] 35)).heap.size) := hide (Nat.le_trans Hle.out (by simp))
          have Hnewa : Hid (wd.heap.size < (wd.alloc (.cells #[.string ⟨#[]⟩, .string ⟨#[]⟩, .string ⟨#[]⟩, .int .i64 0, .bool false] 35)).heap.size) := hide (by simp)
          have Hlohx := Hle
          have HW9 := hide (HW.out.trans hbz)
          have HBx := hide hBn
          generalize wd.alloc (.cells #[.string ⟨#[]⟩, .string ⟨#[]⟩, .string ⟨#[]⟩, .int .i64 0, .bool false] 35) = wa at *
          generalize hqhx : wd.heap.size = hx at *
          clear hK K hBn hbz Hle HW
          have Hle := Hle9
          have HW := HW9
          clear Hle9 HW9
          try simp only [Act.put, List.setIfInBounds_toArray, List.set_cons_zero, List.set_cons_succ]
          refine grow_only 9 rfl (by kernel_rfl) (fun K hK => ?_)
          go_simp
          have hBn := Blk.new wa [.string ⟨#[]⟩, .string ⟨#[]⟩, .string ⟨#[]⟩, .int .i64 0, .bool false] 35
          change Blk (wa.alloc (.cells #[.string ⟨#[]⟩, .string ⟨#[]⟩, .string ⟨#[]⟩, .int .i64 0, .bool false] 35)) _ _ at hBn
          have hbz := (Below.refl wr.heap.size wa).alloc Hle.out (.cells #[.string ⟨#[]⟩, .string ⟨#[]⟩, .string ⟨#[]⟩, .int .i64 0, .bool false] 35)
          refine hK.out _ _ hbz ?_
          have Hle9 : Hid (wr.heap.size ≤ (wa.alloc (.cells #[.string ⟨#[]⟩, .string ⟨#[]⟩, .string ⟨#[]⟩, .int .i64 0, .bool false] 35)).heap.size) := hide (Nat.le_trans Hle.out (by simp))
          have HBx9 := hide (HBx.out.below HBx.out.lt (below1 _ (.cells #[.string ⟨#[]⟩, .string ⟨#[]⟩, .string ⟨#[]⟩, .int .i64 0, .bool false] 35)))
          clear HBx
          have HBx := HBx9
          clear HBx9
          have Hnewb : Hid (wa.heap.size < (wa.alloc (.cells #[.string ⟨#[]⟩, .string ⟨#[]⟩, .string ⟨#[]⟩, .int .i64 0, .bool false] 35)).heap.size) := hide (by simp)
          have Hlohy := Hle
          have HW9 := hide (HW.out.trans hbz)
          have HBy := hide hBn
          generalize wa.alloc (.cells #[.string ⟨#[]⟩, .string ⟨#[]⟩, .string ⟨#[]⟩, .int .i64 0, .bool false] 35) = wb at *
          generalize hqhy : wa.heap.size = hy at *
          clear hK K hBn hbz Hle HW
          have Hle := Hle9
          have HW := HW9
          clear Hle9 HW9
          try simp only [Act.put, List.setIfInBounds_toArray, List.set_cons_zero, List.set_cons_succ]
          refine grow_only 10 rfl (by kernel_rfl) (fun K hK => ?_)
          refine step_store wb none rfl rfl 35 (.tmp 9) (.tmp 42) rfl hx 0 #[.string SW, .string ST, .string SA, .int .i64 rt, .bool al] rfl rfl (HBx.out.there 0 5 (by simp)) (by kernel_rfl) (by simp [Value.oneCell']) ?_
          have hbz := below_sets (base := wr.heap.size) (h := hx) wb [.string SW, .string ST, .string SA, .int .i64 rt, .bool al] Hlohx.out Hle.out
          refine hK.out _ _ hbz ?_
          have HB9 := hide (HBx.out.sets 0 [.string SW, .string ST, .string SA, .int .i64 rt, .bool al] (by simp) [.string SW, .string ST, .string SA, .int .i64 rt, .bool al] (by simp))
          have HB8 := hide (HBy.out.grown (grown_setCells hx [.string SW, .string ST, .string SA, .int .i64 rt, .bool al] 0 wb) (by have := Hnewa.out; intro e; injection e with e; omega))
          have HW9 := hide (HW.out.trans hbz)
          have Hle9 := hide (Nat.le_trans Hle.out hbz.size)
          change wpAnyG _ _ _ _ _ _ _ _ (wb.setCells hx 0 [.string SW, .string ST, .string SA, .int .i64 rt, .bool al])
          generalize wb.setCells hx 0 [.string SW, .string ST, .string SA, .int .i64 rt, .bool al] = we at *
          clear hK K hbz HBx HBy HW Hle
          have HBx := HB9
          have HBy := HB8
          have HW := HW9
          have Hle := Hle9
          clear HB9 HB8 HW9 Hle9
          try simp only [Act.put, List.setIfInBounds_toArray, List.set_cons_zero, List.set_cons_succ]
          refine grow_only 11 rfl (by kernel_rfl) (fun K hK => ?_)
          refine step_store we none rfl rfl 35 (.tmp 10) (.tmp 46) rfl hy 0 #[.string SW, .string ST, .string SA, .int .i64 rt, .bool al] rfl rfl (HBy.out.there 0 5 (by simp)) (by kernel_rfl) (by simp [Value.oneCell']) ?_
          have hbz := below_sets (base := wr.heap.size) (h := hy) we [.string SW, .string ST, .string SA, .int .i64 rt, .bool al] Hlohy.out Hle.out
          refine hK.out _ _ hbz ?_
          have HB9 := hide (HBy.out.sets 0 [.string SW, .string ST, .string SA, .int .i64 rt, .bool al] (by simp) [.string SW, .string ST, .string SA, .int .i64 rt, .bool al] (by simp))
          have HB8 := hide (HBx.out.grown (grown_setCells hy [.string SW, .string ST, .string SA, .int .i64 rt, .bool al] 0 we) (by have := Hnewa.out; intro e; injection e with e; omega))
          have HW9 := hide (HW.out.trans hbz)
          have Hle9 := hide (Nat.le_trans Hle.out hbz.size)
          change wpAnyG _ _ _ _ _ _ _ _ (we.setCells hy 0 [.string SW, .string ST, .string SA, .int .i64 rt, .bool al])
          generalize we.setCells hy 0 [.string SW, .string ST, .string SA, .int .i64 rt, .bool al] = wf at *
          clear hK K hbz HBx HBy HW Hle
          have HBy := HB9
          have HBx := HB8
          have HW := HW9
          have Hle := Hle9
          clear HB9 HB8 HW9 Hle9
          try simp only [Act.put, List.setIfInBounds_toArray, List.set_cons_zero, List.set_cons_succ]
          refine grow_done (by kernel_rfl) ?_ _
          go_wp2_with fail
          go_meet
          case rel => exact ⟨hx, hy, rfl, rfl, hide (by have := Hnewa.out; omega), Hlohx, Hlohy, HBx, HBy, HW, Hle⟩
        · go_simp
          have hBn := Blk.new wd [.string ⟨#[]⟩, .string ⟨#[]⟩, .string ⟨#[]⟩, .int .i64 0, .bool false] 35
          change Blk (wd.alloc (.cells #[.string ⟨#[]⟩, .string ⟨#[]⟩, .string ⟨#[]⟩, .int .i64 0, .bool false] 35)) _ _ at hBn
          have hbz := (Below.refl wr.heap.size wd).alloc Hle.out (.cells #[.string ⟨#[]⟩, .string ⟨#[]⟩, .string ⟨#[]⟩, .int .i64 0, .bool false] 35)
          refine hK.out _ _ hbz ?_
          have Hle9 : Hid (wr.heap.size ≤ (wd.alloc (.cells #[.string ⟨#[]⟩, .string ⟨#[]⟩, .string ⟨#[]⟩, .int .i64 0, .bool false] 35)).heap.size) := hide (Nat.le_trans Hle.out (by simp))
          have Hnewa : Hid (wd.heap.size < (wd.alloc (.cells #[.string ⟨#[]⟩, .string ⟨#[]⟩, .string ⟨#[]⟩, .int .i64 0, .bool false] 35)).heap.size) := hide (by simp)
          have Hlohy := Hle
          have HW9 := hide (HW.out.trans hbz)
          have HBy := hide hBn
          generalize wd.alloc (.cells #[.string ⟨#[]⟩, .string ⟨#[]⟩, .string ⟨#[]⟩, .int .i64 0, .bool false] 35) = wa at *
          generalize hqhy : wd.heap.size = hy at *
          clear hK K hBn hbz Hle HW
          have Hle := Hle9
          have HW := HW9
          clear Hle9 HW9
          try simp only [Act.put, List.setIfInBounds_toArray, List.set_cons_zero, List.set_cons_succ]
          refine grow_only 8 rfl (by kernel_rfl) (fun K hK => ?_)
          go_simp
          have hBn := Blk.new wa [.string ⟨#[]⟩, .string ⟨#[]⟩, .string ⟨#[]⟩, .int .i64 0, .bool false] 35
          change Blk (wa.alloc (.cells #[.string ⟨#[]⟩, .string ⟨#[]⟩, .string ⟨#[]⟩, .int .i64 0, .bool false] 35)) _ _ at hBn
          have hbz := (Below.refl wr.heap.size wa).alloc Hle.out (.cells #[.string ⟨#[]⟩, .string ⟨#[]⟩, .string ⟨#[]⟩, .int .i64 0, .bool false] 35)
          refine hK.out _ _ hbz ?_
          have Hle9 : Hid (wr.heap.size ≤ (wa.alloc (.cells #[.string ⟨#[]⟩, .string ⟨#[]⟩, .string ⟨#[]⟩, .int .i64 0, .bool false] 35)).heap.size) := hide (Nat.le_trans Hle.out (by simp))
          have HBy9 := hide (HBy.out.below HBy.out.lt (below1 _ (.cells #[.string ⟨#[]⟩, .string ⟨#[]⟩, .string ⟨#[]⟩, .int .i64 0, .bool false] 35)))
          clear HBy
          have HBy := HBy9
          clear HBy9
          have Hnewb : Hid (wa.heap.size < (wa.alloc (.cells #[.string ⟨#[]⟩, .string ⟨#[]⟩, .string ⟨#[]⟩, .int .i64 0, .bool false] 35)).heap.size) := hide (by simp)
          have Hlohx := Hle
          have HW9 := hide (HW.out.trans hbz)
          have HBx := hide hBn
          generalize wa.alloc (.cells #[.string ⟨#[]⟩, .string ⟨#[]⟩, .string ⟨#[]⟩, .int .i64 0, .bool false] 35) = wb at *
          generalize hqhx : wa.heap.size = hx at *
          clear hK K hBn hbz Hle HW
          have Hle := Hle9
          have HW := HW9
          clear Hle9 HW9
          try simp only [Act.put, List.setIfInBounds_toArray, List.set_cons_zero, List.set_cons_succ]
          refine grow_only 10 rfl (by kernel_rfl) (fun K hK => ?_)
          refine step_store wb none rfl rfl 35 (.tmp 9) (.tmp 42) rfl hx 0 #[.string SW, .string ST, .string SA, .int .i64 rt, .bool al] rfl rfl (HBx.out.there 0 5 (by simp)) (by kernel_rfl) (by simp [Value.oneCell']) ?_
          have hbz := below_sets (base := wr.heap.size) (h := hx) wb [.string SW, .string ST, .string SA, .int .i64 rt, .bool al] Hlohx.out Hle.out
          refine hK.out _ _ hbz ?_
          have HB9 := hide (HBx.out.sets 0 [.string SW, .string ST, .string SA, .int .i64 rt, .bool al] (by simp) [.string SW, .string ST, .string SA, .int .i64 rt, .bool al] (by simp))
          have HB8 := hide (HBy.out.grown (grown_setCells hx [.string SW, .string ST, .string SA, .int .i64 rt, .bool al] 0 wb) (by have := Hnewa.out; intro e; injection e with e; omega))
          have HW9 := hide (HW.out.trans hbz)
          have Hle9 := hide (Nat.le_trans Hle.out hbz.size)
          change wpAnyG _ _ _ _ _ _ _ _ (wb.setCells hx 0 [.string SW, .string ST, .string SA, .int .i64 rt, .bool al])
          generalize wb.setCells hx 0 [.string SW, .string ST, .string SA, .int .i64 rt, .bool al] = we at *
          clear hK K hbz HBx HBy HW Hle
          have HBx := HB9
          have HBy := HB8
          have HW := HW9
          have Hle := Hle9
          clear HB9 HB8 HW9 Hle9
          try simp only [Act.put, List.setIfInBounds_toArray, List.set_cons_zero, List.set_cons_succ]
          refine grow_only 11 rfl (by kernel_rfl) (fun K hK => ?_)
          refine step_store we none rfl rfl 35 (.tmp 10) (.tmp 46) rfl hy 0 #[.string SW, .string ST, .string SA, .int .i64 rt, .bool al] rfl rfl (HBy.out.there 0 5 (by simp)) (by kernel_rfl) (by simp [Value.oneCell']) ?_
          have hbz := below_sets (base := wr.heap.size) (h := hy) we [.string SW, .string ST, .string SA, .int .i64 rt, .bool al] Hlohy.out Hle.out
          refine hK.out _ _ hbz ?_
          have HB9 := hide (HBy.out.sets 0 [.string SW, .string ST, .string SA, .int .i64 rt, .bool al] (by simp) [.string SW, .string ST, .string SA, .int .i64 rt, .bool al] (by simp))
          have HB8 := hide (HBx.out.grown (grown_setCells hy [.string SW, .string ST, .string SA, .int .i64 rt, .bool al] 0 we) (by have := Hnewa.out; intro e; injection e with e; omega))
          have HW9 := hide (HW.out.trans hbz)
          have Hle9 := hide (Nat.le_trans Hle.out hbz.size)
          change wpAnyG _ _ _ _ _ _ _ _ (we.setCells hy 0 [.string SW, .string ST, .string SA, .int .i64 rt, .bool al])
          generalize we.setCells hy 0 [.string SW, .string ST, .string SA, .int .i64 rt, .bool al] = wf at *
          clear hK K hbz HBx HBy HW Hle
          have HBy := HB9
          have HBx := HB8
          have HW := HW9
          have Hle := Hle9
          clear HB9 HB8 HW9 Hle9
          try simp only [Act.put, List.setIfInBounds_toArray, List.set_cons_zero, List.set_cons_succ]
          refine grow_done (by kernel_rfl) ?_ _
          go_wp2_with fail
          go_meet
          case rel => exact ⟨hx, hy, rfl, rfl, hide (by have := Hnewa.out; omega), Hlohx, Hlohy, HBx, HBy, HW, Hle⟩
      case rest =>
        obtain ⟨hx, hy, rfl, rfl, Hxy, Hlohx, Hlohy, HBx, HBy, HW, Hle⟩ := hcut
        clear c0 c1 c2 c3 c4
        go_upto_region 8 with fail
        generalize wc = wf at *
        go_cut [9] from 47 to 56 (fun s9 wx => s9 = .pointer (some ⟨hx, 0, none⟩) ∧ Hid (Blk wx hx [.string SW, .string ST, .string SA, .int .i64 (andI rt b), .bool al]) ∧ Hid (Blk wx hy [.string SW, .string ST, .string SA, .int .i64 (andNotI rt b), .bool al]) ∧ Hid (Below wr.heap.size wr wx) ∧ Hid (wr.heap.size ≤ wx.heap.size))
        case first =>
          clear HX HB HT HA HA0 hor hbr HFew HAf HG HD HDp HP Hnp Hq Hpx Hpy Hp1 HL Hw1 Hh
          refine grow_beginZ (upOf) [9, 11] (by kernel_rfl) ?_
          have hdr : Below wf.heap.size wf wf.drew := (Below.refl _ _).drew
          have HB9 := hide (HBx.out.grow hdr)
          have HB8 := hide (HBy.out.grow hdr)
          have HW9 := hide (HW.out.trans (hdr.mono Hle.out))
          have Hle9 : Hid (wr.heap.size ≤ wf.drew.heap.size) := Hle
          clear HBx HBy HW Hle hdr
          have HBx := HB9
          have HBy := HB8
          have HW := HW9
          have Hle := Hle9
          clear HB9 HB8 HW9 Hle9
          generalize wf.drew = wg at *
          refine grow_takeP 0 (some 47) (v := ?vy0) rfl rfl (by kernel_rfl) (by kernel_rfl) (by kernel_rfl) (fun _ _ _ h => h) (by rfl) (fun W => ?yy0) ?_
          case yy0 =>
            go_simp <;> with_reducible rfl
          try simp only [Act.put, List.setIfInBounds_toArray, List.set_cons_zero, List.set_cons_succ]
          refine grow_takeZ 1 (some 48) (v := ?vy1) rfl rfl (by kernel_rfl) (by kernel_rfl) (by kernel_rfl) (fun _ _ _ h => h) (by kernel_rfl) (by rfl) (fun W hW => ?yy1) ?_
          case yy1 =>
            have h1 := (hW.cell (p := ⟨hx, 3, none⟩) HBx.out.lt).trans (HBx.out.cells 3 _ rfl)
            go_simp <;> with_reducible rfl
          try simp only [Act.put, List.setIfInBounds_toArray, List.set_cons_zero, List.set_cons_succ]
          refine grow_takeP 2 (some 49) (v := ?vy2) rfl rfl (by kernel_rfl) (by kernel_rfl) (by kernel_rfl) (fun _ _ _ h => h) (by rfl) (fun W => ?yy2) ?_
          case yy2 =>
            go_simp <;> with_reducible rfl
          try simp only [Act.put, List.setIfInBounds_toArray, List.set_cons_zero, List.set_cons_succ]
          refine grow_takeP 3 (some 50) (v := ?vy3) rfl rfl (by kernel_rfl) (by kernel_rfl) (by kernel_rfl) (fun _ _ _ h => h) (by rfl) (fun W => ?yy3) ?_
          case yy3 =>
            go_simp <;> with_reducible rfl
          try simp only [Act.put, List.setIfInBounds_toArray, List.set_cons_zero, List.set_cons_succ]
          refine grow_takeP 4 (some 51) (v := ?vy4) rfl rfl (by kernel_rfl) (by kernel_rfl) (by kernel_rfl) (fun _ _ _ h => h) (by rfl) (fun W => ?yy4) ?_
          case yy4 =>
            go_simp <;> with_reducible rfl
          try simp only [Act.put, List.setIfInBounds_toArray, List.set_cons_zero, List.set_cons_succ]
          refine grow_takeP 6 (some 53) (v := ?vy6) rfl rfl (by kernel_rfl) (by kernel_rfl) (by kernel_rfl) (fun _ _ _ h => h) (by rfl) (fun W => ?yy6) ?_
          case yy6 =>
            go_simp <;> with_reducible rfl
          try simp only [Act.put, List.setIfInBounds_toArray, List.set_cons_zero, List.set_cons_succ]
          refine grow_takeP 8 (some 55) (v := ?vy8) rfl rfl (by kernel_rfl) (by kernel_rfl) (by kernel_rfl) (fun _ _ _ h => h) (by rfl) (fun W => ?yy8) ?_
          case yy8 =>
            go_simp <;> with_reducible rfl
          try simp only [Act.put, List.setIfInBounds_toArray, List.set_cons_zero, List.set_cons_succ]
          refine grow_eachZ [5, 9] (by kernel_rfl) (by simp) ?_
          refine AllZ.cons rfl (fun K hK => ?_) (AllZ.cons rfl (fun K hK => ?_) AllZ.nil)
          · have cm := HBy.out.cells 3 _ rfl
            go_simp
            refine hK.out _ _ (fun _ => Below.refl _ _) ?_
            clear hK K cm
            try simp only [Act.put, List.setIfInBounds_toArray, List.set_cons_zero, List.set_cons_succ]
            refine grow_takeP 7 (some 54) (v := ?vyb17) rfl rfl (by kernel_rfl) (by kernel_rfl) (by kernel_rfl) (fun _ _ _ h => h) (by rfl) (fun W => ?yyb17) ?_
            case yyb17 =>
              go_simp <;> with_reducible rfl
            try simp only [Act.put, List.setIfInBounds_toArray, List.set_cons_zero, List.set_cons_succ]
            refine grow_onlyZ 9 rfl (by kernel_rfl) (fun K hK => ?_)
            have cm := HBx.out.cells 3 _ rfl
            have fm := HBx.out.fz 3
            go_simp
            change K _ (wg.setCell ⟨hx, 3, none⟩ (.int .i64 (andI rt b)))
            refine hK.out _ _ (fun hh => absurd (by decide) hh) ?_
            have HB9 := hide (HBx.out.set 3 (.int .i64 (andI rt b)) (by simp))
            have hgr := grown_setCell wg hx 3 (.int .i64 (andI rt b))
            have HB8 := hide (HBy.out.grown hgr (by have := Hxy.out; intro e; injection e with e; omega))
            have hbz : Below wr.heap.size wg (wg.setCell ⟨hx, 3, none⟩ (.int .i64 (andI rt b))) := below_of_grown hgr (fun k hk => by cases hk; exact Hlohx.out) Hle.out
            have HW9 := hide (HW.out.trans hbz)
            have Hle9 := hide (Nat.le_trans Hle.out hbz.size)
            generalize wg.setCell ⟨hx, 3, none⟩ (.int .i64 (andI rt b)) = wi at *
            clear hK K hbz hgr cm fm HBx HBy HW Hle
            have HBx := HB9
            have HBy := HB8
            have HW := HW9
            have Hle := Hle9
            clear HB9 HB8 HW9 Hle9
            try simp only [Act.put, List.setIfInBounds_toArray, List.set_cons_zero, List.set_cons_succ]
            refine grow_takeP 10 (some 56) (v := ?vyb110) rfl rfl (by kernel_rfl) (by kernel_rfl) (by kernel_rfl) (fun _ _ _ h => h) (by rfl) (fun W => ?yyb110) ?_
            case yyb110 =>
              go_simp <;> with_reducible rfl
            try simp only [Act.put, List.setIfInBounds_toArray, List.set_cons_zero, List.set_cons_succ]
            refine grow_onlyZ 11 rfl (by kernel_rfl) (fun K hK => ?_)
            have cm := HBy.out.cells 3 _ rfl
            have fm := HBy.out.fz 3
            go_simp
            change K _ (wi.setCell ⟨hy, 3, none⟩ (.int .i64 (andNotI rt b)))
            refine hK.out _ _ (fun hh => absurd (by decide) hh) ?_
            have HB9 := hide (HBy.out.set 3 (.int .i64 (andNotI rt b)) (by simp))
            have hgr := grown_setCell wi hy 3 (.int .i64 (andNotI rt b))
            have HB8 := hide (HBx.out.grown hgr (by have := Hxy.out; intro e; injection e with e; omega))
            have hbz : Below wr.heap.size wi (wi.setCell ⟨hy, 3, none⟩ (.int .i64 (andNotI rt b))) := below_of_grown hgr (fun k hk => by cases hk; exact Hlohy.out) Hle.out
            have HW9 := hide (HW.out.trans hbz)
            have Hle9 := hide (Nat.le_trans Hle.out hbz.size)
            generalize wi.setCell ⟨hy, 3, none⟩ (.int .i64 (andNotI rt b)) = wj at *
            clear hK K hbz hgr cm fm HBx HBy HW Hle
            have HBy := HB9
            have HBx := HB8
            have HW := HW9
            have Hle := Hle9
            clear HB9 HB8 HW9 Hle9
            try simp only [Act.put, List.setIfInBounds_toArray, List.set_cons_zero, List.set_cons_succ]
            refine grow_doneZ (by kernel_rfl) ?_ _
            go_wp2_with fail
            go_meet
            case rel => exact ⟨rfl, HBx, HBy, HW, Hle⟩
          · have cm := HBx.out.cells 3 _ rfl
            have fm := HBx.out.fz 3
            go_simp
            change K _ (wg.setCell ⟨hx, 3, none⟩ (.int .i64 (andI rt b)))
            refine hK.out _ _ (fun hh => absurd (by decide) hh) ?_
            have HB9 := hide (HBx.out.set 3 (.int .i64 (andI rt b)) (by simp))
            have hgr := grown_setCell wg hx 3 (.int .i64 (andI rt b))
            have HB8 := hide (HBy.out.grown hgr (by have := Hxy.out; intro e; injection e with e; omega))
            have hbz : Below wr.heap.size wg (wg.setCell ⟨hx, 3, none⟩ (.int .i64 (andI rt b))) := below_of_grown hgr (fun k hk => by cases hk; exact Hlohx.out) Hle.out
            have HW9 := hide (HW.out.trans hbz)
            have Hle9 := hide (Nat.le_trans Hle.out hbz.size)
            generalize wg.setCell ⟨hx, 3, none⟩ (.int .i64 (andI rt b)) = wi at *
            clear hK K hbz hgr cm fm HBx HBy HW Hle
            have HBx := HB9
            have HBy := HB8
            have HW := HW9
            have Hle := Hle9
            clear HB9 HB8 HW9 Hle9
            try simp only [Act.put, List.setIfInBounds_toArray, List.set_cons_zero, List.set_cons_succ]
            refine grow_takeZ 5 (some 52) (v := ?vyc25) rfl rfl (by kernel_rfl) (by kernel_rfl) (by kernel_rfl) (fun _ _ _ h => h) (by kernel_rfl) (by rfl) (fun W hW => ?yyc25) ?_
            case yyc25 =>
              have h1 := (hW.cell (p := ⟨hy, 3, none⟩) HBy.out.lt).trans (HBy.out.cells 3 _ rfl)
              go_simp <;> with_reducible rfl
            try simp only [Act.put, List.setIfInBounds_toArray, List.set_cons_zero, List.set_cons_succ]
            refine grow_takeP 7 (some 54) (v := ?vyc27) rfl rfl (by kernel_rfl) (by kernel_rfl) (by kernel_rfl) (fun _ _ _ h => h) (by rfl) (fun W => ?yyc27) ?_
            case yyc27 =>
              go_simp <;> with_reducible rfl
            try simp only [Act.put, List.setIfInBounds_toArray, List.set_cons_zero, List.set_cons_succ]
            refine grow_takeP 10 (some 56) (v := ?vyc210) rfl rfl (by kernel_rfl) (by kernel_rfl) (by kernel_rfl) (fun _ _ _ h => h) (by rfl) (fun W => ?yyc210) ?_
            case yyc210 =>
              go_simp <;> with_reducible rfl
            try simp only [Act.put, List.setIfInBounds_toArray, List.set_cons_zero, List.set_cons_succ]
            refine grow_onlyZ 11 rfl (by kernel_rfl) (fun K hK => ?_)
            have cm := HBy.out.cells 3 _ rfl
            have fm := HBy.out.fz 3
            go_simp
            change K _ (wi.setCell ⟨hy, 3, none⟩ (.int .i64 (andNotI rt b)))
            refine hK.out _ _ (fun hh => absurd (by decide) hh) ?_
            have HB9 := hide (HBy.out.set 3 (.int .i64 (andNotI rt b)) (by simp))
            have hgr := grown_setCell wi hy 3 (.int .i64 (andNotI rt b))
            have HB8 := hide (HBx.out.grown hgr (by have := Hxy.out; intro e; injection e with e; omega))
            have hbz : Below wr.heap.size wi (wi.setCell ⟨hy, 3, none⟩ (.int .i64 (andNotI rt b))) := below_of_grown hgr (fun k hk => by cases hk; exact Hlohy.out) Hle.out
            have HW9 := hide (HW.out.trans hbz)
            have Hle9 := hide (Nat.le_trans Hle.out hbz.size)
            generalize wi.setCell ⟨hy, 3, none⟩ (.int .i64 (andNotI rt b)) = wj at *
            clear hK K hbz hgr cm fm HBx HBy HW Hle
            have HBy := HB9
            have HBx := HB8
            have HW := HW9
            have Hle := Hle9
            clear HB9 HB8 HW9 Hle9
            try simp only [Act.put, List.setIfInBounds_toArray, List.set_cons_zero, List.set_cons_succ]
            refine grow_doneZ (by kernel_rfl) ?_ _
            go_wp2_with fail
            go_meet
            case rel => exact ⟨rfl, HBx, HBy, HW, Hle⟩
        case rest =>
          obtain ⟨rfl, HBx', HBy', HW', Hle'⟩ := hcut
          clear HBx HBy HW Hle
          have HBx := HBx'
          have HBy := HBy'
          have HW := HW'
          have Hle := Hle'
          clear HBx' HBy' HW' Hle'
          obtain ⟨pl, hpl⟩ : ∃ pl, (partL b (L.take i)).length = pl := ⟨_, rfl⟩
          obtain ⟨xs, hxs⟩ : ∃ xs, rusC (partL b (L.take i)) = xs := ⟨_, rfl⟩
          have hlen : pl ≤ 40 := by
            have h1 := partL_len b (L.take i)
            rw [List.length_take] at h1
            omega
          have hor0 := hor.out
          rw [hpl, hxs] at hor0
          have Hno : Hid (∀ k, u7.ownBlock = some k → k < wr.heap.size) := hide fun k hk => (hor0.lt k hk).2
          have Ho := hide (own_below hor0 HW.out)
          have Hbs : Hid (w5.heap.size ≤ wc.heap.size) := hide (Nat.le_trans hbr.out.size Hle.out)
          have HBb := hide (hbr.out.trans (HW.out.mono hbr.out.size))
          have Hstep : Hid (partL b (L.take (i + 1)) = partL b (L.take i) ++ part1 b q) := hide (by rw [List.take_add_one, Hq.out]; exact partL_snoc _ _ _)
          have Hpl := hide hpl
          have Hxs := hide hxs
          clear hpl hxs hor0 hor hbr HW Hle HX HB HT HA HA0 HFew HAf HG HD HDp HP Hnp HL Hw1 Hh Hq
          by_cases e1 : andI rt b = 0
          · by_cases e2 : andNotI rt b = 0
            · have v1 : (andI rt b == 0) = true := by rw [e1]; rfl
              have v1' : (andI rt b != 0) = false := by unfold bne; rw [v1]; rfl
              have v2 : (andNotI rt b == 0) = true := by rw [e2]; rfl
              have v2' : (andNotI rt b != 0) = false := by unfold bne; rw [v2]; rfl
              have hp : part1 b q = [] := by rw [Hp1.out, if_pos e1, if_pos e2]; rfl
              have Hn1 : Hid ((partL b (L.take (i + 1))).length = pl) := hide (by rw [Hstep.out, List.length_append, Hpl.out, hp]; rfl)
              have Hn2 : Hid (rusC (partL b (L.take (i + 1))) = xs) := hide (by rw [Hstep.out, rusC_app, Hxs.out, hp]; simp [rusC, Hpx.out, Hpy.out])
              clear hp Hp1 Hpl Hxs Hstep Hpx Hpy e1 e2
              generalize andI rt b = ax at *
              generalize andNotI rt b = ay at *
              have k3 := HBx.out.cells 3 _ rfl
              have m3 := HBy.out.cells 3 _ rfl
              have HO : Hid (wc.ownsRow w5.heap.size 35 5 u7 (partL b (L.take (i + 1))).length (rusC (partL b (L.take (i + 1))))) := hide (by rw [Hn1.out, Hn2.out]; exact Ho.out)
              have HBZ := HBb
              go_wp2
              go_roundg r
              case measure => omega
              case rel => exact ⟨i + 1, by omega, by go_num, HO, HBZ⟩
            · have v1 : (andI rt b == 0) = true := by rw [e1]; rfl
              have v1' : (andI rt b != 0) = false := by unfold bne; rw [v1]; rfl
              have v2 : (andNotI rt b == 0) = false := beq_false_of_ne e2
              have v2' : (andNotI rt b != 0) = true := by unfold bne; rw [v2]; rfl
              have hp : part1 b q = [partY b q] := by rw [Hp1.out, if_pos e1, if_neg e2]; rfl
              have Hn1 : Hid ((partL b (L.take (i + 1))).length = pl + 1) := hide (by rw [Hstep.out, List.length_append, Hpl.out, hp]; rfl)
              have Hn2 : Hid (rusC (partL b (L.take (i + 1))) = xs ++ [.string SW, .string ST, .string SA, .int .i64 (andNotI rt b), .bool al]) := hide (by rw [Hstep.out, rusC_app, Hxs.out, hp]; simp [rusC, Hpx.out, Hpy.out])
              clear hp Hp1 Hpl Hxs Hstep Hpx Hpy e1 e2
              generalize andI rt b = ax at *
              generalize andNotI rt b = ay at *
              have x3 := HBx.out.cells 3 _ rfl
              have k0 := HBy.out.cells 0 _ rfl
              have k1 := HBy.out.cells 1 _ rfl
              have k2 := HBy.out.cells 2 _ rfl
              have k3 := HBy.out.cells 3 _ rfl
              have k4 := HBy.out.cells 4 _ rfl
              have hone : (wc.alloc (.cells #[.string SW, .string ST, .string SA, .int .i64 ay, .bool al] 35)).ownsRow wc.heap.size 35 5 (.slice (some ⟨wc.heap.size, 0, none⟩) 1 1) 1 [.string SW, .string ST, .string SA, .int .i64 ay, .bool al] := World.ownsRow_lit wc #[.string SW, .string ST, .string SA, .int .i64 ay, .bool al] 1 (Nat.le_refl _) (by unfold maxLen; omega) rfl
              have hH := Has.own hone
              have h1c : ∀ u ∈ ([.string SW, .string ST, .string SA, .int .i64 ay, .bool al] : List Value), u.oneCell' = true := by simp [Value.oneCell']
              have hba := below1 wc (.cells #[.string SW, .string ST, .string SA, .int .i64 ay, .bool al] 35)
              have hor1 := own_below Ho.out hba
              have hbs1 : w5.heap.size ≤ (wc.alloc (.cells #[.string SW, .string ST, .string SA, .int .i64 ay, .bool al] 35)).heap.size := Nat.le_trans Hbs.out hba.size
              have HBb1 := hide (HBb.out.trans (hba.mono Hbs.out))
              have hll : pl + 1 ≤ 1000000 := by omega
              clear hone hba
              go_wp2_with (at_builtin; go_must (refine appRu _ 31 35 _ 5 64 Tryz.underlying31 infoR rfl (by omega) (by omega) rfl (.tmp 67) (.tmp 69) rfl w5.heap.size _ (pl) _ rfl hor1 _ _ 1 1 [.string SW, .string ST, .string SA, .int .i64 ay, .bool al] rfl hH h1c hll hbs1 ?_))
              intro v6 w6 hor6 hb6 hg6
              have Ho6 := hide hor6
              have Hbs6 := hide (Nat.le_trans hbs1 hb6.size)
              have HBb6 := hide (HBb1.out.trans hb6)
              clear hor6 hb6 hg6 hor1 hbs1 HBb1 hll hH h1c k0 k1 k2 k3 k4
              have HO : Hid (w6.ownsRow w5.heap.size 35 5 v6 (partL b (L.take (i + 1))).length (rusC (partL b (L.take (i + 1))))) := hide (by rw [Hn1.out, Hn2.out]; exact Ho6.out)
              have HBZ := HBb6
              clear x3
              go_wp2
              go_roundg r
              case measure => omega
              case rel => exact ⟨i + 1, by omega, by go_num, HO, HBZ⟩
          · by_cases e2 : andNotI rt b = 0
            · have v1 : (andI rt b == 0) = false := beq_false_of_ne e1
              have v1' : (andI rt b != 0) = true := by unfold bne; rw [v1]; rfl
              have v2 : (andNotI rt b == 0) = true := by rw [e2]; rfl
              have v2' : (andNotI rt b != 0) = false := by unfold bne; rw [v2]; rfl
              have hp : part1 b q = [partX b q] := by rw [Hp1.out, if_neg e1, if_pos e2]; rfl
              have Hn1 : Hid ((partL b (L.take (i + 1))).length = pl + 1) := hide (by rw [Hstep.out, List.length_append, Hpl.out, hp]; rfl)
              have Hn2 : Hid (rusC (partL b (L.take (i + 1))) = xs ++ [.string SW, .string ST, .string SA, .int .i64 (andI rt b), .bool al]) := hide (by rw [Hstep.out, rusC_app, Hxs.out, hp]; simp [rusC, Hpx.out, Hpy.out])
              clear hp Hp1 Hpl Hxs Hstep Hpx Hpy e1 e2
              generalize andI rt b = ax at *
              generalize andNotI rt b = ay at *
              have k0 := HBx.out.cells 0 _ rfl
              have k1 := HBx.out.cells 1 _ rfl
              have k2 := HBx.out.cells 2 _ rfl
              have k3 := HBx.out.cells 3 _ rfl
              have k4 := HBx.out.cells 4 _ rfl
              have hone : (wc.alloc (.cells #[.string SW, .string ST, .string SA, .int .i64 ax, .bool al] 35)).ownsRow wc.heap.size 35 5 (.slice (some ⟨wc.heap.size, 0, none⟩) 1 1) 1 [.string SW, .string ST, .string SA, .int .i64 ax, .bool al] := World.ownsRow_lit wc #[.string SW, .string ST, .string SA, .int .i64 ax, .bool al] 1 (Nat.le_refl _) (by unfold maxLen; omega) rfl
              have hH := Has.own hone
              have h1c : ∀ u ∈ ([.string SW, .string ST, .string SA, .int .i64 ax, .bool al] : List Value), u.oneCell' = true := by simp [Value.oneCell']
              have hba := below1 wc (.cells #[.string SW, .string ST, .string SA, .int .i64 ax, .bool al] 35)
              have hor1 := own_below Ho.out hba
              have hbs1 : w5.heap.size ≤ (wc.alloc (.cells #[.string SW, .string ST, .string SA, .int .i64 ax, .bool al] 35)).heap.size := Nat.le_trans Hbs.out hba.size
              have HBb1 := hide (HBb.out.trans (hba.mono Hbs.out))
              have HBy1 := hide (HBy.out.grow hba)
              have hll : pl + 1 ≤ 1000000 := by omega
              clear hone hba
              go_wp2_with (at_builtin; go_must (refine appRu _ 31 35 _ 5 64 Tryz.underlying31 infoR rfl (by omega) (by omega) rfl (.tmp 60) (.tmp 62) rfl w5.heap.size _ (pl) _ rfl hor1 _ _ 1 1 [.string SW, .string ST, .string SA, .int .i64 ax, .bool al] rfl hH h1c hll hbs1 ?_))
              intro v6 w6 hor6 hb6 hg6
              have Ho6 := hide hor6
              have Hbs6 := hide (Nat.le_trans hbs1 hb6.size)
              have HBb6 := hide (HBb1.out.trans hb6)
              have HBy6 := hide (HBy1.out.grown hg6 (fun e => by have := Hno.out _ e; have := Hlohy.out; omega))
              clear HBy HBy1
              have HBy := HBy6
              clear HBy6
              clear hor6 hb6 hg6 hor1 hbs1 HBb1 hll hH h1c k0 k1 k2 k3 k4
              have m3 := HBy.out.cells 3 _ rfl
              have HO : Hid (w6.ownsRow w5.heap.size 35 5 v6 (partL b (L.take (i + 1))).length (rusC (partL b (L.take (i + 1))))) := hide (by rw [Hn1.out, Hn2.out]; exact Ho6.out)
              have HBZ := HBb6
              go_wp2
              go_roundg r
              case measure => omega
              case rel => exact ⟨i + 1, by omega, by go_num, HO, HBZ⟩
            · have v1 : (andI rt b == 0) = false := beq_false_of_ne e1
              have v1' : (andI rt b != 0) = true := by unfold bne; rw [v1]; rfl
              have v2 : (andNotI rt b == 0) = false := beq_false_of_ne e2
              have v2' : (andNotI rt b != 0) = true := by unfold bne; rw [v2]; rfl
              have hp : part1 b q = [partX b q, partY b q] := by rw [Hp1.out, if_neg e1, if_neg e2]; rfl
              have Hn1 : Hid ((partL b (L.take (i + 1))).length = pl + 1 + 1) := hide (by rw [Hstep.out, List.length_append, Hpl.out, hp]; rfl)
              have Hn2 : Hid (rusC (partL b (L.take (i + 1))) = xs ++ [.string SW, .string ST, .string SA, .int .i64 (andI rt b), .bool al] ++ [.string SW, .string ST, .string SA, .int .i64 (andNotI rt b), .bool al]) := hide (by rw [Hstep.out, rusC_app, Hxs.out, hp]; simp [rusC, Hpx.out, Hpy.out])
              clear hp Hp1 Hpl Hxs Hstep Hpx Hpy e1 e2
              generalize andI rt b = ax at *
              generalize andNotI rt b = ay at *
              have k0 := HBx.out.cells 0 _ rfl
              have k1 := HBx.out.cells 1 _ rfl
              have k2 := HBx.out.cells 2 _ rfl
              have k3 := HBx.out.cells 3 _ rfl
              have k4 := HBx.out.cells 4 _ rfl
              have hone : (wc.alloc (.cells #[.string SW, .string ST, .string SA, .int .i64 ax, .bool al] 35)).ownsRow wc.heap.size 35 5 (.slice (some ⟨wc.heap.size, 0, none⟩) 1 1) 1 [.string SW, .string ST, .string SA, .int .i64 ax, .bool al] := World.ownsRow_lit wc #[.string SW, .string ST, .string SA, .int .i64 ax, .bool al] 1 (Nat.le_refl _) (by unfold maxLen; omega) rfl
              have hH := Has.own hone
              have h1c : ∀ u ∈ ([.string SW, .string ST, .string SA, .int .i64 ax, .bool al] : List Value), u.oneCell' = true := by simp [Value.oneCell']
              have hba := below1 wc (.cells #[.string SW, .string ST, .string SA, .int .i64 ax, .bool al] 35)
              have hor1 := own_below Ho.out hba
              have hbs1 : w5.heap.size ≤ (wc.alloc (.cells #[.string SW, .string ST, .string SA, .int .i64 ax, .bool al] 35)).heap.size := Nat.le_trans Hbs.out hba.size
              have HBb1 := hide (HBb.out.trans (hba.mono Hbs.out))
              have HBy1 := hide (HBy.out.grow hba)
              have hll : pl + 1 ≤ 1000000 := by omega
              clear hone hba
              go_wp2_with (at_builtin; go_must (refine appRu _ 31 35 _ 5 64 Tryz.underlying31 infoR rfl (by omega) (by omega) rfl (.tmp 60) (.tmp 62) rfl w5.heap.size _ (pl) _ rfl hor1 _ _ 1 1 [.string SW, .string ST, .string SA, .int .i64 ax, .bool al] rfl hH h1c hll hbs1 ?_))
              intro v6 w6 hor6 hb6 hg6
              have Ho6 := hide hor6
              have Hbs6 := hide (Nat.le_trans hbs1 hb6.size)
              have HBb6 := hide (HBb1.out.trans hb6)
              have HBy6 := hide (HBy1.out.grown hg6 (fun e => by have := Hno.out _ e; have := Hlohy.out; omega))
              clear HBy HBy1
              have HBy := HBy6
              clear HBy6
              clear hor6 hb6 hg6 hor1 hbs1 HBb1 hll hH h1c k0 k1 k2 k3 k4
              clear Ho Hbs HBb
              have Ho := Ho6
              have Hbs := Hbs6
              have HBb := HBb6
              clear Ho6 Hbs6 HBb6
              have k0 := HBy.out.cells 0 _ rfl
              have k1 := HBy.out.cells 1 _ rfl
              have k2 := HBy.out.cells 2 _ rfl
              have k3 := HBy.out.cells 3 _ rfl
              have k4 := HBy.out.cells 4 _ rfl
              have hone : (w6.alloc (.cells #[.string SW, .string ST, .string SA, .int .i64 ay, .bool al] 35)).ownsRow w6.heap.size 35 5 (.slice (some ⟨w6.heap.size, 0, none⟩) 1 1) 1 [.string SW, .string ST, .string SA, .int .i64 ay, .bool al] := World.ownsRow_lit w6 #[.string SW, .string ST, .string SA, .int .i64 ay, .bool al] 1 (Nat.le_refl _) (by unfold maxLen; omega) rfl
              have hH := Has.own hone
              have h1c : ∀ u ∈ ([.string SW, .string ST, .string SA, .int .i64 ay, .bool al] : List Value), u.oneCell' = true := by simp [Value.oneCell']
              have hba := below1 w6 (.cells #[.string SW, .string ST, .string SA, .int .i64 ay, .bool al] 35)
              have hor1 := own_below Ho.out hba
              have hbs1 : w5.heap.size ≤ (w6.alloc (.cells #[.string SW, .string ST, .string SA, .int .i64 ay, .bool al] 35)).heap.size := Nat.le_trans Hbs.out hba.size
              have HBb1 := hide (HBb.out.trans (hba.mono Hbs.out))
              have hll : pl + 1 + 1 ≤ 1000000 := by omega
              clear hone hba
              go_wp2_with (at_builtin; go_must (refine appRu _ 31 35 _ 5 64 Tryz.underlying31 infoR rfl (by omega) (by omega) rfl (.tmp 67) (.tmp 69) rfl w5.heap.size _ (pl + 1) _ rfl hor1 _ _ 1 1 [.string SW, .string ST, .string SA, .int .i64 ay, .bool al] rfl hH h1c hll hbs1 ?_))
              intro v7 w7 hor6 hb6 hg6
              have Ho6 := hide hor6
              have Hbs6 := hide (Nat.le_trans hbs1 hb6.size)
              have HBb6 := hide (HBb1.out.trans hb6)
              clear hor6 hb6 hg6 hor1 hbs1 HBb1 hll hH h1c k0 k1 k2 k3 k4
              have HO : Hid (w7.ownsRow w5.heap.size 35 5 v7 (partL b (L.take (i + 1))).length (rusC (partL b (L.take (i + 1))))) := hide (by rw [Hn1.out, Hn2.out]; rw [List.append_assoc]; exact Ho6.out)
              have HBZ := HBb6
              go_wp2
              go_roundg r
              case measure => omega
              case rel => exact ⟨i + 1, by omega, by go_num, HO, HBZ⟩


end Go.Proofs.YtilggbfjdglaaaaGreatDoor
