/-
  The reference's Formed. By an AI agent.
-/
import Derived.Test.YtihoachcpabkeaaGreatDoorPFormA
namespace Go.Proofs.YtihoachcpabkeaaGreatDoor
open Go.RowKit
set_option linter.unusedVariables false

set_option maxRecDepth 100000 in
set_option maxHeartbeats 16000000 in
theorem rformed_part (w : World) (A : Option Addr) (n c : Nat) (l : List P2) (h : Has w w.heap.size 2 A n (prs l)) (hn : n ≤ 10000) (hs : ∀ a ∈ l, a.1.length ≤ 1000000 ∧ a.2.length ≤ 1000000) (hT : TT w) :
    Calls Tryz.prog 14 #[.slice A n c] w fun e w' => e = .returned (.bool (partB l)) ∧ Below w.heap.size w w' := by
  have hnl := h.pairs_n
  obtain ⟨R, hR⟩ : ∃ R, partB l = R := ⟨_, rfl⟩
  rw [hR]
  replace hR := hide hR
  by_cases h13 : 1 ≤ n ∧ n ≤ 3
  · obtain ⟨g, o, rfl, hg, hrd⟩ := h.reads (by rintro rfl; simp at hnl; omega)
    have z1 : ¬ ((n : Int) < 1) := by omega
    have z3 : ¬ ((3 : Int) < (n : Int)) := by omega
    have HL := hide hnl
    have HR := hide hrd
    have HS := hide hs
    clear hnl h hrd hs
    go_enter Tryz.func14, Tryz.ntmps14
    go_wp2
    go_loopg [18] n (fun k s18 wx => ∃ i : Nat, i + k = n ∧ s18 = .int .i64 (i : Int) ∧ Hid (Good l i) ∧ Below w.heap.size w wx)
    case atStart => exact ⟨0, by omega, rfl, hide (Good.zero l), Below.refl _ _⟩
    case round =>
      obtain ⟨i, hig, rfl, hG, hbr⟩ := hrel
      cases gk with
      | zero =>
        obtain rfl : i = n := by omega
        have hiz : ¬ ((i : Int) < (i : Int)) := by omega
        have hRt : Hid (R = true) := hide (by
          rw [← hR.out]
          have h1 := hG.out
          have h2 := HL.out
          rw [h2] at h1
          exact partB_true (h1.done (by omega) (by omega)))
        clear hG hR HL HR HS
        go_wp2
        go_ret
        exact ⟨by rw [hRt.out]; rfl, hbr⟩
      | succ k =>
        have hi : i < n := by omega
        have hiz : (i : Int) < (n : Int) := by omega
        obtain ⟨a, ha⟩ : ∃ a, l[i]? = some a := ⟨_, List.getElem?_eq_getElem (by rw [← HL.out]; exact hi)⟩
        have cw0 : ∀ W, Below w.heap.size w W → W.cell? ⟨g, o + i * 2, none⟩ = some (.string (txt a.1)) := fun W hW => (hW.cell (p := ⟨g, o + i * 2, none⟩) hg).trans (HR.out.fst i a ha)
        have cw1 : ∀ W, Below w.heap.size w W → W.cell? ⟨g, o + i * 2 + 1, none⟩ = some (.string (txt a.2)) := fun W hW => (hW.cell (p := ⟨g, o + i * 2 + 1, none⟩) hg).trans (HR.out.snd i a ha)
        have hTy := fun w => rtype_any (txt a.1) (by rw [txt_size]; have := (HS.out a (List.mem_of_getElem? ha)).1; omega) w
        have hNo := fun w hT => rnormal_any (txt a.1) (txt a.2) (by rw [txt_size]; have := (HS.out a (List.mem_of_getElem? ha)).1; omega) (by rw [txt_size]; have := (HS.out a (List.mem_of_getElem? ha)).2; omega) w hT
        simp only [txt_toList] at hTy hNo
        have Ha := hide ha
        clear ha
        obtain ⟨y, hy⟩ : ∃ y, (norm a.1 a.2).2 = y := ⟨_, rfl⟩
        obtain ⟨x, hx⟩ : ∃ x, (typ a.1).2 = x := ⟨_, rfl⟩
        obtain ⟨M, hM⟩ : ∃ M, txt (typ a.1).1 = M := ⟨_, rfl⟩
        obtain ⟨U, hU⟩ : ∃ U, txt a.1 = U := ⟨_, rfl⟩
        rw [hU] at cw0
        rw [hy, hU] at hNo
        rw [hx, hM, hU] at hTy
        generalize txt a.2 = V at *
        generalize txt (norm a.1 a.2).1 = Y at *
        replace hy := hide hy
        replace hx := hide hx
        replace hM := hide hM
        replace hU := hide hU
        have c0 := cw0 _ hbr
        go_wp2_with (go_at_call 25; fail)
        refine (hTy _).mono ?_
        rintro e w2 ⟨rfl, hb2'⟩
        have hb2 := hbr.trans (hb2'.mono hbr.size)
        clear hTy hb2' c0 hbr
        go_wp2_with fail
        refine grow_begin_at w.heap.size (by kernel_rfl) ?_
        have hbr2 : Below w.heap.size w w2.drew := hb2.trans ((Below.refl _ _).drew)
        generalize w2.drew = w3 at *
        refine grow_take 0 (some 31) (v := ?va0) rfl rfl (by kernel_rfl) (by kernel_rfl) (by kernel_rfl) (fun _ _ _ h => h) (by rfl) (fun W hW => ?ya0) ?_
        case ya0 =>
          go_simp <;> with_reducible rfl
        simp only [Act.put, List.setIfInBounds_toArray, List.set_cons_zero, List.set_cons_succ]
        refine grow_take 1 (some 32) (v := ?va1) rfl rfl (by kernel_rfl) (by kernel_rfl) (by kernel_rfl) (fun _ _ _ h => h) (by rfl) (fun W hW => ?ya1) ?_
        case ya1 =>
          go_simp <;> with_reducible rfl
        simp only [Act.put, List.setIfInBounds_toArray, List.set_cons_zero, List.set_cons_succ]
        refine grow_take 2 (some 33) (v := ?va2) rfl rfl (by kernel_rfl) (by kernel_rfl) (by kernel_rfl) (fun _ _ _ h => h) (by rfl) (fun W hW => ?ya2) ?_
        case ya2 =>
          go_simp <;> with_reducible rfl
        simp only [Act.put, List.setIfInBounds_toArray, List.set_cons_zero, List.set_cons_succ]
        refine grow_take 3 (some 34) (v := ?va3) rfl rfl (by kernel_rfl) (by kernel_rfl) (by kernel_rfl) (fun _ _ _ h => h) (by rfl) (fun W hW => ?ya3) ?_
        case ya3 =>
          go_simp <;> with_reducible rfl
        simp only [Act.put, List.setIfInBounds_toArray, List.set_cons_zero, List.set_cons_succ]
        refine grow_take 4 (some 35) (v := ?va4) rfl rfl (by kernel_rfl) (by kernel_rfl) (by kernel_rfl) (fun _ _ _ h => h) (by rfl) (fun W hW => ?ya4) ?_
        case ya4 =>
          have h1 := cw0 W (hbr2.trans hW)
          go_simp <;> with_reducible rfl
        simp only [Act.put, List.setIfInBounds_toArray, List.set_cons_zero, List.set_cons_succ]
        refine grow_take 5 (some 36) (v := ?va5) rfl rfl (by kernel_rfl) (by kernel_rfl) (by kernel_rfl) (fun _ _ _ h => h) (by rfl) (fun W hW => ?ya5) ?_
        case ya5 =>
          go_simp <;> with_reducible rfl
        simp only [Act.put, List.setIfInBounds_toArray, List.set_cons_zero, List.set_cons_succ]
        refine grow_take 6 (some 37) (v := ?va6) rfl rfl (by kernel_rfl) (by kernel_rfl) (by kernel_rfl) (fun _ _ _ h => h) (by rfl) (fun W hW => ?ya6) ?_
        case ya6 =>
          go_simp <;> with_reducible rfl
        simp only [Act.put, List.setIfInBounds_toArray, List.set_cons_zero, List.set_cons_succ]
        refine grow_take 7 (some 38) (v := ?va7) rfl rfl (by kernel_rfl) (by kernel_rfl) (by kernel_rfl) (fun _ _ _ h => h) (by rfl) (fun W hW => ?ya7) ?_
        case ya7 =>
          go_simp <;> with_reducible rfl
        simp only [Act.put, List.setIfInBounds_toArray, List.set_cons_zero, List.set_cons_succ]
        refine grow_take 8 (some 39) (v := ?va8) rfl rfl (by kernel_rfl) (by kernel_rfl) (by kernel_rfl) (fun _ _ _ h => h) (by rfl) (fun W hW => ?ya8) ?_
        case ya8 =>
          go_simp <;> with_reducible rfl
        simp only [Act.put, List.setIfInBounds_toArray, List.set_cons_zero, List.set_cons_succ]
        refine grow_take 9 (some 40) (v := ?va9) rfl rfl (by kernel_rfl) (by kernel_rfl) (by kernel_rfl) (fun _ _ _ h => h) (by rfl) (fun W hW => ?ya9) ?_
        case ya9 =>
          have h1 := cw1 W (hbr2.trans hW)
          go_simp <;> with_reducible rfl
        simp only [Act.put, List.setIfInBounds_toArray, List.set_cons_zero, List.set_cons_succ]
        refine grow_only 10 rfl (by kernel_rfl) (fun K hK => ?_)
        go_simp
        have hT3 := hT.below hbr2
        refine (hNo _ hT3).mono ?_
        rintro e w4 ⟨rfl, hb4⟩
        have hb4m := hb4.mono hbr2.size
        have hbr4 := hbr2.trans hb4m
        refine hK.out _ _ hb4m ?_
        clear hK K hb4 hb4m hT3
        try simp only [Act.put, List.setIfInBounds_toArray, List.set_cons_zero, List.set_cons_succ]
        refine grow_take 11 (some 30) (v := ?va11) rfl rfl (by kernel_rfl) (by kernel_rfl) (by kernel_rfl) (fun _ _ _ h => h) (by rfl) (fun W hW => ?ya11) ?_
        case ya11 =>
          go_simp <;> with_reducible rfl
        simp only [Act.put, List.setIfInBounds_toArray, List.set_cons_zero, List.set_cons_succ]
        refine grow_take 12 (some 42) (v := ?va12) rfl rfl (by kernel_rfl) (by kernel_rfl) (by kernel_rfl) (fun _ _ _ h => h) (by rfl) (fun W hW => ?ya12) ?_
        case ya12 =>
          go_simp <;> with_reducible rfl
        simp only [Act.put, List.setIfInBounds_toArray, List.set_cons_zero, List.set_cons_succ]
        refine grow_take 13 (some 43) (v := ?va13) rfl rfl (by kernel_rfl) (by kernel_rfl) (by kernel_rfl) (fun _ _ _ h => h) (by rfl) (fun W hW => ?ya13) ?_
        case ya13 =>
          go_simp <;> with_reducible rfl
        simp only [Act.put, List.setIfInBounds_toArray, List.set_cons_zero, List.set_cons_succ]
        refine grow_take 14 (some 6) (v := ?va14) rfl rfl (by kernel_rfl) (by kernel_rfl) (by kernel_rfl) (fun _ _ _ h => h) (by rfl) (fun W hW => ?ya14) ?_
        case ya14 =>
          go_simp <;> with_reducible rfl
        simp only [Act.put, List.setIfInBounds_toArray, List.set_cons_zero, List.set_cons_succ]
        refine grow_take 15 (some 7) (v := ?va15) rfl rfl (by kernel_rfl) (by kernel_rfl) (by kernel_rfl) (fun _ _ _ h => h) (by rfl) (fun W hW => ?ya15) ?_
        case ya15 =>
          go_simp <;> with_reducible rfl
        simp only [Act.put, List.setIfInBounds_toArray, List.set_cons_zero, List.set_cons_succ]
        refine grow_done (by kernel_rfl) ?_ _
        have c0 := cw0 _ hbr4
        by_cases hn1 : (typ a.1).1 = a.1
        · have hMU : M = U := by rw [← hM.out, ← hU.out, hn1]
          subst hMU
          by_cases h13x : x = 1 ∨ x = 3
          · by_cases hy0 : y = 0
            · subst hy0
              have Hok := hide (PairOk.mk hn1 (by rw [hx.out]; exact h13x) hy.out)
              clear hn1 hM hx hy
              by_cases hi0 : i = 0
              · subst hi0
                have c00 : w4.cell? ⟨g, o, none⟩ = some (.string M) := by simpa using c0
                clear c0
                have hG2 := hide (hG.out.more Ha.out Hok.out fun h => absurd h (Nat.lt_irrefl 0))
                clear hG Ha Hok HL HR HS hU cw0
                rcases h13x with rfl | rfl
                · clear cw1 hNo
                  go_wp2
                  go_roundg k
                  case measure => omega
                  case rel => exact ⟨0 + 1, by omega, by go_num, hG2, hbr4⟩
                · clear cw1 hNo
                  go_wp2
                  go_roundg k
                  case measure => omega
                  case rel => exact ⟨0 + 1, by omega, by go_num, hG2, hbr4⟩
              · obtain ⟨j, rfl⟩ : ∃ j, i = j + 1 := ⟨i - 1, by omega⟩
                obtain ⟨b, hb⟩ : ∃ b, l[j]? = some b := ⟨_, List.getElem?_eq_getElem (by rw [← HL.out]; omega)⟩
                have d1 := (hbr4.cell (p := ⟨g, o + j * 2, none⟩) hg).trans (HR.out.fst j b hb)
                have hjn : (j : Int) < (n : Int) := by omega
                have hj0 : (0 : Int) < (j : Int) + 1 := by omega
                by_cases hlt : b.1 < a.1
                · have hG2 := hide (hG.out.more Ha.out Hok.out fun _ b' hb' => by
                    rw [Nat.add_sub_cancel, hb] at hb'
                    obtain rfl := Option.some.inj hb'
                    exact hlt)
                  have hbl : Op.bytesLess (txt b.1).toList M.toList = true := by rw [← hU.out, txt_bytes, txt_bytes]; exact less_yes hlt
                  generalize txt b.1 = T at *
                  clear hG Ha Hok HL HR HS hlt hb hU cw0
                  rcases h13x with rfl | rfl
                  · clear cw1 hNo
                    go_wp2
                    go_roundg k
                    case measure => omega
                    case rel => exact ⟨j + 1 + 1, by omega, by go_num, hG2, hbr4⟩
                  · clear cw1 hNo
                    go_wp2
                    go_roundg k
                    case measure => omega
                    case rel => exact ⟨j + 1 + 1, by omega, by go_num, hG2, hbr4⟩
                · have hRf : Hid (R = false) := hide (by
                    rw [← hR.out]
                    exact partB_false (not_less Ha.out (by omega) (by rw [Nat.add_sub_cancel]; exact hb) hlt))
                  have hbl : Op.bytesLess (txt b.1).toList M.toList = false := by rw [← hU.out, txt_bytes, txt_bytes]; exact less_no hlt
                  generalize txt b.1 = T at *
                  clear hG Ha Hok HL HR HS hlt hb hU cw0
                  rcases h13x with rfl | rfl
                  · clear cw1 hNo
                    go_wp2
                    go_ret
                    exact ⟨by rw [hRf.out]; rfl, hbr4⟩
                  · clear cw1 hNo
                    go_wp2
                    go_ret
                    exact ⟨by rw [hRf.out]; rfl, hbr4⟩
            · have hRf : Hid (R = false) := hide (by rw [← hR.out]; exact partB_false (not_pair Ha.out fun h => hy0 (hy.out.symm.trans h.val)))
              have hy1 : (y == 0) = false := beq_false_of_ne hy0
              have hy2 : (y != 0) = true := by unfold bne; rw [hy1]; rfl
              clear hG Ha HL HR HS hn1 hM hx hy hU cw0
              rcases h13x with rfl | rfl
              · clear cw1 hNo
                go_wp2
                go_ret
                exact ⟨by rw [hRf.out]; rfl, hbr4⟩
              · clear cw1 hNo
                go_wp2
                go_ret
                exact ⟨by rw [hRf.out]; rfl, hbr4⟩
          · have hRf : Hid (R = false) := hide (by rw [← hR.out]; exact partB_false (not_pair Ha.out fun h => h13x (by have := h.syn; rw [hx.out] at this; exact this)))
            have e1 : (x == 1) = false := beq_false_of_ne fun h => h13x (Or.inl h)
            have e3 : (x == 3) = false := beq_false_of_ne fun h => h13x (Or.inr h)
            have n1 : (x != 1) = true := by unfold bne; rw [e1]; rfl
            have n3 : (x != 3) = true := by unfold bne; rw [e3]; rfl
            clear hG Ha HL HR HS hn1 hM hx hy h13x hU cw0
            clear cw1 hNo
            go_wp2
            go_ret
            exact ⟨by rw [hRf.out]; rfl, hbr4⟩
        · have hRf : Hid (R = false) := hide (by rw [← hR.out]; exact partB_false (not_pair Ha.out fun h => hn1 h.name))
          have hne : (M.toList == U.toList) = false := by rw [← hM.out, ← hU.out]; exact str_ne hn1
          clear hG Ha HL HR HS hn1 hM hx hy hU cw0
          clear cw1 hNo
          go_wp2
          go_ret
          exact ⟨by rw [hRf.out]; rfl, hbr4⟩
  · have hRf : Hid (R = false) := hide (by
      rw [← hR.out]
      exact partB_false fun hp => h13 (by have h1 := hp.pos; have h2 := hp.le; omega))
    clear hR h hs
    by_cases h1 : n < 1
    · have z1 : ((n : Int) < 1) := by omega
      go_enter Tryz.func14, Tryz.ntmps14
      go_wp2
      go_ret
      exact ⟨by rw [hRf.out]; rfl, Below.refl _ _⟩
    · have z1 : ¬ ((n : Int) < 1) := by omega
      have z3 : ((3 : Int) < (n : Int)) := by omega
      go_enter Tryz.func14, Tryz.ntmps14
      go_wp2
      go_ret
      exact ⟨by rw [hRf.out]; rfl, Below.refl _ _⟩

end Go.Proofs.YtihoachcpabkeaaGreatDoor
