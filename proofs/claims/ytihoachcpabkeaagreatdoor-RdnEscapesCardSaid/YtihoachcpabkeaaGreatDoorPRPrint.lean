/-
  The reference's Print. By an AI agent.
-/
import Derived.Test.YtihoachcpabkeaaGreatDoorPRForm
import Derived.Test.YtihoachcpabkeaaGreatDoorPPrint
import Derived.Test.YtihoachcpabkeaaGreatDoorPValue
namespace Go.Proofs.YtihoachcpabkeaaGreatDoor
open Go.RowKit
set_option linter.unusedVariables false

set_option maxRecDepth 100000 in
set_option maxHeartbeats 32000000 in
theorem rprint_any (w : World) (A : Option Addr) (n c : Nat) (l : List P2) (h : Has w w.heap.size 2 A n (prs l)) (hn : n ≤ 10000) (hs : ∀ a ∈ l, a.1.length ≤ 1000000 ∧ a.2.length ≤ 1000000) (hT : TT w) :
    Calls Tryz.prog 12 #[.slice A n c] w fun e w' => e = .returned (.tuple #[.string (txt (printV l).1), .int .i64 (printV l).2]) ∧ Below w.heap.size w w' := by
  have hF := rformed_part w A n c l h hn hs hT
  by_cases hp : PartOk l
  · rw [prV_yes hp]
    rw [partB_true hp] at hF
    have hnl := h.pairs_n
    obtain ⟨g, o, rfl, hg, hrd⟩ := h.reads (by rintro rfl; have := hp.pos; simp at this)
    obtain ⟨RV, hRV⟩ : ∃ RV, txt (prP l) = RV := ⟨_, rfl⟩
    simp only [hRV]
    have HRV := hide hRV
    have HL := hide hnl
    have HR := hide hrd
    have HP := hide hp
    have hn3 : n ≤ 3 := by have := hp.le; omega
    clear hnl h hrd hs hp hT hRV
    go_enter Tryz.func12, Tryz.ntmps12
    go_wp2_with (go_at_call 14; fail)
    refine hF.mono ?_
    rintro e w0 ⟨rfl, hb0⟩
    clear hF
    go_wp2
    go_loopg [4, 11] n (fun k s4 s11 wx => ∃ (i : Nat) (S : ByteArray), i + k = n ∧ s4 = .string S ∧ s11 = .int .i64 (i : Int) ∧ Hid (S = txt (prP (l.take i))) ∧ S.size ≤ 2103 ∧ Below w.heap.size w wx)
    case atStart => exact ⟨0, ⟨#[]⟩, by omega, rfl, rfl, hide (by simp [prP, txt]), by decide, hb0⟩
    case round =>
      obtain ⟨i, S, hig, rfl, rfl, hS, hSz, hbr⟩ := hrel
      clear hb0
      cases gk with
      | zero =>
        obtain rfl : i = n := by omega
        have hiz : ¬ ((i : Int) < (i : Int)) := by omega
        have hSR : Hid (S = RV) := hide (by rw [hS.out, ← HRV.out, List.take_of_length_le (by rw [HL.out]; exact Nat.le_refl _)])
        clear hS HL HR HP HRV
        go_wp2
        go_ret2
        exact ⟨by rw [← hSR.out]; rfl, hbr⟩
      | succ k =>
        have hi : i < n := by omega
        have hiz : (i : Int) < (n : Int) := by omega
        obtain ⟨a, ha⟩ : ∃ a, l[i]? = some a := ⟨_, List.getElem?_eq_getElem (by rw [← HL.out]; exact hi)⟩
        have cw0 : ∀ W, Below w.heap.size w W → W.cell? ⟨g, o + i * 2, none⟩ = some (.string (txt a.1)) := fun W hW => (hW.cell (p := ⟨g, o + i * 2, none⟩) hg).trans (HR.out.fst i a ha)
        have cw1 : ∀ W, Below w.heap.size w W → W.cell? ⟨g, o + i * 2 + 1, none⟩ = some (.string (txt a.2)) := fun W hW => (hW.cell (p := ⟨g, o + i * 2 + 1, none⟩) hg).trans (HR.out.snd i a ha)
        have hok := HP.out.each a (List.mem_of_getElem? ha)
        have hsm := hok.small
        have htl : (l.take (i + 1)).length ≤ 3 := by rw [List.length_take]; omega
        have hpl := prP_len (l.take (i + 1)) fun b hb => HP.out.each b (List.mem_of_mem_take hb)
        have htk : l.take (i + 1) = l.take i ++ [a] := by rw [List.take_add_one, ha]; rfl
        have hzl : (wrV a.2).length ≤ 600 := by have := wr_len a.2; omega
        have hnext : Hid (txt (prP (l.take (i + 1))) = (if i = 0 then S else S ++ ⟨#[43]⟩) ++ txt a.1 ++ ⟨#[61]⟩ ++ txt (wrV a.2)) := hide (by
          rw [hS.out, htk, prP_snoc]
          by_cases h0 : i = 0
          · subst h0
            simp only [List.take_zero, if_true, prP]
            rw [show (⟨#[61]⟩ : ByteArray) = txt [61] from rfl, txt_app, txt_app, txt_app]
            simp [onePr]
          · have hne : l.take i ≠ [] := by
              intro h
              have := congrArg List.length h
              rw [List.length_take] at this
              have h2 := HL.out
              simp only [List.length_nil] at this
              omega
            rw [if_neg hne, if_neg h0, show (⟨#[61]⟩ : ByteArray) = txt [61] from rfl, show (⟨#[43]⟩ : ByteArray) = txt [43] from rfl, txt_app, txt_app, txt_app, txt_app]
            simp [onePr])
        have hnz : Hid ((txt (prP (l.take (i + 1)))).size ≤ 2103) := hide (by rw [txt_size]; omega)
        have hV := fun w => value_any (txt a.2) (by rw [txt_size]; omega) w
        simp only [txt_toList] at hV
        have hUs : (txt a.1).size ≤ 20 := by rw [txt_size]; exact hsm.1
        have hZs : (txt (wrV a.2)).size ≤ 600 := by rw [txt_size]; exact hzl
        generalize txt a.1 = U at *
        generalize txt a.2 = V at *
        generalize txt (wrV a.2) = Z at *
        clear ha hok hsm htl htk hpl hzl HP
        have s1 : (U.size : Int) ≤ 20 := by omega
        have s2 : (Z.size : Int) ≤ 600 := by omega
        have s3 : (S.size : Int) ≤ 2103 := by omega
        by_cases hi0 : i = 0
        · subst hi0
          have hz : ¬ ((0 : Int) < ((0 : Nat) : Int)) := by omega
          rw [if_pos rfl] at hnext
          have hnx : Hid (S ++ U ++ ⟨#[61]⟩ ++ Z = txt (prP (l.take (0 + 1)))) := hide hnext.out.symm
          have cw00 : ∀ W, Below w.heap.size w W → W.cell? ⟨g, o, none⟩ = some (.string U) := fun W hW => by simpa using cw0 W hW
          have cw01 : ∀ W, Below w.heap.size w W → W.cell? ⟨g, o + 1, none⟩ = some (.string V) := fun W hW => by simpa using cw1 W hW
          clear hnext HR HL HRV hS hSz
          rw [← hnx.out] at hnz
          go_wp2_with fail
          refine grow_begin_at w.heap.size (by kernel_rfl) ?_
          have hbr2 : Below w.heap.size w wr.drew := hbr.trans ((Below.refl _ _).drew)
          generalize wr.drew = w3 at *
          refine grow_take 0 (some 18) (v := ?va0) rfl rfl (by kernel_rfl) (by kernel_rfl) (by kernel_rfl) (fun _ _ _ h => h) (by rfl) (fun W hW => ?ya0) ?_
          case ya0 =>
            go_simp <;> with_reducible rfl
          simp only [Act.put, List.setIfInBounds_toArray, List.set_cons_zero, List.set_cons_succ]
          refine grow_take 1 (some 19) (v := ?va1) rfl rfl (by kernel_rfl) (by kernel_rfl) (by kernel_rfl) (fun _ _ _ h => h) (by rfl) (fun W hW => ?ya1) ?_
          case ya1 =>
            go_simp <;> with_reducible rfl
          simp only [Act.put, List.setIfInBounds_toArray, List.set_cons_zero, List.set_cons_succ]
          refine grow_take 2 (some 20) (v := ?va2) rfl rfl (by kernel_rfl) (by kernel_rfl) (by kernel_rfl) (fun _ _ _ h => h) (by rfl) (fun W hW => ?ya2) ?_
          case ya2 =>
            go_simp <;> with_reducible rfl
          simp only [Act.put, List.setIfInBounds_toArray, List.set_cons_zero, List.set_cons_succ]
          refine grow_take 3 (some 21) (v := ?va3) rfl rfl (by kernel_rfl) (by kernel_rfl) (by kernel_rfl) (fun _ _ _ h => h) (by rfl) (fun W hW => ?ya3) ?_
          case ya3 =>
            go_simp <;> with_reducible rfl
          simp only [Act.put, List.setIfInBounds_toArray, List.set_cons_zero, List.set_cons_succ]
          refine grow_take 4 (some 22) (v := ?va4) rfl rfl (by kernel_rfl) (by kernel_rfl) (by kernel_rfl) (fun _ _ _ h => h) (by rfl) (fun W hW => ?ya4) ?_
          case ya4 =>
            go_simp <;> with_reducible rfl
          simp only [Act.put, List.setIfInBounds_toArray, List.set_cons_zero, List.set_cons_succ]
          refine grow_take 5 (some 23) (v := ?va5) rfl rfl (by kernel_rfl) (by kernel_rfl) (by kernel_rfl) (fun _ _ _ h => h) (by rfl) (fun W hW => ?ya5) ?_
          case ya5 =>
            have h1 := cw0 W (hbr2.trans hW); have h2 := cw00 W (hbr2.trans hW)
            go_simp <;> with_reducible rfl
          simp only [Act.put, List.setIfInBounds_toArray, List.set_cons_zero, List.set_cons_succ]
          refine grow_take 6 (some 24) (v := ?va6) rfl rfl (by kernel_rfl) (by kernel_rfl) (by kernel_rfl) (fun _ _ _ h => h) (by rfl) (fun W hW => ?ya6) ?_
          case ya6 =>
            go_simp
            rw [if_neg (by omega)]
          simp only [Act.put, List.setIfInBounds_toArray, List.set_cons_zero, List.set_cons_succ]
          refine grow_take 7 (some 25) (v := ?va7) rfl rfl (by kernel_rfl) (by kernel_rfl) (by kernel_rfl) (fun _ _ _ h => h) (by rfl) (fun W hW => ?ya7) ?_
          case ya7 =>
            go_simp
            rw [if_neg (by omega)]
          simp only [Act.put, List.setIfInBounds_toArray, List.set_cons_zero, List.set_cons_succ]
          refine grow_take 8 (some 26) (v := ?va8) rfl rfl (by kernel_rfl) (by kernel_rfl) (by kernel_rfl) (fun _ _ _ h => h) (by rfl) (fun W hW => ?ya8) ?_
          case ya8 =>
            go_simp <;> with_reducible rfl
          simp only [Act.put, List.setIfInBounds_toArray, List.set_cons_zero, List.set_cons_succ]
          refine grow_take 9 (some 27) (v := ?va9) rfl rfl (by kernel_rfl) (by kernel_rfl) (by kernel_rfl) (fun _ _ _ h => h) (by rfl) (fun W hW => ?ya9) ?_
          case ya9 =>
            go_simp <;> with_reducible rfl
          simp only [Act.put, List.setIfInBounds_toArray, List.set_cons_zero, List.set_cons_succ]
          refine grow_take 10 (some 28) (v := ?va10) rfl rfl (by kernel_rfl) (by kernel_rfl) (by kernel_rfl) (fun _ _ _ h => h) (by rfl) (fun W hW => ?ya10) ?_
          case ya10 =>
            go_simp <;> with_reducible rfl
          simp only [Act.put, List.setIfInBounds_toArray, List.set_cons_zero, List.set_cons_succ]
          refine grow_take 11 (some 29) (v := ?va11) rfl rfl (by kernel_rfl) (by kernel_rfl) (by kernel_rfl) (fun _ _ _ h => h) (by rfl) (fun W hW => ?ya11) ?_
          case ya11 =>
            go_simp <;> with_reducible rfl
          simp only [Act.put, List.setIfInBounds_toArray, List.set_cons_zero, List.set_cons_succ]
          refine grow_take 12 (some 30) (v := ?va12) rfl rfl (by kernel_rfl) (by kernel_rfl) (by kernel_rfl) (fun _ _ _ h => h) (by rfl) (fun W hW => ?ya12) ?_
          case ya12 =>
            have h1 := cw1 W (hbr2.trans hW); have h2 := cw01 W (hbr2.trans hW)
            go_simp <;> with_reducible rfl
          simp only [Act.put, List.setIfInBounds_toArray, List.set_cons_zero, List.set_cons_succ]
          refine grow_only 13 rfl (by kernel_rfl) (fun K hK => ?_)
          go_simp
          refine (hV _).mono ?_
          rintro e w4 ⟨rfl, hb4⟩
          have hb4m := hb4.mono hbr2.size
          have hbr4 := hbr2.trans hb4m
          refine hK.out _ _ hb4m ?_
          clear hK K hb4 hb4m
          try simp only [Act.put, List.setIfInBounds_toArray, List.set_cons_zero, List.set_cons_succ]
          refine grow_take 14 (some 32) (v := ?va14) rfl rfl (by kernel_rfl) (by kernel_rfl) (by kernel_rfl) (fun _ _ _ h => h) (by rfl) (fun W hW => ?ya14) ?_
          case ya14 =>
            go_simp
            rw [if_neg (by omega)]
          simp only [Act.put, List.setIfInBounds_toArray, List.set_cons_zero, List.set_cons_succ]
          refine grow_take 15 (some 4) (v := ?va15) rfl rfl (by kernel_rfl) (by kernel_rfl) (by kernel_rfl) (fun _ _ _ h => h) (by rfl) (fun W hW => ?ya15) ?_
          case ya15 =>
            go_simp <;> with_reducible rfl
          simp only [Act.put, List.setIfInBounds_toArray, List.set_cons_zero, List.set_cons_succ]
          refine grow_done (by kernel_rfl) ?_ _
          go_wp2
          go_roundg k
          case measure => omega
          case rel => exact ⟨0 + 1, _, by omega, rfl, by go_num, hnx, hnz.out, hbr4⟩

        · have hz : ((0 : Int) < (i : Int)) := by omega
          rw [if_neg hi0] at hnext
          have hnx : Hid (S ++ ⟨#[43]⟩ ++ U ++ ⟨#[61]⟩ ++ Z = txt (prP (l.take (i + 1)))) := hide hnext.out.symm
          clear hnext HR HL HRV hS hSz hi0
          rw [← hnx.out] at hnz
          go_wp2_with fail
          refine grow_begin_at w.heap.size (by kernel_rfl) ?_
          have hbr2 : Below w.heap.size w wr.drew := hbr.trans ((Below.refl _ _).drew)
          generalize wr.drew = w3 at *
          refine grow_take 0 (some 18) (v := ?vb0) rfl rfl (by kernel_rfl) (by kernel_rfl) (by kernel_rfl) (fun _ _ _ h => h) (by rfl) (fun W hW => ?yb0) ?_
          case yb0 =>
            go_simp <;> with_reducible rfl
          simp only [Act.put, List.setIfInBounds_toArray, List.set_cons_zero, List.set_cons_succ]
          refine grow_take 1 (some 19) (v := ?vb1) rfl rfl (by kernel_rfl) (by kernel_rfl) (by kernel_rfl) (fun _ _ _ h => h) (by rfl) (fun W hW => ?yb1) ?_
          case yb1 =>
            go_simp <;> with_reducible rfl
          simp only [Act.put, List.setIfInBounds_toArray, List.set_cons_zero, List.set_cons_succ]
          refine grow_take 2 (some 20) (v := ?vb2) rfl rfl (by kernel_rfl) (by kernel_rfl) (by kernel_rfl) (fun _ _ _ h => h) (by rfl) (fun W hW => ?yb2) ?_
          case yb2 =>
            go_simp <;> with_reducible rfl
          simp only [Act.put, List.setIfInBounds_toArray, List.set_cons_zero, List.set_cons_succ]
          refine grow_take 3 (some 21) (v := ?vb3) rfl rfl (by kernel_rfl) (by kernel_rfl) (by kernel_rfl) (fun _ _ _ h => h) (by rfl) (fun W hW => ?yb3) ?_
          case yb3 =>
            go_simp <;> with_reducible rfl
          simp only [Act.put, List.setIfInBounds_toArray, List.set_cons_zero, List.set_cons_succ]
          refine grow_take 4 (some 22) (v := ?vb4) rfl rfl (by kernel_rfl) (by kernel_rfl) (by kernel_rfl) (fun _ _ _ h => h) (by rfl) (fun W hW => ?yb4) ?_
          case yb4 =>
            go_simp <;> with_reducible rfl
          simp only [Act.put, List.setIfInBounds_toArray, List.set_cons_zero, List.set_cons_succ]
          refine grow_take 5 (some 23) (v := ?vb5) rfl rfl (by kernel_rfl) (by kernel_rfl) (by kernel_rfl) (fun _ _ _ h => h) (by rfl) (fun W hW => ?yb5) ?_
          case yb5 =>
            have h1 := cw0 W (hbr2.trans hW)
            go_simp <;> with_reducible rfl
          simp only [Act.put, List.setIfInBounds_toArray, List.set_cons_zero, List.set_cons_succ]
          refine grow_take 6 (some 24) (v := ?vb6) rfl rfl (by kernel_rfl) (by kernel_rfl) (by kernel_rfl) (fun _ _ _ h => h) (by rfl) (fun W hW => ?yb6) ?_
          case yb6 =>
            go_simp
            rw [if_neg (by omega)]
          simp only [Act.put, List.setIfInBounds_toArray, List.set_cons_zero, List.set_cons_succ]
          refine grow_take 7 (some 25) (v := ?vb7) rfl rfl (by kernel_rfl) (by kernel_rfl) (by kernel_rfl) (fun _ _ _ h => h) (by rfl) (fun W hW => ?yb7) ?_
          case yb7 =>
            go_simp
            rw [if_neg (by omega)]
          simp only [Act.put, List.setIfInBounds_toArray, List.set_cons_zero, List.set_cons_succ]
          refine grow_take 8 (some 26) (v := ?vb8) rfl rfl (by kernel_rfl) (by kernel_rfl) (by kernel_rfl) (fun _ _ _ h => h) (by rfl) (fun W hW => ?yb8) ?_
          case yb8 =>
            go_simp <;> with_reducible rfl
          simp only [Act.put, List.setIfInBounds_toArray, List.set_cons_zero, List.set_cons_succ]
          refine grow_take 9 (some 27) (v := ?vb9) rfl rfl (by kernel_rfl) (by kernel_rfl) (by kernel_rfl) (fun _ _ _ h => h) (by rfl) (fun W hW => ?yb9) ?_
          case yb9 =>
            go_simp <;> with_reducible rfl
          simp only [Act.put, List.setIfInBounds_toArray, List.set_cons_zero, List.set_cons_succ]
          refine grow_take 10 (some 28) (v := ?vb10) rfl rfl (by kernel_rfl) (by kernel_rfl) (by kernel_rfl) (fun _ _ _ h => h) (by rfl) (fun W hW => ?yb10) ?_
          case yb10 =>
            go_simp <;> with_reducible rfl
          simp only [Act.put, List.setIfInBounds_toArray, List.set_cons_zero, List.set_cons_succ]
          refine grow_take 11 (some 29) (v := ?vb11) rfl rfl (by kernel_rfl) (by kernel_rfl) (by kernel_rfl) (fun _ _ _ h => h) (by rfl) (fun W hW => ?yb11) ?_
          case yb11 =>
            go_simp <;> with_reducible rfl
          simp only [Act.put, List.setIfInBounds_toArray, List.set_cons_zero, List.set_cons_succ]
          refine grow_take 12 (some 30) (v := ?vb12) rfl rfl (by kernel_rfl) (by kernel_rfl) (by kernel_rfl) (fun _ _ _ h => h) (by rfl) (fun W hW => ?yb12) ?_
          case yb12 =>
            have h1 := cw1 W (hbr2.trans hW)
            go_simp <;> with_reducible rfl
          simp only [Act.put, List.setIfInBounds_toArray, List.set_cons_zero, List.set_cons_succ]
          refine grow_only 13 rfl (by kernel_rfl) (fun K hK => ?_)
          go_simp
          refine (hV _).mono ?_
          rintro e w4 ⟨rfl, hb4⟩
          have hb4m := hb4.mono hbr2.size
          have hbr4 := hbr2.trans hb4m
          refine hK.out _ _ hb4m ?_
          clear hK K hb4 hb4m
          try simp only [Act.put, List.setIfInBounds_toArray, List.set_cons_zero, List.set_cons_succ]
          refine grow_take 14 (some 32) (v := ?vb14) rfl rfl (by kernel_rfl) (by kernel_rfl) (by kernel_rfl) (fun _ _ _ h => h) (by rfl) (fun W hW => ?yb14) ?_
          case yb14 =>
            go_simp
            rw [if_neg (by omega)]
          simp only [Act.put, List.setIfInBounds_toArray, List.set_cons_zero, List.set_cons_succ]
          refine grow_take 15 (some 4) (v := ?vb15) rfl rfl (by kernel_rfl) (by kernel_rfl) (by kernel_rfl) (fun _ _ _ h => h) (by rfl) (fun W hW => ?yb15) ?_
          case yb15 =>
            go_simp <;> with_reducible rfl
          simp only [Act.put, List.setIfInBounds_toArray, List.set_cons_zero, List.set_cons_succ]
          refine grow_done (by kernel_rfl) ?_ _
          go_wp2
          go_roundg k
          case measure => omega
          case rel => exact ⟨i + 1, _, by omega, rfl, by go_num, hnx, hnz.out, hbr4⟩

  · rw [prV_no hp]
    rw [partB_false hp] at hF
    clear h hs hp hT
    go_enter Tryz.func12, Tryz.ntmps12
    go_wp2_with (go_at_call 14; fail)
    refine hF.mono ?_
    rintro e w0 ⟨rfl, hb0⟩
    clear hF
    go_wp2
    go_ret2
    exact ⟨rfl, hb0⟩

end Go.Proofs.YtihoachcpabkeaaGreatDoor
