/-
  Parse of names, by the program and by the reference. By an AI agent.
-/
import Derived.Test.YtmidjagjgipabaaGreatDoorQRows
namespace Go.Proofs.YtmidjagjgipabaaGreatDoor
open Go.RowKit
set_option linter.unusedVariables false

theorem ne_nil_text {l : List UInt8} (h : l ≠ []) : ((txt l).toList == []) = false := by rw [txt_bytes]; simpa using h
theorem nil_text : ((txt ([] : List UInt8)).toList == []) = true := by rw [txt_bytes]; rfl

set_option maxRecDepth 100000 in
set_option maxHeartbeats 32000000 in
theorem pname_any (l : List UInt8) (hl : l.length ≤ 1000000) (w : World) (hT : TM w) :
    Calls Tryz.prog 21 #[.string (txt l)] w (NamePost (nameV l) w) := by
  have hsz : (txt l).size = l.length := txt_size l
  have hN0 := Nx.new w (.slice none 0 0) 42
  have hb0 := below1 w (.cells #[.slice none 0 0] 42)
  have hTw := hT.below hb0
  by_cases h1000 : 1000 < l.length
  · have e : nameV l = (none, 4) := by unfold nameV; rw [if_pos h1000]
    rw [e]
    have z1 : ((1000 : Int) < ((txt l).size : Int)) := by omega
    generalize txt l = s at *
    obtain ⟨c0, _, f0⟩ := hN0
    clear e hsz h1000 hTw hT hl
    go_enter Tryz.func21, Tryz.ntmps21
    go_wp2
    (try simp only [Exit.inBlock, Exit.then])
    refine bodyPost_ret (v := .tuple #[.agg #[.slice none 0 0], .int .i64 4]) ?_ rfl (name_no 4 w _ hb0)
    rw [results_cell_tmp rfl]
    go_simp
  · have z1 : ¬ ((1000 : Int) < ((txt l).size : Int)) := by omega
    by_cases hnil : l = []
    · subst hnil
      have e : nameV [] = (some [], 0) := by unfold nameV; rw [if_neg h1000, if_pos rfl]
      rw [e]
      have e0 := nil_text
      generalize txt [] = s at *
      obtain ⟨c0, _, f0⟩ := hN0
      clear e hsz h1000 hTw hT hl
      go_enter Tryz.func21, Tryz.ntmps21
      go_wp2
      (try simp only [Exit.inBlock, Exit.then])
      refine bodyPost_ret (v := .tuple #[.agg #[.slice none 0 0], .int .i64 0]) ?_ rfl (name_root w _ hb0)
      rw [results_cell_tmp rfl]
      go_simp
    · have e0 := ne_nil_text hnil
      have hSp := fun w => psplit_any (txt l) (by omega) 44 (by decide) w
      simp only [txt_toList] at hSp
      obtain ⟨R, hR⟩ : ∃ R, nameV l = R := ⟨_, rfl⟩
      rw [hR]
      obtain ⟨ps, hps⟩ : ∃ ps, cuts 44 l = ps := ⟨_, rfl⟩
      have hsm : ∀ p ∈ ps, p.length ≤ 1000000 := fun p hp => by rw [← hps] at hp; have := cuts_small hp; omega
      have hps1 : 1 ≤ ps.length := by rw [← hps]; simp [cuts]
      have hRlong : 12 < ps.length → R = (none, 4) := fun h => by
        rw [← hR]; unfold nameV; rw [if_neg h1000, if_neg hnil, hps, if_pos h]
      have hRno : ps.length ≤ 12 → ps.mapM parseP = none → R = (none, 2) := fun h hm => by
        rw [← hR]; unfold nameV; rw [if_neg h1000, if_neg hnil, hps, if_neg (by omega), hm]
      have hRyes : ps.length ≤ 12 → ∀ L, ps.mapM parseP = some L → R = (some L, 0) := fun h L hm => by
        rw [← hR]; unfold nameV; rw [if_neg h1000, if_neg hnil, hps, if_neg (by omega), hm]
      rw [hps] at hSp
      have Hsm := hide hsm
      have HLong := hide hRlong
      have HNo := hide hRno
      have HYes := hide hRyes
      generalize txt l = s at *
      clear hR hps hsm hRlong hRno hRyes hnil h1000 hsz hl hT
      obtain ⟨np, hnp⟩ : ∃ np, ps.length = np := ⟨_, rfl⟩
      rw [hnp] at hSp hps1 HLong HNo HYes
      have Hnp := hide hnp
      clear hnp
      by_cases h12 : 12 < np
      · have hRn : Hid (R = (none, 4)) := hide (HLong.out h12)
        have z3 : ((12 : Int) < (np : Int)) := by omega
        clear HLong HNo HYes Hsm
        go_enter Tryz.func21, Tryz.ntmps21
        go_wp2_with (go_at_call 36; fail)
        refine (hSp _).mono ?_
        rintro e w1 ⟨v, rfl, hown, hb1⟩
        obtain ⟨Ap, cp, rfl, _, _⟩ := own_form hown
        have hbr := hb0.trans (hb1.mono hb0.size)
        obtain ⟨c0, _, f0⟩ := hN0.below (by simp) hb1
        clear hown hSp hN0 hb1 hTw
        go_wp2
        (try simp only [Exit.inBlock, Exit.then])
        have g0 := World.cell?_setCell_same _ _ (.slice none 0 0) c0
        have hbe := hbr.setCell (p := ⟨w.heap.size, 0, none⟩) (Nat.le_refl _) (.slice none 0 0)
        refine bodyPost_ret (v := .tuple #[.agg #[.slice none 0 0], .int .i64 4]) ?_ rfl (hRn.out ▸ name_no 4 w _ hbe)
        rw [results_cell_tmp rfl]
        go_simp
      · have z3 : ¬ ((12 : Int) < (np : Int)) := by omega
        have HNo2 := hide (HNo.out (by omega))
        have HYes2 := hide (HYes.out (by omega))
        clear HLong HNo HYes
        go_enter Tryz.func21, Tryz.ntmps21
        go_wp2_with (go_at_call 36; fail)
        refine (hSp _).mono ?_
        rintro e w1 ⟨v, rfl, hown, hb1⟩
        obtain ⟨Ap, cp, rfl, _, hHp⟩ := own_form hown
        obtain ⟨g, o, rfl, hg, hcell⟩ := hHp.texts (fun h => by have := Hnp.out; rw [h] at this; simp at this; omega)
        have HC := hide hcell
        have hbw1 := hb0.trans (hb1.mono hb0.size)
        have hTw1 := hTw.below hb1
        have HN1 := hide (hN0.below (by simp) hb1)
        have hlt1 : w.heap.size < w1.heap.size := by have := hb1.size; simp at this; omega
        clear hown hSp hHp hcell hN0 hb0 hTw hb1
        obtain ⟨wm, hmake, hom, hbm⟩ := makeR w1 np (by omega)
        have hRO := RowOf.start hom
        have HB1 := hide hbm
        clear hom hbm
        go_wp2
        go_loopg [5, 28] np (fun k s5 s28 wx => ∃ (i : Nat) (L : List (List P2)) (vs : List Value), i + k = np ∧ s28 = .int .i64 (i : Int) ∧ Hid ((ps.take i).mapM parseP = some L ∧ L.length = i) ∧ RowOf wx w1.heap.size 45 s5 vs L ∧ Hid (Below w1.heap.size w1 wx))
        case atStart => exact ⟨0, [], [], by omega, rfl, hide ⟨rfl, rfl⟩, hRO, HB1⟩
        case round =>
          obtain ⟨i, L, vs, hig, rfl, hM, hro, hB1⟩ := hrel
          clear hRO hmake HB1
          cases gk with
          | zero =>
            obtain rfl : i = np := by omega
            have hiz : ¬ ((i : Int) < (i : Int)) := by omega
            have hRy : Hid (R = (some L, 0)) := hide (HYes2.out L (by
              have h1 := hM.out.1
              rwa [List.take_of_length_le (by rw [Hnp.out]; exact Nat.le_refl _)] at h1))
            have hLn : Hid (L.length = i) := hide hM.out.2
            have hbr := hbw1.trans (hB1.out.mono hbw1.size)
            obtain ⟨c0, _, f0⟩ := HN1.out.below hlt1 hB1.out
            obtain ⟨A, c, rfl, _, _⟩ := own_form hro.own
            clear HNo2 HYes2 hM Hnp Hsm HC HN1 hB1
            go_wp2
            (try simp only [Exit.inBlock, Exit.then])
            have g0 := World.cell?_setCell_same _ _ (.slice A L.length c) c0
            have hbe := hbr.setCell (p := ⟨w.heap.size, 0, none⟩) (Nat.le_refl _) (.slice A L.length c)
            have hro2 := hro.set hlt1 (.slice A L.length c)
            refine bodyPost_ret (v := .tuple #[.agg #[.slice A L.length c], .int .i64 0]) ?_ rfl (hRy.out ▸ ⟨A, c, vs, rfl, Has.own hro2.own, hro2.rows, hbe⟩)
            rw [results_cell_tmp rfl]
            go_simp
          | succ k =>
            have hi : i < np := by omega
            have hiz : (i : Int) < (np : Int) := by omega
            have hbr := hbw1.trans (hB1.out.mono hbw1.size)
            obtain ⟨p, hp⟩ : ∃ p, ps[i]? = some p := ⟨_, List.getElem?_eq_getElem (by rw [Hnp.out]; exact hi)⟩
            have cp0 := (hB1.out.cell (p := ⟨g, o + i, none⟩) hg).trans (HC.out i p hp)
            have hP := fun w hT => pparse_low (txt p) (by rw [txt_size]; exact Hsm.out p (List.mem_of_getElem? hp)) w hT
            simp only [txt_toList] at hP
            have hTr := hTw1.below hB1.out
            have Hp := hide hp
            clear hp HC
            generalize txt p = U at *
            cases hq : parseP p with
            | none =>
              have hRn : Hid (R = (none, 2)) := hide (HNo2.out (mapM_none (List.mem_of_getElem? Hp.out) hq))
              rw [hq] at hP
              clear hq HNo2 HYes2 hM Hnp Hsm Hp hro
              go_wp2_with (go_at_call 37; fail)
              refine (hP _ hTr).mono ?_
              rintro e w3 hpost
              obtain ⟨A3, n3, c3, rfl, hn3, _, hb3, _⟩ := hpost.out
              have hbr3 := hbr.trans (hb3.mono hbr.size)
              obtain ⟨c0, _, f0⟩ := HN1.out.below hlt1 (hB1.out.trans (hb3.mono hB1.out.size))
              clear hb3 hbr hP cp0 hB1 hpost hTr HN1
              go_wp2
              (try simp only [Exit.inBlock, Exit.then])
              have g0 := World.cell?_setCell_same _ _ (.slice none 0 0) c0
              have hbe := hbr3.setCell (p := ⟨w.heap.size, 0, none⟩) (Nat.le_refl _) (.slice none 0 0)
              refine bodyPost_ret (v := .tuple #[.agg #[.slice none 0 0], .int .i64 2]) ?_ rfl (hRn.out ▸ name_no 2 w _ hbe)
              rw [results_cell_tmp rfl]
              go_simp
            | some a =>
              have hM2 : Hid ((ps.take (i + 1)).mapM parseP = some (L ++ [a]) ∧ (L ++ [a]).length = i + 1) := hide ⟨mapM_more Hp.out hM.out.1 hq, by rw [List.length_append, hM.out.2]; rfl⟩
              have hLi : Hid (L.length = i) := hide hM.out.2
              rw [hq] at hP
              clear hq hM Hp
              go_wp2_with (go_at_call 37; fail)
              refine (hP _ hTr).mono ?_
              rintro e w3 hpost
              obtain ⟨A3, n3, c3, rfl, hn3, hH3, hb3, hlo⟩ := hpost.out
              obtain rfl : n3 = a.length := hn3
              have hoff := OffP.new (p := a) hro.own hB1.out.size hlo
              have hro3 := hro.below hb3
              have hB3 := hide (hB1.out.trans (hb3.mono hB1.out.size))
              clear hb3 hbr hP cp0 hro hB1 hpost hTr hlo
              have hone := lit1 w3 (.slice A3 a.length c3) 45
              have hH1 := Has.own hone
              have hba := below1 w3 (.cells #[.slice A3 a.length c3] 45)
              have hro4 := hro3.below hba
              have hH4 := (hH3.below hba).upto hba.size
              have hB4 := hide (hB3.out.trans (hba.mono hB3.out.size))
              have hs4 := hB4.out.size
              have h1c : ∀ u ∈ [Value.slice A3 a.length c3], u.oneCell' = true := by simp [Value.oneCell']
              have hown4 := hro4.own
              have HO4 := hide hro4
              have HA4 := hide hH4
              have HF := hide hoff
              obtain ⟨N6, hN⟩ : ∃ N6, L.length + 1 = N6 := ⟨_, rfl⟩
              replace hN := hide hN
              obtain ⟨ys, hys⟩ : ∃ ys, vs ++ [.slice A3 a.length c3] = ys := ⟨_, rfl⟩
              replace hys := hide hys
              have hLs : L.length + 1 ≤ 10000000 := by rw [hLi.out]; omega
              clear hone hro3 hH3 hba hB3 hro4 hH4 hoff
              go_wp2_with (at_builtin; go_must (refine appR _ 40 45 _ 1 24 Tryz.underlying40 infoRA rfl (by omega) (by omega) rfl (.tmp 40) (.tmp 42) rfl w1.heap.size _ L.length vs rfl hown4 _ _ 1 1 [.slice A3 a.length c3] rfl hH1 h1c N6 ys hN hys hLs hs4 ?_))
              intro v' w6 hor6 hb6 hg6 ht6
              have hro6 : RowOf w6 w1.heap.size 45 v' ys (L ++ [a]) := by
                have hor := hor6
                rw [← hys.out, ← hN.out] at hor
                rw [← hys.out]
                exact HO4.out.snoc HA4.out HF.out hor hg6 (by simpa using ht6)
              have hB6 := hide (hB4.out.trans hb6)
              clear hown4 hB4 hs4 hH1 hb6 hg6 ht6 h1c hor6 HO4 HA4 HF hys hN hLs hLi
              go_wp2
              go_roundg k
              case measure => omega
              case rel => exact ⟨i + 1, L ++ [a], ys, by omega, by go_num, hM2, hro6, hB6⟩

end Go.Proofs.YtmidjagjgipabaaGreatDoor
