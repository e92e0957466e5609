/-
  Normal: the part with its values' normal forms, by the program and by the reference. By an AI agent.
-/
import Derived.Test.YtihoachcpabkeaaGreatDoorPRForm
import Derived.Test.YtihoachcpabkeaaGreatDoorPPrint
import Derived.Laws.MakeOwn
namespace Go.Proofs.YtihoachcpabkeaaGreatDoor
open Go.RowKit
set_option linter.unusedVariables false

/-- A list that is told, or none, with an error's number. -/
structure ListPost (E : TypeId) (o : Option (List P2)) (er : Int) (w : World) (e : Ending) (w' : World) : Prop where
  out : ∃ v, e = .returned (.tuple #[v, .int .i64 (if o.isSome then 0 else er)]) ∧ w'.ownsRow w.heap.size E 2 v (o.getD []).length (prs (o.getD [])) ∧ Below w.heap.size w w'

open Classical in
noncomputable def normV (l : List P2) : Option (List P2) := if PartOk l then some (normP l) else none
open Classical in
theorem normV_yes {l : List P2} (h : PartOk l) : normV l = some (normP l) := by unfold normV; rw [if_pos h]
open Classical in
theorem normV_no {l : List P2} (h : ¬ PartOk l) : normV l = none := by unfold normV; rw [if_neg h]

theorem makeA (w : World) (n : Nat) (hn : n ≤ 1000000) :
    ∃ w', (Instr.makeSlice 28 (.int .i64 0) (.int .i64 (n : Int))).run Tryz.prog w = .ok (.slice (some ⟨w.heap.size, 0, none⟩) 0 n) w' ∧
      w'.ownsRow w.heap.size 43 2 (.slice (some ⟨w.heap.size, 0, none⟩) 0 n) 0 (prs []) ∧ Below w.heap.size w w' := by
  obtain ⟨i0, hi, hz0, hz1, hz2⟩ := info_parts infoA
  obtain ⟨w', h1, h2, h3⟩ := run_make_own (P := Tryz.prog) w w.heap.size 28 43 i0 (.agg #[.string .empty, .string .empty]) 2 Tryz.underlying28 hi hz0 hz1 .i64 .i64 n (by rw [hz2]; omega) (by unfold maxLen; omega) (Nat.le_refl _)
  exact ⟨w', h1, h2, (Below.refl _ _).grown h3 (Nat.le_refl _) (fun g hg => by cases hg)⟩

theorem normP_more {l : List P2} {i : Nat} {a : P2} (ha : l[i]? = some a) : prs (normP (l.take (i + 1))) = prs (normP (l.take i)) ++ [.string (txt a.1), .string (txt (norm a.1 a.2).1)] := by
  have htk : l.take (i + 1) = l.take i ++ [a] := by rw [List.take_add_one, ha]; rfl
  rw [htk]
  simp [normP, prs]

set_option maxRecDepth 100000 in
set_option maxHeartbeats 32000000 in
theorem pnormal_any (w : World) (A : Option Addr) (n c : Nat) (l : List P2) (h : Has w w.heap.size 2 A n (prs l)) (hn : n ≤ 10000) (hs : ∀ a ∈ l, a.2.length ≤ 1000000) (hT : TT w) :
    Calls Tryz.prog 19 #[.slice A n c] w (ListPost 43 (normV l) 1 w) := by
  have hF := pformed_any w A n c l h hn hs hT
  by_cases hp : PartOk l
  · rw [normV_yes hp]
    rw [partB_true hp] at hF
    have hnl := h.pairs_n
    obtain ⟨g, o, rfl, hg, hrd⟩ := h.reads (by rintro rfl; have := hp.pos; simp at this)
    have HL := hide hnl
    have HR := hide hrd
    have HP := hide hp
    have HN : Hid ((normP l).length = n) := hide (by simp [normP]; exact hnl.symm)
    have hn3 : n ≤ 3 := by have := hp.le; omega
    clear hnl h hrd hs hp
    go_enter Tryz.func19, Tryz.ntmps19
    go_wp2_with (go_at_call 13; fail)
    refine hF.mono ?_
    rintro e w0 ⟨rfl, hb0⟩
    clear hF
    obtain ⟨wm, hmake, hom, hbm⟩ := makeA w0 n (by omega)
    have hbrm := hb0.trans (hbm.mono hb0.size)
    have horm := own_base hom hb0.size
    clear hom hbm hb0
    go_wp2
    go_loopg [4, 19] n (fun k s4 s19 wx => ∃ i : Nat, i + k = n ∧ s19 = .int .i64 (i : Int) ∧ wx.ownsRow w.heap.size 43 2 s4 i (prs (normP (l.take i))) ∧ Below w.heap.size w wx)
    case atStart => exact ⟨0, by omega, rfl, by simpa [normP] using horm, hbrm⟩
    case round =>
      obtain ⟨i, hig, rfl, hor, hbr⟩ := hrel
      clear horm hbrm hmake
      cases gk with
      | zero =>
        obtain rfl : i = n := by omega
        have hiz : ¬ ((i : Int) < (i : Int)) := by omega
        rw [List.take_of_length_le (by rw [HL.out]; exact Nat.le_refl _)] at hor
        have Hor := hide hor
        clear hor HL HR HP
        go_wp2
        go_ret2
        exact ⟨_, rfl, by have := Hor.out; rw [← HN.out] at this; exact this, hbr⟩
      | succ k =>
        have hi : i < n := by omega
        have hiz : (i : Int) < (n : Int) := by omega
        obtain ⟨a, ha⟩ : ∃ a, l[i]? = some a := ⟨_, List.getElem?_eq_getElem (by rw [← HL.out]; exact hi)⟩
        have c0 := (hbr.cell (p := ⟨g, o + i * 2, none⟩) hg).trans (HR.out.fst i a ha)
        have c1 := (hbr.cell (p := ⟨g, o + i * 2 + 1, none⟩) hg).trans (HR.out.snd i a ha)
        have hok := HP.out.each a (List.mem_of_getElem? ha)
        have hsm := hok.small
        have hTy := fun w hT => type_any (txt a.1) w hT
        have hNo := fun w hT => normal_any (txt a.1) (txt a.2) (by rw [txt_size]; omega) w hT
        simp only [txt_toList] at hTy hNo
        rw [hok.name] at hTy
        have hnx := normP_more ha
        generalize hU : txt a.1 = U at *
        generalize hV : txt a.2 = V at *
        generalize hY : txt (norm a.1 a.2).1 = Y at *
        generalize (norm a.1 a.2).2 = y at *
        generalize (typ a.1).2 = x at *
        have Hnx := hide hnx
        clear ha hok hsm hU hV hY hnx HR HP HL
        have hbx := Bx.new wr U V 43
        have hbr1 := hbr.alloc hbr.size (.cells #[.string U, .string V] 43)
        have hor1 := hor.alloc (.cells #[.string U, .string V] 43)
        have e0 := hbx.c0
        clear hor hbr
        go_wp2_with (go_at_call 33; fail)
        refine (hTy _ (hT.below hbr1).types).mono ?_
        rintro e w2 ⟨rfl, hb2⟩
        have hbx2 := hbx.below hb2
        have hor2 := own_below hor1 hb2
        have hbr2 := hbr1.trans (hb2.mono hbr1.size)
        have d1 := hbx2.c1
        clear hbx hor1 hbr1 hb2 hTy e0
        go_wp2_with (go_at_call 34; fail)
        refine (hNo _ (hT.below hbr2)).mono ?_
        rintro e w3 ⟨rfl, hb3⟩
        have hor3 := own_below hor2 hb3
        have hbr3 := hbr2.trans (hb3.mono hbr2.size)
        clear hor2 hbr2 hb3 hNo d1 hbx2 c0 c1
        have hone := litP w3 U Y 43
        have hH := Has.own hone
        have hor4 := hor3.alloc (.cells #[.string U, .string Y] 43)
        have hbr4 := hbr3.alloc hbr3.size (.cells #[.string U, .string Y] 43)
        have hs4 := hbr4.size
        have h1c : ∀ u ∈ [Value.string U, Value.string Y], u.oneCell' = true := by simp [Value.oneCell']
        clear hone hor3 hbr3
        go_wp2_with (at_builtin; go_must (refine appE _ 28 43 _ 2 32 Tryz.underlying28 infoA rfl (by omega) (by omega) rfl (.tmp 36) (.tmp 40) rfl w.heap.size _ i _ rfl hor4 _ _ 1 1 [.string U, .string Y] rfl hH h1c (by omega) hs4 ?_))
        intro v' w5 hor5 hb5 _
        have hbr5 := hbr4.trans hb5
        rw [← Hnx.out] at hor5
        clear hor4 hbr4 hs4 hH hb5 h1c
        go_wp2
        go_roundg k
        case measure => omega
        case rel => exact ⟨i + 1, by omega, by go_num, hor5, hbr5⟩
  · rw [normV_no hp]
    rw [partB_false hp] at hF
    clear h hs hp hT
    go_enter Tryz.func19, Tryz.ntmps19
    go_wp2_with (go_at_call 13; fail)
    refine hF.mono ?_
    rintro e w0 ⟨rfl, hb0⟩
    clear hF
    go_wp2
    go_ret2
    exact ⟨_, rfl, nil_own _ _ _ _, hb0⟩

set_option maxRecDepth 100000 in
set_option maxHeartbeats 32000000 in
theorem rnormal_part (w : World) (A : Option Addr) (n c : Nat) (l : List P2) (h : Has w w.heap.size 2 A n (prs l)) (hn : n ≤ 10000) (hs : ∀ a ∈ l, a.1.length ≤ 1000000 ∧ a.2.length ≤ 1000000) (hT : TT w) :
    Calls Tryz.prog 20 #[.slice A n c] w (ListPost 46 (normV l) 1 w) := by
  have hF := rformed_part w A n c l h hn hs hT
  by_cases hp : PartOk l
  · rw [normV_yes hp]
    rw [partB_true hp] at hF
    have hnl := h.pairs_n
    obtain ⟨g, o, rfl, hg, hrd⟩ := h.reads (by rintro rfl; have := hp.pos; simp at this)
    have HL := hide hnl
    have HR := hide hrd
    have HP := hide hp
    have HN : Hid ((normP l).length = n) := hide (by simp [normP]; exact hnl.symm)
    have hn3 : n ≤ 3 := by have := hp.le; omega
    clear hnl h hrd hs hp
    go_enter Tryz.func20, Tryz.ntmps20
    go_wp2_with (go_at_call 14; fail)
    refine hF.mono ?_
    rintro e w0 ⟨rfl, hb0⟩
    clear hF
    go_wp2
    go_loopg [4, 13] n (fun k s4 s13 wx => ∃ i : Nat, i + k = n ∧ s13 = .int .i64 (i : Int) ∧ wx.ownsRow w.heap.size 46 2 s4 i (prs (normP (l.take i))) ∧ Below w.heap.size w wx)
    case atStart => exact ⟨0, by omega, rfl, by simpa [normP, prs] using nil_own _ _ _ _, hb0⟩
    case round =>
      obtain ⟨i, hig, rfl, hor, hbr⟩ := hrel
      clear hb0
      cases gk with
      | zero =>
        obtain rfl : i = n := by omega
        have hiz : ¬ ((i : Int) < (i : Int)) := by omega
        rw [List.take_of_length_le (by rw [HL.out]; exact Nat.le_refl _)] at hor
        have Hor := hide hor
        clear hor HL HR HP
        go_wp2
        go_ret2
        exact ⟨_, rfl, by have := Hor.out; rw [← HN.out] at this; exact this, hbr⟩
      | succ k =>
        have hi : i < n := by omega
        have hiz : (i : Int) < (n : Int) := by omega
        obtain ⟨a, ha⟩ : ∃ a, l[i]? = some a := ⟨_, List.getElem?_eq_getElem (by rw [← HL.out]; exact hi)⟩
        have cw0 : ∀ W, Below w.heap.size w W → W.cell? ⟨g, o + i * 2, none⟩ = some (.string (txt a.1)) := fun W hW => (hW.cell (p := ⟨g, o + i * 2, none⟩) hg).trans (HR.out.fst i a ha)
        have cw1 : ∀ W, Below w.heap.size w W → W.cell? ⟨g, o + i * 2 + 1, none⟩ = some (.string (txt a.2)) := fun W hW => (hW.cell (p := ⟨g, o + i * 2 + 1, none⟩) hg).trans (HR.out.snd i a ha)
        have hok := HP.out.each a (List.mem_of_getElem? ha)
        have hsm := hok.small
        have hNo := fun w hT => rnormal_any (txt a.1) (txt a.2) (by rw [txt_size]; omega) (by rw [txt_size]; omega) w hT
        simp only [txt_toList] at hNo
        have hnx := normP_more ha
        generalize hU : txt a.1 = U at *
        generalize hV : txt a.2 = V at *
        generalize hY : txt (norm a.1 a.2).1 = Y at *
        generalize (norm a.1 a.2).2 = y at *
        have Hnx := hide hnx
        clear ha hok hsm hU hV hY hnx HR HP HL
        go_wp2_with fail
        refine grow_begin_at w.heap.size (by kernel_rfl) ?_
        have hbr2 : Below w.heap.size w wr.drew := hbr.trans ((Below.refl _ _).drew)
        have hor2 := own_below hor (Below.refl wr.heap.size wr).drew
        clear hor hbr
        generalize wr.drew = w3 at *
        refine grow_take 0 (some 17) (v := ?va0) rfl rfl (by kernel_rfl) (by kernel_rfl) (by kernel_rfl) (fun _ _ _ h => h) (by rfl) (fun W hW => ?ya0) ?_
        case ya0 =>
          go_simp <;> with_reducible rfl
        simp only [Act.put, List.setIfInBounds_toArray, List.set_cons_zero, List.set_cons_succ]
        refine grow_take 1 (some 18) (v := ?va1) rfl rfl (by kernel_rfl) (by kernel_rfl) (by kernel_rfl) (fun _ _ _ h => h) (by rfl) (fun W hW => ?ya1) ?_
        case ya1 =>
          go_simp <;> with_reducible rfl
        simp only [Act.put, List.setIfInBounds_toArray, List.set_cons_zero, List.set_cons_succ]
        refine grow_take 2 (some 19) (v := ?va2) rfl rfl (by kernel_rfl) (by kernel_rfl) (by kernel_rfl) (fun _ _ _ h => h) (by rfl) (fun W hW => ?ya2) ?_
        case ya2 =>
          go_simp <;> with_reducible rfl
        simp only [Act.put, List.setIfInBounds_toArray, List.set_cons_zero, List.set_cons_succ]
        refine grow_take 3 (some 20) (v := ?va3) rfl rfl (by kernel_rfl) (by kernel_rfl) (by kernel_rfl) (fun _ _ _ h => h) (by rfl) (fun W hW => ?ya3) ?_
        case ya3 =>
          go_simp <;> with_reducible rfl
        simp only [Act.put, List.setIfInBounds_toArray, List.set_cons_zero, List.set_cons_succ]
        refine grow_take 4 (some 21) (v := ?va4) rfl rfl (by kernel_rfl) (by kernel_rfl) (by kernel_rfl) (fun _ _ _ h => h) (by rfl) (fun W hW => ?ya4) ?_
        case ya4 =>
          have h1 := cw0 W (hbr2.trans hW)
          go_simp <;> with_reducible rfl
        simp only [Act.put, List.setIfInBounds_toArray, List.set_cons_zero, List.set_cons_succ]
        refine grow_take 5 (some 22) (v := ?va5) rfl rfl (by kernel_rfl) (by kernel_rfl) (by kernel_rfl) (fun _ _ _ h => h) (by rfl) (fun W hW => ?ya5) ?_
        case ya5 =>
          go_simp <;> with_reducible rfl
        simp only [Act.put, List.setIfInBounds_toArray, List.set_cons_zero, List.set_cons_succ]
        refine grow_take 6 (some 23) (v := ?va6) rfl rfl (by kernel_rfl) (by kernel_rfl) (by kernel_rfl) (fun _ _ _ h => h) (by rfl) (fun W hW => ?ya6) ?_
        case ya6 =>
          go_simp <;> with_reducible rfl
        simp only [Act.put, List.setIfInBounds_toArray, List.set_cons_zero, List.set_cons_succ]
        refine grow_take 7 (some 24) (v := ?va7) rfl rfl (by kernel_rfl) (by kernel_rfl) (by kernel_rfl) (fun _ _ _ h => h) (by rfl) (fun W hW => ?ya7) ?_
        case ya7 =>
          go_simp <;> with_reducible rfl
        simp only [Act.put, List.setIfInBounds_toArray, List.set_cons_zero, List.set_cons_succ]
        refine grow_take 8 (some 25) (v := ?va8) rfl rfl (by kernel_rfl) (by kernel_rfl) (by kernel_rfl) (fun _ _ _ h => h) (by rfl) (fun W hW => ?ya8) ?_
        case ya8 =>
          go_simp <;> with_reducible rfl
        simp only [Act.put, List.setIfInBounds_toArray, List.set_cons_zero, List.set_cons_succ]
        refine grow_take 9 (some 26) (v := ?va9) rfl rfl (by kernel_rfl) (by kernel_rfl) (by kernel_rfl) (fun _ _ _ h => h) (by rfl) (fun W hW => ?ya9) ?_
        case ya9 =>
          have h1 := cw1 W (hbr2.trans hW)
          go_simp <;> with_reducible rfl
        simp only [Act.put, List.setIfInBounds_toArray, List.set_cons_zero, List.set_cons_succ]
        refine grow_only 10 rfl (by kernel_rfl) (fun K hK => ?_)
        go_simp
        have hT3 := hT.below hbr2
        refine (hNo _ hT3).mono ?_
        rintro e w4 ⟨rfl, hb4⟩
        have hb4m := hb4.mono hbr2.size
        have hbr4 := hbr2.trans hb4m
        have hor4 := own_below hor2 hb4
        refine hK.out _ _ hb4m ?_
        clear hK K hb4 hb4m hT3 hor2
        try simp only [Act.put, List.setIfInBounds_toArray, List.set_cons_zero, List.set_cons_succ]
        refine grow_take 11 (some 16) (v := ?va11) rfl rfl (by kernel_rfl) (by kernel_rfl) (by kernel_rfl) (fun _ _ _ h => h) (by rfl) (fun W hW => ?ya11) ?_
        case ya11 =>
          go_simp <;> with_reducible rfl
        simp only [Act.put, List.setIfInBounds_toArray, List.set_cons_zero, List.set_cons_succ]
        refine grow_take 12 (some 28) (v := ?va12) rfl rfl (by kernel_rfl) (by kernel_rfl) (by kernel_rfl) (fun _ _ _ h => h) (by rfl) (fun W hW => ?ya12) ?_
        case ya12 =>
          go_simp <;> with_reducible rfl
        simp only [Act.put, List.setIfInBounds_toArray, List.set_cons_zero, List.set_cons_succ]
        refine grow_take 13 (some 29) (v := ?va13) rfl rfl (by kernel_rfl) (by kernel_rfl) (by kernel_rfl) (fun _ _ _ h => h) (by rfl) (fun W hW => ?ya13) ?_
        case ya13 =>
          go_simp <;> with_reducible rfl
        simp only [Act.put, List.setIfInBounds_toArray, List.set_cons_zero, List.set_cons_succ]
        refine grow_take 14 (some 6) (v := ?va14) rfl rfl (by kernel_rfl) (by kernel_rfl) (by kernel_rfl) (fun _ _ _ h => h) (by rfl) (fun W hW => ?ya14) ?_
        case ya14 =>
          go_simp <;> with_reducible rfl
        simp only [Act.put, List.setIfInBounds_toArray, List.set_cons_zero, List.set_cons_succ]
        refine grow_take 15 (some 7) (v := ?va15) rfl rfl (by kernel_rfl) (by kernel_rfl) (by kernel_rfl) (fun _ _ _ h => h) (by rfl) (fun W hW => ?ya15) ?_
        case ya15 =>
          go_simp <;> with_reducible rfl
        simp only [Act.put, List.setIfInBounds_toArray, List.set_cons_zero, List.set_cons_succ]
        refine grow_done (by kernel_rfl) ?_ _
        have hone := litP w4 U Y 46
        have hH := Has.own hone
        have hor5 := hor4.alloc (.cells #[.string U, .string Y] 46)
        have hbr5 := hbr4.alloc hbr4.size (.cells #[.string U, .string Y] 46)
        have hs5 := hbr5.size
        have h1c : ∀ u ∈ [Value.string U, Value.string Y], u.oneCell' = true := by simp [Value.oneCell']
        have c0 := cw0 _ hbr4
        clear hone hor4 hbr4 cw0 cw1
        go_wp2_with (at_builtin; go_must (refine appE _ 22 46 _ 2 32 Tryz.underlying22 infoB rfl (by omega) (by omega) rfl (.tmp 30) (.tmp 38) rfl w.heap.size _ i _ rfl hor5 _ _ 1 1 [.string U, .string Y] rfl hH h1c (by omega) hs5 ?_))
        intro v' w6 hor6 hb6 _
        have hbr6 := hbr5.trans hb6
        rw [← Hnx.out] at hor6
        clear hor5 hbr5 hs5 hH hb6 h1c c0
        go_wp2
        go_roundg k
        case measure => omega
        case rel => exact ⟨i + 1, by omega, by go_num, hor6, hbr6⟩
  · rw [normV_no hp]
    rw [partB_false hp] at hF
    clear h hs hp hT
    go_enter Tryz.func20, Tryz.ntmps20
    go_wp2_with (go_at_call 14; fail)
    refine hF.mono ?_
    rintro e w0 ⟨rfl, hb0⟩
    clear hF
    go_wp2
    go_ret2
    exact ⟨_, rfl, nil_own _ _ _ _, hb0⟩

end Go.Proofs.YtihoachcpabkeaaGreatDoor
