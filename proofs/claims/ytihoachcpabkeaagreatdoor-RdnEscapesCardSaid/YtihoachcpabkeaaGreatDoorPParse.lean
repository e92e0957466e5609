/-
  Parse, by the program. By an AI agent.
-/
import Derived.Test.YtihoachcpabkeaaGreatDoorPParseM
import Derived.Test.YtihoachcpabkeaaGreatDoorPSplit
import Derived.Test.YtihoachcpabkeaaGreatDoorPNorm
namespace Go.Proofs.YtihoachcpabkeaaGreatDoor
open Go.RowKit
set_option linter.unusedVariables false

theorem rq_small : ∀ (n : Nat) (l : List UInt8) (first : Bool) (v : List UInt8), l.length ≤ n → rqFrom first l = some v → v.length ≤ l.length
  | 0, l, first, v, h, hv => by
    obtain rfl := List.eq_nil_of_length_eq_zero (Nat.le_zero.1 h)
    simp [rqFrom] at hv
    subst hv
    simp
  | n + 1, l, first, v, h, hv => by
    by_cases hl : l = []
    · subst hl
      simp [rqFrom] at hv
      subst hv
      simp
    · have step : ∀ (r : List UInt8) (x : UInt8), r.length < l.length → rqFrom first l = (rqFrom false r).map (x :: ·) → v.length ≤ l.length := by
        intro r x hr e
        rw [e] at hv
        cases hw : rqFrom false r with
        | none => rw [hw] at hv; cases hv
        | some u =>
          rw [hw] at hv
          obtain rfl := Option.some.inj hv
          have := rq_small n r false u (by omega) hw
          simp only [List.length_cons]
          omega
      cases rway first l hl with
      | bad c r hh _ _ e1 e2 => rw [e2] at hv; cases hv
      | zero r hh e1 e2 => exact step r 0 (by rw [hh]; simp) e2
      | one c r hh _ _ _ e1 e2 => exact step r c (by rw [hh]; simp) e2
      | stop hh e1 e2 => rw [e2] at hv; cases hv
      | pair d r hh _ e1 e2 => exact step r d (by rw [hh]; simp; omega) e2
      | half d hh _ e1 e2 => rw [e2] at hv; cases hv
      | hex d f a b r hh _ _ _ e1 e2 => exact step r _ (by rw [hh]; simp; omega) e2
      | nohex d f r hh _ _ e1 e2 => rw [e2] at hv; cases hv
theorem pairT_small {p : List UInt8} {a : P2} (h : rqPairT p = some a) : a.2.length ≤ p.length := by
  unfold rqPairT at h
  rcases eq_cases p with ⟨h1, _⟩ | ⟨x, y, h1, h2, _⟩
  · rw [h1] at h; cases h
  · rw [h1] at h
    simp only [Option.bind_some] at h
    cases hr : rqFrom true y with
    | none => rw [hr] at h; cases h
    | some v =>
      rw [hr] at h
      obtain rfl := Option.some.inj h
      have := rq_small _ y true v (Nat.le_refl _) hr
      have := congrArg List.length h2
      rw [List.length_append, List.length_cons] at this
      simp only
      omega

theorem goSort_mem {l : List P2} (h0 : 1 ≤ l.length) (h3 : l.length ≤ 3) {x : P2} (hx : x ∈ goSort l) : x ∈ l := by
  match l, h0, h3, hx with
  | [a], _, _, hx => simpa [goSort, Sort.insertionSort, Sort.insOuter] using hx
  | [a, b], _, _, hx =>
    have e : goSort [a, b] = _ := ins2 (ltOf cfP) a b
    rw [e] at hx
    split at hx <;> (simp only [List.mem_cons, List.not_mem_nil, or_false] at hx ⊢; rcases hx with h | h <;> simp [h])
  | [a, b, c], _, _, hx =>
    have e : goSort [a, b, c] = _ := ins3 (ltOf cfP) a b c
    rw [e] at hx
    repeat' split at hx
    all_goals (simp only [List.mem_cons, List.not_mem_nil, or_false] at hx ⊢; rcases hx with h | h | h <;> simp [h])
theorem goSort_len (l : List P2) : (goSort l).length = l.length := by unfold goSort; rw [Array.length_toList, ins_size]; simp

/-- A list that is told, read where it lies. -/
structure PartPost (o : Option (List P2)) (er : Int) (w : World) (e : Ending) (w' : World) : Prop where
  out : ∃ A n c, e = .returned (.tuple #[.slice A n c, .int .i64 (if o.isSome then 0 else er)]) ∧ n = (o.getD []).length ∧ Has w' w'.heap.size 2 A n (prs (o.getD [])) ∧ Below w.heap.size w w'
theorem ListPost.part {E : TypeId} {o : Option (List P2)} {er : Int} {w w' : World} {e : Ending} (h : ListPost E o er w e w') : PartPost o er w e w' := by
  obtain ⟨v, rfl, hown, hb⟩ := h.out
  obtain ⟨A, c, rfl, _, hH⟩ := own_form hown
  exact ⟨A, _, c, rfl, rfl, hH, hb⟩
theorem part_none (er : Int) (w w' : World) (hb : Below w.heap.size w w') : PartPost none er w (.returned (.tuple #[.slice none 0 0, .int .i64 er])) w' := ⟨none, 0, 0, rfl, rfl, Has.nil, hb⟩

set_option maxRecDepth 100000 in
set_option maxHeartbeats 32000000 in
theorem pparse_any (s : ByteArray) (hs : s.size ≤ 1000000) (w : World) (hT : TM w) :
    Calls Tryz.prog 15 #[.string s] w (PartPost (parseP s.data.toList) 2 w) := by
  have hSp := psplit_any s hs 43 (by decide) w
  have hL := Lib.size_eq s
  generalize hl : s.data.toList = l at *
  obtain ⟨ps, hps⟩ : ∃ ps, cuts 43 l = ps := ⟨_, rfl⟩
  rw [hps] at hSp
  have hsm : ∀ p ∈ ps, p.length ≤ 1000000 := fun p hp => by rw [← hps] at hp; have := cuts_small hp; omega
  have hps1 : 1 ≤ ps.length := by rw [← hps]; simp [cuts]
  obtain ⟨R, hR⟩ : ∃ R, parseP l = R := ⟨_, rfl⟩
  rw [hR]
  replace hR := hide hR
  replace hps := hide hps
  clear hL hl
  by_cases h3 : 3 < ps.length
  · have hRn : Hid (R = none) := hide (by rw [← hR.out]; exact parse_long (by rw [hps.out]; exact h3))
    have z3 : ((3 : Int) < (ps.length : Int)) := by omega
    clear hR hps hsm
    go_enter Tryz.func15, Tryz.ntmps15
    go_wp2_with (go_at_call 21; fail)
    refine hSp.mono ?_
    rintro e w1 ⟨v, rfl, hown, hb1⟩
    obtain ⟨Ap, cp, rfl, _, _⟩ := own_form hown
    clear hown hSp
    generalize ps.length = np at *
    go_wp2
    go_ret2
    exact hRn.out ▸ part_none 2 w w1 hb1
  · have z3 : ¬ ((3 : Int) < (ps.length : Int)) := by omega
    have Hsm := hide hsm
    obtain ⟨np, hnp⟩ : ∃ np, ps.length = np := ⟨_, rfl⟩
    rw [hnp] at hSp z3 h3 hps1
    have Hnp := hide hnp
    clear hsm hnp
    go_enter Tryz.func15, Tryz.ntmps15
    go_wp2_with (go_at_call 21; fail)
    refine hSp.mono ?_
    rintro e w1 ⟨v, rfl, hown, hb1⟩
    obtain ⟨Ap, cp, rfl, _, hHp⟩ := own_form hown
    obtain ⟨g, o, rfl, hg, hcell⟩ := hHp.texts (fun h => by have := Hnp.out; rw [h] at this; simp at this; omega)
    have HC := hide hcell
    clear hown hSp hHp hcell
    obtain ⟨wm, hmake, hom, hbm⟩ := makeA w1 np (by omega)
    have horm := hom
    have HB1 := hide hbm
    have HW := hide hb1
    clear hom hbm hb1
    go_wp2
    go_loopg [5, 20] np (fun k s5 s20 wx => ∃ (i : Nat) (L : List P2), i + k = np ∧ s20 = .int .i64 (i : Int) ∧ Hid ((ps.take i).mapM rqPairT = some L ∧ ∀ a ∈ L, a.2.length ≤ 1000000) ∧ wx.ownsRow w1.heap.size 43 2 s5 i (prs L) ∧ Hid (Below w1.heap.size w1 wx))
    case atStart => exact ⟨0, [], by omega, rfl, hide ⟨rfl, fun a h => by cases h⟩, horm, HB1⟩
    case round =>
      obtain ⟨i, L, hig, rfl, hM, hor, hB1⟩ := hrel
      have hbr := HW.out.trans (hB1.out.mono HW.out.size)
      clear horm hmake HB1
      cases gk with
      | zero =>
        obtain rfl : i = np := by omega
        have hiz : ¬ ((i : Int) < (i : Int)) := by omega
        have hfull : (cuts 43 l).mapM rqPairT = some L := by
          have h1 := hM.out.1
          rw [List.take_of_length_le (by rw [Hnp.out]; exact Nat.le_refl _)] at h1
          rw [hps.out]; exact h1
        have hRy : Hid (PartOk (goSort L) → R = some (goSort L)) := hide fun hp => by
          rw [← hR.out]
          exact parse_prog_yes (by rw [hps.out, Hnp.out]; omega) hfull hp
        have hRn : Hid (¬ PartOk (goSort L) → R = none) := hide fun hp => by
          rw [← hR.out]
          exact parse_prog_no (by rw [hps.out, Hnp.out]; omega) hfull hp
        have hLn : L.length = i := by rw [mapM_len hfull, hps.out, Hnp.out]
        have hsz := hM.out.2
        obtain ⟨g2, cap2, rfl, hbg, hglt⟩ := hor.form (by omega)
        rw [← hLn] at hor
        have hSo := sort_any wr w1.heap.size g2 cap2 L hB1.out.size (by omega) hor hglt hbg
        have hGs : ∀ a ∈ goSort L, a.2.length ≤ 1000000 := fun a ha => hsz a (goSort_mem (by omega) (by omega) ha)
        have hGl := goSort_len L
        rw [hLn] at hSo hGl
        clear hR hps hM hfull hsz hor Hnp Hsm HC hLn
        go_wp2_with (go_at_call 28; fail)
        refine hSo.mono ?_
        rintro e w4 ⟨rfl, hH4, hb4⟩
        have hbr4 := HW.out.trans ((hB1.out.trans hb4).mono HW.out.size)
        have hF := pformed_any w4 _ i cap2 (goSort L) hH4 (by omega) hGs (hT.tt.below hbr4)
        clear hSo hb4 hbr hB1 HW
        by_cases hp : PartOk (goSort L)
        · rw [partB_true hp] at hF
          have hRs : Hid (R = some (goSort L)) := hide (hRy.out hp)
          have Hgl := hide hGl
          generalize goSort L = G at *
          clear hRy hRn hp hGs hGl
          go_wp2_with (go_at_call 13; fail)
          refine hF.mono ?_
          rintro e w5 ⟨rfl, hb5⟩
          have hH5 := (hH4.below hb5).upto hb5.size
          have hbr5 := hbr4.trans (hb5.mono hbr4.size)
          have HH := hide hH5
          clear hF hb5 hH4 hbr4 hH5
          go_wp2
          go_ret2
          refine hRs.out ▸ ⟨_, _, _, rfl, Hgl.out.symm, HH.out, hbr5⟩
        · rw [partB_false hp] at hF
          have hRs : Hid (R = none) := hide (hRn.out hp)
          generalize goSort L = G at *
          clear hRy hRn hp hGs hGl
          go_wp2_with (go_at_call 13; fail)
          refine hF.mono ?_
          rintro e w5 ⟨rfl, hb5⟩
          have hbr5 := hbr4.trans (hb5.mono hbr4.size)
          clear hF hb5 hH4 hbr4
          go_wp2
          go_ret2
          exact hRs.out ▸ part_none 2 w w5 hbr5
      | succ k =>
        have hi : i < np := by omega
        have hiz : (i : Int) < (np : Int) := by omega
        obtain ⟨p, hp⟩ : ∃ p, ps[i]? = some p := ⟨_, List.getElem?_eq_getElem (by rw [Hnp.out]; exact hi)⟩
        have c0 := (hB1.out.cell (p := ⟨g, o + i, none⟩) hg).trans (HC.out i p hp)
        have hP := fun w hT => ppair_any (txt p) (by rw [txt_size]; exact Hsm.out p (List.mem_of_getElem? hp)) w hT
        simp only [txt_toList] at hP
        have Hp := hide hp
        have hps7 := Hsm.out p (List.mem_of_getElem? hp)
        have Hps7 := hide hps7
        clear hp hps7 HC
        generalize txt p = U at *
        cases hq : rqPairT p with
        | none =>
          have hRn : Hid (R = none) := hide (by rw [← hR.out]; exact parse_prog_bad (by rw [hps.out]; exact List.mem_of_getElem? Hp.out) hq)
          rw [hq] at hP
          clear hq hR hps hM Hp Hps7 Hsm Hnp
          go_wp2_with (go_at_call 27; fail)
          refine (hP _ (hT.below hbr)).mono ?_
          rintro e w3 hpost
          obtain ⟨X, Y, rfl, _, hb3⟩ := hpost.out
          have hbr3 := hbr.trans (hb3.mono hbr.size)
          have hbr4 := hbr3.alloc hbr3.size (.cells #[.string X, .string Y] 43)
          clear hb3 hbr hP c0 hor hB1 hpost
          go_wp2
          go_ret2
          exact hRn.out ▸ part_none 2 w _ hbr4
        | some a =>
          have hM2 : Hid ((ps.take (i + 1)).mapM rqPairT = some (L ++ [a]) ∧ ∀ b ∈ L ++ [a], b.2.length ≤ 1000000) := hide ⟨mapM_more Hp.out hM.out.1 hq, fun b hb => by
            rcases List.mem_append.1 hb with hb | hb
            · exact hM.out.2 b hb
            · obtain rfl := List.mem_singleton.1 hb
              have := pairT_small hq
              have := Hps7.out
              omega⟩
          rw [hq] at hP
          clear hq hM Hp Hps7
          go_wp2_with (go_at_call 27; fail)
          refine (hP _ (hT.below hbr)).mono ?_
          rintro e w3 hpost
          obtain ⟨X, Y, rfl, hXY, hb3⟩ := hpost.out
          obtain ⟨hX, hY⟩ := hXY a rfl
          have hB3 := hide (hB1.out.trans (hb3.mono hB1.out.size))
          have hor3 := own_below hor hb3
          have hv2 : Hid (prs (L ++ [a]) = prs L ++ [.string X, .string Y]) := hide (by rw [prs_append, hX, hY]; rfl)
          clear hb3 hbr hP c0 hor hB1 hpost hXY hX hY
          have hor4 := hor3.alloc (.cells #[.string X, .string Y] 43)
          have hB4 := hide (hB3.out.alloc hB3.out.size (.cells #[.string X, .string Y] 43))
          have hbx := Bx.new w3 X Y 43
          have e0 := hbx.c0
          have e1 := hbx.c1
          clear hor3 hB3 hbx
          generalize hW : w3.alloc (.cells #[.string X, .string Y] 43) = w4 at *
          have hone := litP w4 X Y 43
          have hH := Has.own hone
          have hor5 := hor4.alloc (.cells #[.string X, .string Y] 43)
          have hB5 := hide (hB4.out.alloc hB4.out.size (.cells #[.string X, .string Y] 43))
          have hs5 := hB5.out.size
          have h1c : ∀ u ∈ [Value.string X, Value.string Y], u.oneCell' = true := by simp [Value.oneCell']
          clear hone hor4 hB4
          go_wp2_with (at_builtin; go_must (refine appE _ 28 43 _ 2 32 Tryz.underlying28 infoA rfl (by omega) (by omega) rfl (.tmp 31) (.tmp 33) rfl w1.heap.size _ i _ rfl hor5 _ _ 1 1 [.string X, .string Y] rfl hH h1c (by omega) hs5 ?_))
          intro v' w6 hor6 hb6 hg6
          have hB6 := hide (hB5.out.trans hb6)
          rw [← hv2.out] at hor6
          clear hor5 hB5 hs5 hH hb6 hg6 h1c e0 e1 hW
          go_wp2
          go_roundg k
          case measure => omega
          case rel => exact ⟨i + 1, L ++ [a], by omega, by go_num, hM2, hor6, hB6⟩

end Go.Proofs.YtihoachcpabkeaaGreatDoor
