/-
  The reference's ParsePart. By an AI agent.
-/
import Derived.Test.YtihoachcpabkeaaGreatDoorPParse
namespace Go.Proofs.YtihoachcpabkeaaGreatDoor
open Go.RowKit
set_option linter.unusedVariables false

theorem typ_small (n : List UInt8) : (typ n).1.length ≤ 20 := by
  by_cases h : (typ n).2 = 0
  · rw [typ_zero h]; simp
  · obtain ⟨e, he, hq⟩ := typ_mem h
    have hl : ∀ e ∈ tab, e.1.length ≤ 20 := by decide
    rw [hq]; exact hl e he
theorem pairS_small {p : List UInt8} {a : P2} (h : rdPairS p = some a) : a.1.length ≤ 20 ∧ a.2.length ≤ p.length := by
  have ht := q_of_t (t_of_s h)
  refine ⟨?_, pairT_small ht⟩
  unfold rqPairT at ht
  cases he : eqCut p with
  | none => rw [he] at ht; cases ht
  | some q =>
    rw [he] at ht
    simp only [Option.bind_some] at ht
    cases hr : rqFrom true q.2 with
    | none => rw [hr] at ht; cases ht
    | some v =>
      rw [hr] at ht
      obtain rfl := Option.some.inj ht
      exact typ_small _

/-- Where a pair is set in. -/
structure InsAt (a : P2) (l : List P2) (K : Nat) : Prop where
  le : K ≤ l.length
  eq : insP a l = l.take K ++ a :: l.drop K
  less : ∀ j b, j < K → l[j]? = some b → b.1 < a.1
  stop : ∀ b, l[K]? = some b → ¬ b.1 < a.1
theorem ins_at (a : P2) : ∀ l : List P2, ∃ K, InsAt a l K
  | [] => ⟨0, by simp, by simp [insP], fun j b h => by omega, fun b h => by simp at h⟩
  | x :: r => by
    by_cases h : x.1 < a.1
    · obtain ⟨K, h1, h2, h3, h4⟩ := ins_at a r
      refine ⟨K + 1, by simp; omega, ?_, ?_, ?_⟩
      · unfold insP at h2 ⊢
        rw [List.takeWhile_cons_of_pos (by simpa using h), List.dropWhile_cons_of_pos (by simpa using h), List.cons_append, h2]
        simp
      · intro j b hj hb
        cases j with
        | zero =>
          simp only [List.getElem?_cons_zero, Option.some.injEq] at hb
          rw [← hb]; exact h
        | succ j => exact h3 j b (by omega) (by simpa using hb)
      · intro b hb
        exact h4 b (by simpa using hb)
    · refine ⟨0, by simp, ?_, fun j b hj => by omega, ?_⟩
      · unfold insP
        rw [List.takeWhile_cons_of_neg (by simpa using h), List.dropWhile_cons_of_neg (by simpa using h)]
        simp
      · intro b hb
        simp only [List.getElem?_cons_zero, Option.some.injEq] at hb
        rw [← hb]; exact h
theorem sort_more (L : List P2) (a : P2) : sortP (L ++ [a]) = insP a (sortP L) := by simp [sortP]
theorem sort_len (L : List P2) : (sortP L).length = L.length := by
  have h1 : ∀ (a : P2) (l : List P2), (insP a l).length = l.length + 1 := by
    intro a l
    obtain ⟨K, h⟩ := ins_at a l
    have := h.le
    rw [h.eq, List.length_append, List.length_cons, List.length_take, List.length_drop]
    omega
  have key : ∀ (r o : List P2), (r.foldl (fun o a => insP a o) o).length = o.length + r.length := by
    intro r
    induction r with
    | nil => intro o; rfl
    | cons a r ih => intro o; rw [List.foldl_cons, ih, h1, List.length_cons]; omega
  have := key L []
  simpa [sortP] using this

theorem addr_add (g o k : Nat) : (⟨g, o, none⟩ : Addr).add k = ⟨g, o + k, none⟩ := by unfold Addr.add; split <;> simp_all

/-- An append whose outcome is named. -/
theorem appEv {ops : Array Oper} {rest : List Oper} {o : Oper} {a : Act} {Q : Exit → Act → World → Prop} (W : World) (hgd : o.guard = none) (s x : Operand)
    (ho : o.op = .call { callee := .builtin .append, args := #[s, x], argTypes := #[22, 22] })
    (base : Nat) (v : Value) (n : Nat) (xs : List Value) (hs : a.eval s = v) (hown : W.ownsRow base 46 2 v n xs)
    (B : Nat) (A : Option Addr) (m c : Nat) (l : List Value) (hx : a.eval x = .slice A m c) (hr : Has W B 2 A m l) (h1 : ∀ u ∈ l, u.oneCell' = true) (N : Nat) (ys : List Value) (hN : Hid (n + m = N)) (hys : Hid (xs ++ l = ys))
    (hb : n + m ≤ 10000000) (hbase : base ≤ W.heap.size)
    (h : ∀ v' w', w'.ownsRow base 46 2 v' N ys → Below base W w' → wpList Tryz.prog ops Q rest (a.put o.dst v') w') :
    wpList Tryz.prog ops Q (o :: rest) a W := by
  refine appE W 22 46 _ 2 32 Tryz.underlying22 infoB rfl (by omega) (by omega) hgd s x ho base v n xs hs hown B A m c l hx hr h1 hb hbase ?_
  intro v' w' h1 h2 _
  rw [hN.out, hys.out] at h1
  exact h v' w' h1 h2

set_option maxRecDepth 100000 in
set_option maxHeartbeats 64000000 in
theorem rparse_part (s : ByteArray) (hs : s.size ≤ 1000000) (w : World) (hT : TM w) :
    Calls Tryz.prog 16 #[.string s] w (PartPost (parseP s.data.toList) 2 w) := by
  have hSp := rsplit_any s hs 43 (by decide) w
  have hL := Lib.size_eq s
  generalize hl : s.data.toList = l at *
  obtain ⟨ps, hps⟩ : ∃ ps, cuts 43 l = ps := ⟨_, rfl⟩
  rw [hps] at hSp
  have hsm : ∀ p ∈ ps, p.length ≤ 1000000 := fun p hp => by rw [← hps] at hp; have := cuts_small hp; omega
  have hps1 : 1 ≤ ps.length := by rw [← hps]; simp [cuts]
  obtain ⟨R, hR⟩ : ∃ R, parseP l = R := ⟨_, rfl⟩
  rw [hR]
  replace hR := hide hR
  replace hps := hide hps
  clear hL hl
  by_cases h3 : 3 < ps.length
  · have hRn : Hid (R = none) := hide (by rw [← hR.out]; exact parse_long (by rw [hps.out]; exact h3))
    have z3 : ((3 : Int) < (ps.length : Int)) := by omega
    clear hR hps hsm
    go_enter Tryz.func16, Tryz.ntmps16
    go_wp2_with (go_at_call 31; fail)
    refine hSp.mono ?_
    rintro e w1 ⟨v, rfl, hown, hb1⟩
    obtain ⟨Ap, cp, rfl, _, _⟩ := own_form hown
    clear hown hSp
    generalize ps.length = np at *
    go_wp2
    go_ret2
    exact hRn.out ▸ part_none 2 w w1 hb1
  · have z3 : ¬ ((3 : Int) < (ps.length : Int)) := by omega
    have Hsm := hide hsm
    obtain ⟨np, hnp⟩ : ∃ np, ps.length = np := ⟨_, rfl⟩
    rw [hnp] at hSp z3 h3 hps1
    have Hnp := hide hnp
    have H3 := hide h3
    clear hsm hnp
    go_enter Tryz.func16, Tryz.ntmps16
    go_wp2_with (go_at_call 31; fail)
    refine hSp.mono ?_
    rintro e w1 ⟨v, rfl, hown, hb1⟩
    obtain ⟨Ap, cp, rfl, _, hHp⟩ := own_form hown
    obtain ⟨g, o, rfl, hg, hcell⟩ := hHp.texts (fun h => by have := Hnp.out; rw [h] at this; simp at this; omega)
    have HC := hide hcell
    have HW := hide hb1
    clear hown hSp hHp hcell hb1 h3
    go_wp2
    go_loopg [4, 18] np (fun k s4 s18 wx => ∃ (i : Nat) (L : List P2) (A : Option Addr) (c : Nat), i + k = np ∧ s18 = .int .i64 (i : Int) ∧ s4 = .slice A i c ∧ i ≤ c ∧ Hid ((ps.take i).mapM rdPairS = some L ∧ (∀ a ∈ L, a.1.length ≤ 1000000 ∧ a.2.length ≤ 1000000) ∧ L.length = i) ∧ Hid (Has wx wx.heap.size 2 A i (prs (sortP L))) ∧ Hid (Below w1.heap.size w1 wx))
    case atStart => exact ⟨0, [], none, 0, by omega, rfl, rfl, by omega, hide ⟨rfl, fun a h => (by cases h), rfl⟩, hide Has.nil, hide (Below.refl _ _)⟩
    case round =>
      obtain ⟨i, L, A, c, hig, rfl, rfl, hic, hM, hHas, hB1⟩ := hrel
      have hbr := HW.out.trans (hB1.out.mono HW.out.size)
      cases gk with
      | zero =>
        obtain rfl : i = np := by omega
        have hiz : ¬ ((i : Int) < (i : Int)) := by omega
        have hfull : (cuts 43 l).mapM rdPairS = some L := by
          have h1 := hM.out.1
          rw [List.take_of_length_le (by rw [Hnp.out]; exact Nat.le_refl _)] at h1
          rw [hps.out]; exact h1
        have h3 := H3.out
        have hF := rformed_part wr A i c (sortP L) hHas.out (by omega) (fun a ha => hM.out.2.1 a (mem_sort.1 ha)) (hT.tt.below hbr)
        by_cases hp : PartOk (sortP L)
        · rw [partB_true hp] at hF
          have hRs : Hid (R = some (sortP L)) := hide (by rw [← hR.out]; exact parse_ref_yes (by rw [hps.out, Hnp.out]; omega) hfull hp)
          have Hgl : Hid (i = (sortP L).length) := hide (by rw [sort_len]; exact hM.out.2.2.symm)
          generalize sortP L = G at *
          clear hp hfull hR hps hM Hnp Hsm HC HW H3 h3
          go_wp2_with (go_at_call 14; fail)
          refine hF.mono ?_
          rintro e w5 ⟨rfl, hb5⟩
          have HH := hide ((hHas.out.below hb5).upto hb5.size)
          have hbr5 := hbr.trans (hb5.mono hbr.size)
          clear hF hb5 hHas hbr hB1
          go_wp2
          go_ret2
          exact hRs.out ▸ ⟨_, _, _, rfl, Hgl.out, HH.out, hbr5⟩
        · rw [partB_false hp] at hF
          have hRs : Hid (R = none) := hide (by rw [← hR.out]; exact parse_ref_no (by rw [hps.out, Hnp.out]; omega) hfull hp)
          generalize sortP L = G at *
          clear hp hfull hR hps hM Hnp Hsm HC HW H3 h3
          go_wp2_with (go_at_call 14; fail)
          refine hF.mono ?_
          rintro e w5 ⟨rfl, hb5⟩
          have hbr5 := hbr.trans (hb5.mono hbr.size)
          clear hF hb5 hHas hbr hB1
          go_wp2
          go_ret2
          exact hRs.out ▸ part_none 2 w w5 hbr5
      | succ k =>
        have hi : i < np := by omega
        have hiz : (i : Int) < (np : Int) := by omega
        obtain ⟨p, hp⟩ : ∃ p, ps[i]? = some p := ⟨_, List.getElem?_eq_getElem (by rw [Hnp.out]; exact hi)⟩
        have c0 := (hB1.out.cell (p := ⟨g, o + i, none⟩) hg).trans (HC.out i p hp)
        have hP := fun w hT => rpair_any (txt p) (by rw [txt_size]; exact Hsm.out p (List.mem_of_getElem? hp)) w hT
        simp only [txt_toList] at hP
        have Hp := hide hp
        have hps7 := Hsm.out p (List.mem_of_getElem? hp)
        have Hps7 := hide hps7
        clear hp hps7 HC
        generalize txt p = U at *
        cases hq : rdPairS p with
        | none =>
          have h3 := H3.out
          have hRn : Hid (R = none) := hide (by rw [← hR.out]; exact parse_ref_bad (by rw [hps.out, Hnp.out]; omega) (by rw [hps.out]; exact List.mem_of_getElem? Hp.out) hq)
          rw [hq] at hP
          clear hq hR hps hM Hp Hps7 Hsm Hnp h3 H3 hHas
          go_wp2_with (go_at_call 32; fail)
          refine (hP _ (hT.below hbr)).mono ?_
          rintro e w3 hpost
          obtain ⟨X, Y, rfl, _, hb3⟩ := hpost.out
          have hbr3 := hbr.trans (hb3.mono hbr.size)
          have hbr4 := hbr3.alloc hbr3.size (.cells #[.string X, .string Y] 46)
          clear hb3 hbr hP c0 hB1 hpost
          go_wp2
          go_ret2
          exact hRn.out ▸ part_none 2 w _ hbr4
        | some a =>
          have hM2 : Hid ((ps.take (i + 1)).mapM rdPairS = some (L ++ [a]) ∧ (∀ b ∈ L ++ [a], b.1.length ≤ 1000000 ∧ b.2.length ≤ 1000000) ∧ (L ++ [a]).length = i + 1) := hide ⟨mapM_more Hp.out hM.out.1 hq, fun b hb => by
            rcases List.mem_append.1 hb with hb | hb
            · exact hM.out.2.1 b hb
            · obtain rfl := List.mem_singleton.1 hb
              have := pairS_small hq
              have := Hps7.out
              omega, by rw [List.length_append, hM.out.2.2]; rfl⟩
          have hsl : Hid ((sortP L).length = i) := hide (by rw [sort_len]; exact hM.out.2.2)
          obtain ⟨K, hK0⟩ := ins_at a (sortP L)
          have HK := hide hK0
          have hKi : K ≤ i := by have := hK0.le; have := hsl.out; omega
          have hsm2 := sort_more L a
          have Hs2 := hide hsm2
          rw [hq] at hP
          clear hq hM Hp Hps7 hK0 hsm2
          generalize sortP L = G at *
          go_wp2_with (go_at_call 32; fail)
          refine (hP _ (hT.below hbr)).mono ?_
          rintro e w3 hpost
          obtain ⟨X, Y, rfl, hXY, hb3⟩ := hpost.out
          obtain ⟨hX, hY⟩ := hXY a rfl
          have HX := hide hX
          have HY := hide hY
          have hB3 := hide (hB1.out.trans (hb3.mono hB1.out.size))
          have hHas3 := hide ((hHas.out.below hb3).upto hb3.size)
          clear hb3 hbr hP c0 hB1 hpost hXY hX hY hHas
          have hbx := Bx.new w3 X Y 46
          have hB4 := hide (hB3.out.alloc hB3.out.size (.cells #[.string X, .string Y] 46))
          have hHas4 := hide ((hHas3.out.below (below1 w3 (.cells #[.string X, .string Y] 46))).upto (below1 w3 (.cells #[.string X, .string Y] 46)).size)
          obtain ⟨w4, hw4⟩ : ∃ w4, w3.alloc (.cells #[.string X, .string Y] 46) = w4 := ⟨_, rfl⟩
          obtain ⟨b7, hb7⟩ : ∃ b7, w3.heap.size = b7 := ⟨_, rfl⟩
          rw [hw4] at hbx hB4 hHas4
          rw [hb7] at hbx
          clear hB3 hHas3
          go_wp2
          go_loopg [9] K (fun k2 s9 wx => ∃ j : Nat, j + k2 = K ∧ s9 = .int .i64 (j : Int) ∧ Hid (Below w4.heap.size w4 wx))
          case atStart => exact ⟨0, by omega, rfl, hide (Below.refl _ _)⟩
          case round =>
            obtain ⟨j, hjk, rfl, hBx⟩ := hrel
            cases gk with
            | succ k2 =>
              have hjK : j < K := by omega
              have hji : (j : Int) < (i : Int) := by omega
              obtain ⟨b, hb⟩ : ∃ b, G[j]? = some b := ⟨_, List.getElem?_eq_getElem (by rw [hsl.out]; omega)⟩
              obtain ⟨g2, o2, rfl, hg2, hrd⟩ := hHas4.out.reads (fun h => by rw [h] at hb; simp at hb)
              have e0 := (hBx.out.cell (p := ⟨g2, o2 + j * 2, none⟩) hg2).trans (hrd.fst j b hb)
              have e1 := (hbx.below hBx.out).c0
              have hbl : Op.bytesLess (txt b.1).toList X.toList = true := by rw [HX.out, txt_bytes, txt_bytes]; exact less_yes (HK.out.less j b hjK hb)
              generalize txt b.1 = T at *
              clear hHas4 hrd hb hB4
              go_wp2
              go_quiet (fail)
              go_wp2
              go_roundg k2
              case measure => omega
              case rel => exact ⟨j + 1, by omega, by go_num, hide (Below.drewN hBx.out _)⟩
            | zero =>
              obtain rfl : j = K := by omega
              by_cases hKi2 : j = i
              · subst hKi2
                have hji : ¬ ((j : Int) < (j : Int)) := by omega
                go_wp2
                go_quiet (fail)
                obtain ⟨w5, hw5⟩ : ∃ w5, wr.drewN nq = w5 := ⟨_, rfl⟩
                have hB5 : Below w4.heap.size w4 w5 := by rw [← hw5]; exact Below.drewN hBx.out _
                rw [hw5]
                clear hw5
                have hHas5 := (hHas4.out.below hB5).upto hB5.size
                have hbx5 := hbx.below hB5
                have hBB5 := hide (hB4.out.trans (hB5.mono hB4.out.size))
                have hF1 := hHas5.first hKi; rw [prs_take] at hF1
                have h1a := prs_one (G.take j)
                have HH5 := hide hHas5
                clear hHas4 hB4 hB5 hbx hHas5 hBx
                have hKz : (j : Int) ≤ (c : Int) := by omega
                have hKz2 : (j : Int) ≤ (j : Int) := by omega
                have n1 : Hid (0 + j = j) := hide (Nat.zero_add j)
                obtain ⟨ys1, hys1⟩ : ∃ ys, ([] : List Value) ++ prs (G.take j) = ys := ⟨_, rfl⟩
                replace hys1 := hide hys1
                go_wp2_with (at_builtin; go_must (refine appEv _ rfl (.tmp 47) (.tmp 50) rfl w5.heap.size _ 0 [] rfl (nil_own _ _ _ _) _ _ j _ (prs (G.take j)) rfl hF1 h1a j ys1 n1 hys1 (by omega) (Nat.le_refl _) ?_))
                intro v6 w6 hor6 hb6
                have hbx6 := hbx5.below hb6
                have d0 := hbx6.c0
                have d1 := hbx6.c1
                have HH6 := hide (HH5.out.below hb6)
                clear hbx5 hF1 h1a n1
                have hone := litP w6 X Y 46
                have hH := Has.own hone
                have hor7 := hor6.alloc (.cells #[.string X, .string Y] 46)
                have hb7' := hb6.alloc hb6.size (.cells #[.string X, .string Y] 46)
                clear hone hor6
                have hs7 := hb7'.size
                have h1c : ∀ u ∈ [Value.string X, Value.string Y], u.oneCell' = true := by simp [Value.oneCell']
                obtain ⟨ys2, hys2⟩ : ∃ ys, ys1 ++ [.string X, .string Y] = ys := ⟨_, rfl⟩
                replace hys2 := hide hys2
                have n2 : Hid (j + 1 = j + 1) := hide rfl
                go_wp2_with (at_builtin; go_must (refine appEv _ rfl (.tmp 52) (.tmp 54) rfl w5.heap.size _ j _ rfl hor7 _ _ 1 1 [.string X, .string Y] rfl hH h1c (j + 1) ys2 n2 hys2 (by omega) hs7 ?_))
                intro v8 w8 hor8 hb8
                have hb58 := hb7'.trans hb8
                have HH8 := HH5.out.below hb58
                have hdn : G.drop j = [] := List.drop_eq_nil_of_le (by rw [hsl.out]; exact Nat.le_refl _)
                have hs8 := hb58.size
                clear hor7 hb7' hb8 hH h1c n2 d0 d1 hbx6 HH6 hb6 HH8 HH5
                obtain ⟨ys3, hys3⟩ : ∃ ys, ys2 ++ [] = ys := ⟨_, rfl⟩
                replace hys3 := hide hys3
                have n3 : Hid (j + 1 + 0 = j + 1) := hide rfl
                have HDN := hide hdn
                clear hdn
                go_wp2_with (at_builtin; go_must (refine appEv _ rfl (.tmp 56) (.tmp 59) rfl w5.heap.size _ (j + 1) _ rfl hor8 w5.heap.size _ 0 _ [] rfl ⟨rfl, .inl rfl⟩ (fun u hu => (by cases hu)) (j + 1) ys3 n3 hys3 (by omega) hs8 ?_))
                all_goals
                  intro v9 w9 hor9 hb9
                  have hb59 := hb58.trans hb9
                  obtain ⟨A9, c9, rfl, hc9, hH9⟩ := own_form hor9
                  have hB9 := hide (hBB5.out.trans (hb59.mono hBB5.out.size))
                  have hH9' : Hid (Has w9 w9.heap.size 2 A9 (j + 1) (prs (sortP (L ++ [a])))) := hide (by
                    rw [Hs2.out, HK.out.eq, prs_append, HDN.out]
                    have e1 : prs [a] = [.string X, .string Y] ++ [] := by rw [HX.out, HY.out]; rfl
                    rw [e1, ← List.append_assoc]
                    have h1 := hys1.out
                    rw [List.nil_append] at h1
                    rw [h1, hys2.out, hys3.out]
                    exact hH9)
                  clear hor8 hor9 hb9 hb58 hb59 n3 hH9 hs8 hBB5
                  go_wp2
                  go_roundg k
                  case measure => omega
                  case rel => exact ⟨j + 1, L ++ [a], A9, c9, by omega, by go_num, rfl, hc9, hM2, hH9', hB9⟩
              · have hji : (j : Int) < (i : Int) := by omega
                obtain ⟨b, hb⟩ : ∃ b, G[j]? = some b := ⟨_, List.getElem?_eq_getElem (by rw [hsl.out]; omega)⟩
                obtain ⟨g2, o2, rfl, hg2, hrd⟩ := hHas4.out.reads (fun h => by rw [h] at hb; simp at hb)
                have e0 := (hBx.out.cell (p := ⟨g2, o2 + j * 2, none⟩) hg2).trans (hrd.fst j b hb)
                have e1 := (hbx.below hBx.out).c0
                have hbl : Op.bytesLess (txt b.1).toList X.toList = false := by rw [HX.out, txt_bytes, txt_bytes]; exact less_no (HK.out.stop b hb)
                generalize txt b.1 = T at *
                have HRD := hide hrd
                clear hrd hb
                go_wp2
                go_quiet (fail)
                obtain ⟨w5, hw5⟩ : ∃ w5, wr.drewN nq = w5 := ⟨_, rfl⟩
                have hB5 : Below w4.heap.size w4 w5 := by rw [← hw5]; exact Below.drewN hBx.out _
                rw [hw5]
                clear hw5
                have hHas5 := (hHas4.out.below hB5).upto hB5.size
                have hbx5 := hbx.below hB5
                have hBB5 := hide (hB4.out.trans (hB5.mono hB4.out.size))
                have hF1 := hHas5.first hKi; rw [prs_take] at hF1
                have h1a := prs_one (G.take j)
                have HH5 := hide hHas5
                clear hHas4 hB4 hB5 hbx hHas5 hBx
                have hKz : (j : Int) ≤ (c : Int) := by omega
                have hKz2 : (j : Int) ≤ (i : Int) := by omega
                have n1 : Hid (0 + j = j) := hide (Nat.zero_add j)
                obtain ⟨ys1, hys1⟩ : ∃ ys, ([] : List Value) ++ prs (G.take j) = ys := ⟨_, rfl⟩
                replace hys1 := hide hys1
                go_wp2_with (at_builtin; go_must (refine appEv _ rfl (.tmp 47) (.tmp 50) rfl w5.heap.size _ 0 [] rfl (nil_own _ _ _ _) _ _ j _ (prs (G.take j)) rfl hF1 h1a j ys1 n1 hys1 (by omega) (Nat.le_refl _) ?_))
                intro v6 w6 hor6 hb6
                have hbx6 := hbx5.below hb6
                have d0 := hbx6.c0
                have d1 := hbx6.c1
                have HH6 := hide (HH5.out.below hb6)
                clear hbx5 hF1 h1a n1
                have hone := litP w6 X Y 46
                have hH := Has.own hone
                have hor7 := hor6.alloc (.cells #[.string X, .string Y] 46)
                have hb7' := hb6.alloc hb6.size (.cells #[.string X, .string Y] 46)
                clear hone hor6
                have hs7 := hb7'.size
                have h1c : ∀ u ∈ [Value.string X, Value.string Y], u.oneCell' = true := by simp [Value.oneCell']
                obtain ⟨ys2, hys2⟩ : ∃ ys, ys1 ++ [.string X, .string Y] = ys := ⟨_, rfl⟩
                replace hys2 := hide hys2
                have n2 : Hid (j + 1 = j + 1) := hide rfl
                go_wp2_with (at_builtin; go_must (refine appEv _ rfl (.tmp 52) (.tmp 54) rfl w5.heap.size _ j _ rfl hor7 _ _ 1 1 [.string X, .string Y] rfl hH h1c (j + 1) ys2 n2 hys2 (by omega) hs7 ?_))
                intro v8 w8 hor8 hb8
                have hb58 := hb7'.trans hb8
                have HH8 := HH5.out.below hb58
                have hfr := HH8.from_ hKi hic; rw [prs_drop] at hfr
                have had := addr_add g2 o2 (j * 2)
                rw [if_neg (by omega), Option.map_some, had] at hfr
                have h1d := prs_one (G.drop j)
                have hs8 := hb58.size
                clear hor7 hb7' hb8 hH h1c n2 d0 d1 hbx6 HH6 hb6 HH8 HH5
                obtain ⟨ys3, hys3⟩ : ∃ ys, ys2 ++ prs (G.drop j) = ys := ⟨_, rfl⟩
                replace hys3 := hide hys3
                have n3 : Hid (j + 1 + (i - j) = i + 1) := hide (by omega)
                go_wp2_with (at_builtin; go_must (refine appEv _ rfl (.tmp 56) (.tmp 59) rfl w5.heap.size _ (j + 1) _ rfl hor8 _ _ (i - j) _ (prs (G.drop j)) rfl hfr h1d (i + 1) ys3 n3 hys3 (by omega) hs8 ?_))
                intro v9 w9 hor9 hb9
                have hb59 := hb58.trans hb9
                obtain ⟨A9, c9, rfl, hc9, hH9⟩ := own_form hor9
                have hB9 := hide (hBB5.out.trans (hb59.mono hBB5.out.size))
                have hH9' : Hid (Has w9 w9.heap.size 2 A9 (i + 1) (prs (sortP (L ++ [a])))) := hide (by
                  rw [Hs2.out, HK.out.eq, prs_append]
                  have e1 : prs (a :: G.drop j) = [.string X, .string Y] ++ prs (G.drop j) := by rw [HX.out, HY.out]; rfl
                  rw [e1, ← List.append_assoc]
                  have h1 := hys1.out
                  rw [List.nil_append] at h1
                  rw [h1, hys2.out, hys3.out]
                  exact hH9)
                clear hor8 hor9 hb9 hb58 hb59 hfr h1d n3 hH9 hs8 hBB5
                go_wp2
                go_roundg k
                case measure => omega
                case rel => exact ⟨i + 1, L ++ [a], A9, c9, by omega, by go_num, rfl, hc9, hM2, hH9', hB9⟩

end Go.Proofs.YtihoachcpabkeaaGreatDoor
