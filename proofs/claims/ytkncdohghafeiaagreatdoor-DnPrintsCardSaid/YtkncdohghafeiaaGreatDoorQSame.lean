/-
  The statement's own look: whether a name's parts are those of a list. By an AI agent.
-/
import Derived.Test.YtkncdohghafeiaaGreatDoorQFew
namespace Go.Proofs.YtkncdohghafeiaaGreatDoor
open Go.RowKit
set_option linter.unusedVariables false

theorem Has.slot {w : World} {B n i : Nat} {A : Option Addr} {vs : List Value} {v : Value} (h : Has w B 1 A n vs) (hv : vs[i]? = some v) : ∃ g o, A = some ⟨g, o, none⟩ ∧ g < B ∧ w.cell? ⟨g, o + i, none⟩ = some v := by
  obtain ⟨g, o, rfl, hg, hc⟩ := h.lies (by have := (List.getElem?_eq_some_iff.1 hv).1; omega)
  exact ⟨g, o, rfl, hg, hc i v hv⟩

set_option maxRecDepth 100000 in
set_option maxHeartbeats 64000000 in
theorem same6_any (w : World) (A B : Option Addr) (n c m d : Nat) (vs us : List Value) (L M : List (List P2)) (hA : Has w w.heap.size 1 A n vs) (hL : Rows2 w w.heap.size vs L) (hB : Has w w.heap.size 1 B m us) (hM : Rows2 w w.heap.size us M)
    (b : Bool) (hb : b = true ↔ L = M) (hn : n ≤ 1000) (hsz : ∀ p ∈ L, p.length ≤ 1000000) :
    Calls Tryz.prog 16 #[.agg #[.slice A n c], .slice B m d] w fun e w' => e = .returned (.bool b) ∧ Below w.heap.size w w' := by
  have h1 : n = L.length := by have := hA.1; rw [hL.len] at this; omega
  have h2 : m = M.length := by have := hB.1; rw [hM.len] at this; omega
  have hba := below1 w (.cells #[.slice A n c] 26)
  by_cases hnm : n = m
  · subst hnm
    have hNx := Nx.new w (.slice A n c) 26
    have HA := hide ((hA.below hba).upto hba.size)
    have HL := hide (hL.grow hba)
    have HB := hide ((hB.below hba).upto hba.size)
    have HM := hide (hM.grow hba)
    have H1 := hide h1
    have H2 := hide h2
    have Hb := hide hb
    have HSz := hide hsz
    have HW := hide hba
    have HN := hide hNx
    clear hA hL hB hM h1 h2 hb hsz
    obtain ⟨w0, hw0⟩ : ∃ w0, w.alloc (.cells #[.slice A n c] 26) = w0 := ⟨_, rfl⟩
    obtain ⟨B0, hB0⟩ : ∃ B0, w.heap.size = B0 := ⟨_, rfl⟩
    rw [hw0] at HA HL HB HM HW HN
    have c0a := hNx.c0
    rw [hw0, hB0] at c0a
    have HB0 := hide hB0
    clear hba hNx
    go_enter Tryz.func16, Tryz.ntmps16
    go_wp2
    go_loopg [15] n (fun r s15 wx => ∃ i : Nat, i + r = n ∧ s15 = .int .i64 (i : Int) ∧ Hid (Below w0.heap.size w0 wx) ∧ Hid (L.take i = M.take i))
    case atStart => exact ⟨0, by omega, rfl, hide (Below.refl _ _), hide rfl⟩
    case round =>
      obtain ⟨i, hig, rfl, hbr, hpre⟩ := hrel
      clear c0a hw0
      have hbw := HW.out.trans (hbr.out.mono HW.out.size)
      cases gk with
      | zero =>
        obtain rfl : i = n := by omega
        have hiz : ¬ ((i : Int) < (i : Int)) := by omega
        have hbt : Hid (b = true) := hide (Hb.out.2 (by
          have := hpre.out
          rwa [List.take_of_length_le (by rw [← H1.out]; exact Nat.le_refl _), List.take_of_length_le (by rw [← H2.out]; exact Nat.le_refl _)] at this))
        clear HA HL HB HM H1 H2 Hb HSz hpre HN HW
        go_wp2
        go_ret
        exact ⟨by rw [hbt.out]; rfl, by first | exact hbw | (rw [← HB0.out]; exact hbw)⟩
      | succ r =>
        have hi : i < n := by omega
        have hiz : (i : Int) < (n : Int) := by omega
        obtain ⟨p, hp⟩ : ∃ p, L[i]? = some p := ⟨_, List.getElem?_eq_getElem (by rw [← H1.out]; exact hi)⟩
        obtain ⟨q, hq⟩ : ∃ q, M[i]? = some q := ⟨_, List.getElem?_eq_getElem (by rw [← H2.out]; exact hi)⟩
        obtain ⟨Ai, ci, hvi, hHi⟩ := HL.out.each i p hp
        obtain ⟨Bi, di, hui, hHj⟩ := HM.out.each i q hq
        obtain ⟨g, o, hAe, hg, ha0⟩ := HA.out.slot hvi
        obtain ⟨g', o', hBe, hg', hb0⟩ := HB.out.slot hui
        subst hAe hBe
        have n0 := (hbr.out.cell (p := ⟨w.heap.size, 0, none⟩) HN.out.lt).trans HN.out.c0
        rw [HB0.out] at n0
        have c0 := (hbr.out.cell (p := ⟨g, o + i, none⟩) hg).trans ha0
        have d0 := (hbr.out.cell (p := ⟨g', o' + i, none⟩) hg').trans hb0
        by_cases hpq : p.length = q.length
        · have hpl := HSz.out p (List.mem_of_getElem? hp)
          obtain ⟨k, hk⟩ : ∃ k, p.length = k := ⟨_, rfl⟩
          have hk2 : q.length = k := by rw [← hpq]; exact hk
          rw [hk] at hvi hHi c0 hpl ha0
          rw [hk2] at hui hHj d0 hb0
          have HHi := hide hHi
          have HHj := hide hHj
          have Hp := hide hp
          have Hq := hide hq
          have Hk := hide hk
          have Hk2 := hide hk2
          have HC := hide (And.intro ha0 hb0)
          have N0 := hide n0
          clear hvi hui hHi hHj hp hq hk hk2 hpq ha0 hb0 HL HM H1 H2 HA HB
          go_wp2
          go_quiet (fail)
          obtain ⟨w5, hw5⟩ : ∃ w5, wr.drewN nq = w5 := ⟨_, rfl⟩
          have hbr5 : Hid (Below w0.heap.size w0 w5) := hide (by rw [← hw5]; exact Below.drewN hbr.out _)
          have n5 : w5.cell? ⟨B0, 0, none⟩ = some (.slice (some ⟨g, o, none⟩) n c) := by rw [← hw5]; exact n0
          have c5 : w5.cell? ⟨g, o + i, none⟩ = some (.slice Ai k ci) := by rw [← hw5]; exact c0
          have d5 : w5.cell? ⟨g', o' + i, none⟩ = some (.slice Bi k di) := by rw [← hw5]; exact d0
          rw [hw5]
          clear hw5 n0 c0 d0 hbr N0
          go_wp2
          go_loopg [35] k (fun r2 s35 wx => ∃ j : Nat, j + r2 = k ∧ s35 = .int .i64 (j : Int) ∧ Hid (Below w0.heap.size w0 wx) ∧ Hid (p.take j = q.take j))
          case atStart => exact ⟨0, by omega, rfl, hbr5, hide rfl⟩
          case round =>
            obtain ⟨j, hjg, rfl, hbr6, hpre2⟩ := hrel
            clear n5 c5 d5 hbr5
            cases gk with
            | zero =>
              obtain rfl : j = k := by omega
              have hjz : ¬ ((j : Int) < (j : Int)) := by omega
              have hpre3 : Hid (L.take (i + 1) = M.take (i + 1)) := hide (by
                have := hpre2.out
                rw [List.take_of_length_le (by rw [Hk.out]; exact Nat.le_refl _), List.take_of_length_le (by rw [Hk2.out]; exact Nat.le_refl _)] at this
                rw [List.take_add_one, List.take_add_one, hpre.out, Hp.out, Hq.out, this])
              clear HHi HHj Hp Hq Hk Hk2 HC hpre hpre2
              go_wp2
              go_roundg r
              case measure => omega
              case rel => exact ⟨i + 1, by omega, by go_num, hbr6, hpre3⟩
            | succ r2 =>
              have hj : j < k := by omega
              have hjz : (j : Int) < (k : Int) := by omega
              obtain ⟨x, hx⟩ : ∃ x, p[j]? = some x := ⟨_, List.getElem?_eq_getElem (by rw [Hk.out]; exact hj)⟩
              obtain ⟨y, hy⟩ : ∃ y, q[j]? = some y := ⟨_, List.getElem?_eq_getElem (by rw [Hk2.out]; exact hj)⟩
              obtain ⟨g1, o1, hA1, hg1, hrd⟩ := HHi.out.reads (fun h => by rw [h] at hx; simp at hx)
              obtain ⟨g2, o2, hB1, hg2, hrd'⟩ := HHj.out.reads (fun h => by rw [h] at hy; simp at hy)
              subst hA1 hB1
              have n0 := (hbr6.out.cell (p := ⟨w.heap.size, 0, none⟩) HN.out.lt).trans HN.out.c0
              rw [HB0.out] at n0
              have c0 := (hbr6.out.cell (p := ⟨g, o + i, none⟩) hg).trans HC.out.1
              have d0 := (hbr6.out.cell (p := ⟨g', o' + i, none⟩) hg').trans HC.out.2
              have e0 := (hbr6.out.cell (p := ⟨g1, o1 + j * 2, none⟩) hg1).trans (hrd.fst j x hx)
              have e1 := (hbr6.out.cell (p := ⟨g1, o1 + j * 2 + 1, none⟩) hg1).trans (hrd.snd j x hx)
              have f0 := (hbr6.out.cell (p := ⟨g2, o2 + j * 2, none⟩) hg2).trans (hrd'.fst j y hy)
              have f1 := (hbr6.out.cell (p := ⟨g2, o2 + j * 2 + 1, none⟩) hg2).trans (hrd'.snd j y hy)
              have hbw6 := HW.out.trans (hbr6.out.mono HW.out.size)
              by_cases hxy : x = y
              · subst hxy
                have hpre3 : Hid (p.take (j + 1) = q.take (j + 1)) := hide (by rw [List.take_add_one, List.take_add_one, hpre2.out, hx, hy])
                generalize txt x.1 = U at *
                generalize txt x.2 = V at *
                clear hx hy hrd hrd' hpre2 hbw6
                go_wp2
                go_quiet (fail)
                go_wp2
                go_roundg r2
                case measure => omega
                case rel => exact ⟨j + 1, by omega, by go_num, hide (Below.drewN hbr6.out _), hpre3⟩
              · have hbf : Hid (b = false) := hide (by
                  cases hbb : b with
                  | false => rfl
                  | true =>
                    have := Hb.out.1 hbb
                    have hpp := Hp.out
                    rw [this, Hq.out] at hpp
                    obtain rfl := Option.some.inj hpp
                    rw [hx] at hy
                    exact absurd (Option.some.inj hy) hxy)
                by_cases hx1 : x.1 = y.1
                · have hx2 : ¬ x.2 = y.2 := fun h => hxy (Prod.ext hx1 h)
                  have s1 := str_eq hx1
                  have s2 := str_ne hx2
                  generalize txt x.1 = U at *
                  generalize txt x.2 = V at *
                  generalize txt y.1 = U' at *
                  generalize txt y.2 = V' at *
                  clear hx hy hrd hrd' hpre2 hxy hx1 hx2 HHi HHj Hp Hq Hk Hk2 HC hpre Hb HSz
                  go_wp2
                  go_quiet (fail)
                  go_wp2
                  go_ret
                  exact ⟨by rw [hbf.out]; rfl, by first | exact Below.drewN hbw6 _ | (rw [← HB0.out]; exact Below.drewN hbw6 _)⟩
                · have s1 := str_ne hx1
                  generalize txt x.1 = U at *
                  generalize txt x.2 = V at *
                  generalize txt y.1 = U' at *
                  generalize txt y.2 = V' at *
                  clear hx hy hrd hrd' hpre2 hxy hx1 HHi HHj Hp Hq Hk Hk2 HC hpre Hb HSz
                  go_wp2
                  go_quiet (fail)
                  go_wp2
                  go_ret
                  exact ⟨by rw [hbf.out]; rfl, by first | exact Below.drewN hbw6 _ | (rw [← HB0.out]; exact Below.drewN hbw6 _)⟩
        · have hbf : Hid (b = false) := hide (by
            cases hbb : b with
            | false => rfl
            | true =>
              have := Hb.out.1 hbb
              rw [this, hq] at hp
              exact absurd (congrArg List.length (Option.some.inj hp).symm) hpq)
          have hz : ((p.length : Int) == (q.length : Int)) = false := beq_false_of_ne (by omega)
          have hz2 : ((p.length : Int) != (q.length : Int)) = true := by unfold bne; rw [hz]; rfl
          generalize p.length = pl at *
          generalize q.length = ql at *
          clear hvi hui hHi hHj hp hq hpq ha0 hb0 HL HM H1 H2 HA HB Hb HSz hpre
          go_wp2
          go_quiet (fail)
          go_wp2
          go_ret
          exact ⟨by rw [hbf.out]; rfl, by first | exact Below.drewN hbw _ | (rw [← HB0.out]; exact Below.drewN hbw _)⟩
  · have hbf : Hid (b = false) := hide (by
      cases hbb : b with
      | false => rfl
      | true => exact absurd (by rw [h1, h2, hb.1 hbb]) hnm)
    have hz : ((n : Int) == (m : Int)) = false := beq_false_of_ne (by omega)
    have hz2 : ((n : Int) != (m : Int)) = true := by unfold bne; rw [hz]; rfl
    clear hA hL hB hM h1 h2 hb hsz hnm
    go_enter Tryz.func16, Tryz.ntmps16
    go_wp2
    go_ret
    exact ⟨by rw [hbf.out]; rfl, hba⟩

end Go.Proofs.YtkncdohghafeiaaGreatDoor
