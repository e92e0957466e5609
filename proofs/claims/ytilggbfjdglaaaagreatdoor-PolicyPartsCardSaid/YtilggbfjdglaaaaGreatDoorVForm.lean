/-
  The program's Formed. By an AI agent.
-/
import Derived.Test.YtilggbfjdglaaaaGreatDoorVType
namespace Go.Proofs.YtilggbfjdglaaaaGreatDoor
open Go.RowKit
set_option linter.unusedVariables false

/-- A rule whose texts are short. -/
def Ru.small (r : Ru) : Prop := r.who.length + r.tgt.length + r.att.length ≤ 3000

/-- A rule, as an argument. -/
def ruV (r : Ru) : Value := .agg #[.string (txt r.who), .string (txt r.tgt), .string (txt r.att), .int .i64 r.rts, .bool r.alw]

set_option maxRecDepth 100000 in
set_option maxHeartbeats 32000000 in
theorem ruformed_any (r : Ru) (hr : r.small) (w : World) (hT : TM w) :
    Calls Tryz.prog 25 #[.agg #[.string (txt r.who), .string (txt r.tgt), .string (txt r.att), .int .i64 r.rts, .bool r.alw]] w fun e w' => e = .returned (.bool (Tr (FormedP r))) ∧ Below w.heap.size w w' := by
  unfold Ru.small at hr
  have hN := fun w hT => tname_any r.att w hT
  have hW := fun w hT => iswho_any r.who (by omega) w hT
  have hG := fun w hT => isnormal_any r.tgt (by omega) w hT
  have hX := Box5.new w (txt r.who) (txt r.tgt) (txt r.att) r.rts r.alw 35
  have hb1 := below1 w (.cells #[.string (txt r.who), .string (txt r.tgt), .string (txt r.att), .int .i64 r.rts, .bool r.alw] 35)
  have hT1 := hT.below hb1
  have c2 := hX.c2
  have hp := (⟨fun ⟨a, b, c, d, e⟩ => ⟨a.1, a.2, b, c, d, e⟩, fun ⟨a, a', b, c, d, e⟩ => ⟨⟨a, a'⟩, b, c, d, e⟩⟩ : FormedP r ↔ ((tnV r.att).2 = true ∧ (tnV r.att).1 = r.att ∧ 1 ≤ r.rts ∧ r.rts ≤ 63 ∧ WhoP r.who ∧ NormP r.tgt))
  by_cases h1 : (tnV r.att).2 = true
  · by_cases h2 : (tnV r.att).1 = r.att
    · have q2 : ((txt (tnV r.att).1).toList == (txt r.att).toList) = true := by rw [h2]; simp
      by_cases h3 : 1 ≤ r.rts
      · by_cases h4 : r.rts ≤ 63
        · rw [show Tr (FormedP r) = (Tr (WhoP r.who) && Tr (NormP r.tgt)) by
            by_cases h5 : WhoP r.who
            · by_cases h6 : NormP r.tgt
              · rw [Tr_yes h5, Tr_yes h6, Tr_yes (hp.2 ⟨h1, h2, h3, h4, h5, h6⟩)]; rfl
              · rw [Tr_no h6, Tr_no fun h => h6 (hp.1 h).2.2.2.2.2]; simp
            · rw [Tr_no h5, Tr_no fun h => h5 (hp.1 h).2.2.2.2.1]; rfl]
          rw [h1] at hN
          generalize Tr (WhoP r.who) = bw at *
          generalize Tr (NormP r.tgt) = bt at *
          generalize r.rts = x at *
          generalize txt r.who = SW at *
          generalize txt r.tgt = ST at *
          generalize txt r.att = SA at *
          generalize txt (tnV r.att).1 = SN at *
          generalize r.alw = al at *
          clear h1 h2 hp hr hT
          cases bw with
          | true =>
            go_enter Tryz.func25, Tryz.ntmps25
            go_wp2_with (go_at_call 24; fail)
            refine (hN _ hT1).mono ?_
            rintro e w2 ⟨rfl, hb2⟩
            have hX2 := hX.grow hb2
            have hbb := hb1.trans (hb2.mono hb1.size)
            have hT2 := hT1.below hb2
            have e0 := hX2.c0
            have e1 := hX2.c1
            have e2 := hX2.c2
            have e3 := hX2.c3
            have hlt2 := hX2.lt
            clear hN hb1 hb2 hX hX2 hT1 c2
            go_wp2_with (go_at_call 37; fail)
            refine (hW _ hT2).mono ?_
            rintro e w3 ⟨rfl, hb3⟩
            have e4 := (hb3.cell (p := ⟨w.heap.size, 1, none⟩) hlt2).trans e1
            have hbc := hbb.trans (hb3.mono hbb.size)
            have hT3 := hT2.below hb3
            clear hW hb3 hbb e0 e1 e2 e3 hT2
            go_wp2_with (go_at_call 38; fail)
            refine (hG _ hT3).mono ?_
            rintro e w4 ⟨rfl, hb4⟩
            have hbb := hbc.trans (hb4.mono hbc.size)
            clear hG hb4 hbc e4 hT3
            go_wp2
            go_ret
            exact ⟨rfl, hbb⟩
          | false =>
            clear hG
            go_enter Tryz.func25, Tryz.ntmps25
            go_wp2_with (go_at_call 24; fail)
            refine (hN _ hT1).mono ?_
            rintro e w2 ⟨rfl, hb2⟩
            have hX2 := hX.grow hb2
            have hbb := hb1.trans (hb2.mono hb1.size)
            have hT2 := hT1.below hb2
            have e0 := hX2.c0
            have e1 := hX2.c1
            have e2 := hX2.c2
            have e3 := hX2.c3
            have hlt2 := hX2.lt
            clear hN hb1 hb2 hX hX2 hT1 c2
            go_wp2_with (go_at_call 37; fail)
            refine (hW _ hT2).mono ?_
            rintro e w3 ⟨rfl, hb3⟩
            have hbc := hbb.trans (hb3.mono hbb.size)
            clear hW hb3 hbb e0 e1 e2 e3 hT2
            have hbb := hbc
            clear hbc
            go_wp2
            go_ret
            exact ⟨rfl, hbb⟩
        · rw [Tr_no fun h => h4 (hp.1 h).2.2.2.1]
          rw [h1] at hN
          generalize r.rts = x at *
          generalize txt r.who = SW at *
          generalize txt r.tgt = ST at *
          generalize txt r.att = SA at *
          generalize txt (tnV r.att).1 = SN at *
          generalize r.alw = al at *
          clear h1 h2 hp hr hT hW hG
          go_enter Tryz.func25, Tryz.ntmps25
          go_wp2_with (go_at_call 24; fail)
          refine (hN _ hT1).mono ?_
          rintro e w2 ⟨rfl, hb2⟩
          have hX2 := hX.grow hb2
          have hbb := hb1.trans (hb2.mono hb1.size)
          have hT2 := hT1.below hb2
          have e0 := hX2.c0
          have e1 := hX2.c1
          have e2 := hX2.c2
          have e3 := hX2.c3
          have hlt2 := hX2.lt
          clear hN hb1 hb2 hX hX2 hT1 c2
          go_wp2
          go_ret
          exact ⟨rfl, hbb⟩
      · rw [Tr_no fun h => h3 (hp.1 h).2.2.1]
        rw [h1] at hN
        generalize r.rts = x at *
        generalize txt r.who = SW at *
        generalize txt r.tgt = ST at *
        generalize txt r.att = SA at *
        generalize txt (tnV r.att).1 = SN at *
        generalize r.alw = al at *
        clear h1 h2 hp hr hT hW hG
        go_enter Tryz.func25, Tryz.ntmps25
        go_wp2_with (go_at_call 24; fail)
        refine (hN _ hT1).mono ?_
        rintro e w2 ⟨rfl, hb2⟩
        have hX2 := hX.grow hb2
        have hbb := hb1.trans (hb2.mono hb1.size)
        have hT2 := hT1.below hb2
        have e0 := hX2.c0
        have e1 := hX2.c1
        have e2 := hX2.c2
        have e3 := hX2.c3
        have hlt2 := hX2.lt
        clear hN hb1 hb2 hX hX2 hT1 c2
        go_wp2
        go_ret
        exact ⟨rfl, hbb⟩
    · rw [Tr_no fun h => h2 (hp.1 h).2.1]
      have q2 := str_ne h2
      rw [h1] at hN
      generalize r.rts = x at *
      generalize txt r.who = SW at *
      generalize txt r.tgt = ST at *
      generalize txt r.att = SA at *
      generalize txt (tnV r.att).1 = SN at *
      generalize r.alw = al at *
      clear h1 h2 hp hr hT hW hG
      go_enter Tryz.func25, Tryz.ntmps25
      go_wp2_with (go_at_call 24; fail)
      refine (hN _ hT1).mono ?_
      rintro e w2 ⟨rfl, hb2⟩
      have hX2 := hX.grow hb2
      have hbb := hb1.trans (hb2.mono hb1.size)
      have hT2 := hT1.below hb2
      have e0 := hX2.c0
      have e1 := hX2.c1
      have e2 := hX2.c2
      have e3 := hX2.c3
      have hlt2 := hX2.lt
      clear hN hb1 hb2 hX hX2 hT1 c2
      go_wp2
      go_ret
      exact ⟨rfl, hbb⟩
  · rw [Tr_no fun h => h1 (hp.1 h).1]
    rw [show (tnV r.att).2 = false by simpa using h1] at hN
    generalize r.rts = x at *
    generalize txt r.who = SW at *
    generalize txt r.tgt = ST at *
    generalize txt r.att = SA at *
    generalize txt (tnV r.att).1 = SN at *
    generalize r.alw = al at *
    clear h1 hp hr hT hW hG
    go_enter Tryz.func25, Tryz.ntmps25
    go_wp2_with (go_at_call 24; fail)
    refine (hN _ hT1).mono ?_
    rintro e w2 ⟨rfl, hb2⟩
    have hX2 := hX.grow hb2
    have hbb := hb1.trans (hb2.mono hb1.size)
    have hT2 := hT1.below hb2
    have e0 := hX2.c0
    have e1 := hX2.c1
    have e2 := hX2.c2
    have e3 := hX2.c3
    have hlt2 := hX2.lt
    clear hN hb1 hb2 hX hX2 hT1 c2
    go_wp2
    go_ret
    exact ⟨rfl, hbb⟩

set_option maxRecDepth 100000 in
set_option maxHeartbeats 32000000 in
theorem rusformed_any (L : List Ru) (w : World) (A : Option Addr) (n c : Nat) (hA : Has w w.heap.size 5 A n (rusC L)) (hs : ∀ r ∈ L, r.small) (hn : n ≤ 1000000) (hT : TM w) :
    Calls Tryz.prog 15 #[.slice A n c] w fun e w' => e = .returned (.bool (Tr (AllP L))) ∧ Below w.heap.size w w' := by
  have hnl := hA.rules_n
  by_cases h40 : n ≤ 40
  · have z1 : ¬ ((40 : Int) < (n : Int)) := by omega
    obtain ⟨R, hR⟩ : ∃ R, Tr (AllP L) = R := ⟨_, rfl⟩
    rw [hR]
    have HR := hide hR
    have HA := hide hA
    have HS := hide hs
    have HL := hide hnl
    clear hA hs hnl hR
    go_enter Tryz.func15, Tryz.ntmps15
    go_wp2
    go_loopg [10] n (fun k s10 wx => ∃ i : Nat, i + k = n ∧ s10 = .int .i64 (i : Int) ∧ Hid (∀ r ∈ L.take i, FormedP r) ∧ Below w.heap.size w wx)
    case atStart => exact ⟨0, by omega, rfl, hide fun r hr => (by simp at hr), Below.refl _ _⟩
    case round =>
      obtain ⟨i, hig, rfl, hpre, hbr⟩ := hrel
      cases gk with
      | zero =>
        obtain rfl : i = n := by omega
        have hiz : ¬ ((i : Int) < (i : Int)) := by omega
        have hp := hpre.out
        rw [List.take_of_length_le (by rw [HL.out]; exact Nat.le_refl _)] at hp
        have hR1 : Hid (R = true) := hide (by rw [← HR.out]; exact Tr_yes ⟨by rw [← HL.out]; exact h40, hp⟩)
        clear HR HA HS HL hp hpre hT
        go_wp2
        go_ret
        exact ⟨by rw [hR1.out]; rfl, hbr⟩
      | succ k =>
        have hi : i < n := by omega
        have hiz : (i : Int) < (n : Int) := by omega
        obtain ⟨r, hr⟩ : ∃ r, L[i]? = some r := ⟨_, List.getElem?_eq_getElem (by rw [← HL.out]; exact hi)⟩
        obtain ⟨g, o, hAe, hg, hat⟩ := HA.out.rule (fun h => by rw [h] at hr; simp at hr)
        subst hAe
        obtain ⟨c0, c1, c2, c3, c4⟩ := (hat i r hr).below hg hbr
        have hrs := HS.out r (List.mem_of_getElem? hr)
        have hF := fun w hT => ruformed_any r hrs w hT
        have hbr1 := hbr.alloc hbr.size (.cells #[.string (txt r.who), .string (txt r.tgt), .string (txt r.att), .int .i64 r.rts, .bool r.alw] 35)
        have hX := Box5.new wr (txt r.who) (txt r.tgt) (txt r.att) r.rts r.alw 35
        obtain ⟨_, d0, d1, d2, d3, d4⟩ := hX
        have htk : L.take (i + 1) = L.take i ++ [r] := by rw [List.take_add_one, hr]; rfl
        by_cases hp : FormedP r
        · rw [Tr_yes hp] at hF
          have hnext : Hid (∀ q ∈ L.take (i + 1), FormedP q) := hide (by
            rw [htk]
            intro q hq
            rcases List.mem_append.1 hq with h | h
            · exact hpre.out q h
            · obtain rfl := List.mem_singleton.1 h
              exact hp)
          generalize txt r.who = SW at *
          generalize txt r.tgt = ST at *
          generalize txt r.att = SA at *
          generalize r.rts = x at *
          generalize r.alw = al at *
          clear hat hr hrs htk hp hpre
          go_wp2_with (go_at_call 25; fail)
          refine (hF _ (hT.below hbr1)).mono ?_
          rintro e w3 ⟨rfl, hb3⟩
          have hbr3 := hbr1.trans (hb3.mono hbr1.size)
          clear hF hb3 hbr1 hbr c0 c1 c2 c3 c4 d0 d1 d2 d3 d4
          go_wp2
          go_roundg k
          case measure => omega
          case rel => exact ⟨i + 1, by omega, by go_num, hnext, hbr3⟩
        · rw [Tr_no hp] at hF
          have hR1 : Hid (R = false) := hide (by rw [← HR.out]; exact Tr_no fun h => hp (h.2 r (List.mem_of_getElem? hr)))
          generalize txt r.who = SW at *
          generalize txt r.tgt = ST at *
          generalize txt r.att = SA at *
          generalize r.rts = x at *
          generalize r.alw = al at *
          clear hat hr hrs htk hp hpre HR HA HS HL
          go_wp2_with (go_at_call 25; fail)
          refine (hF _ (hT.below hbr1)).mono ?_
          rintro e w3 ⟨rfl, hb3⟩
          have hbr3 := hbr1.trans (hb3.mono hbr1.size)
          clear hF hb3 hbr1 hbr c0 c1 c2 c3 c4 d0 d1 d2 d3 d4
          go_wp2
          go_ret
          exact ⟨by rw [hR1.out]; rfl, hbr3⟩
  · have z1 : ((40 : Int) < (n : Int)) := by omega
    rw [Tr_no fun h => h40 (by rw [hnl]; exact h.1)]
    clear hA hs hnl
    go_enter Tryz.func15, Tryz.ntmps15
    go_wp2
    go_ret
    exact ⟨rfl, Below.refl _ _⟩

end Go.Proofs.YtilggbfjdglaaaaGreatDoor
