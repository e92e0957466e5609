/-
  The walk of RdnNormals. By an AI agent.
-/
import Derived.Test.YtihoachcpabkeaaGreatDoorPFew
namespace Go.Proofs.YtihoachcpabkeaaGreatDoor
open Go.RowKit
set_option linter.unusedVariables false

set_option maxRecDepth 100000 in
set_option maxHeartbeats 64000000 in
theorem normals_law (w : World) (A : Option Addr) (n c : Nat) (l : List P2) (h : Has w w.heap.size 2 A n (prs l)) (hT : TM w) :
    Calls Tryz.prog 6 #[.slice A n c] w fun e w' => e = .returned (.bool true) ∧ Below w.heap.size w w' := by
  have hc0 := Below.refl w.heap.size w
  have h0 := hide h
  have hnl := h.pairs_n
  clear h
  by_cases hf : FewP l
  · have hn : n ≤ 10000 := by have := hf.len; omega
    have hs1 : ∀ a ∈ l, a.2.length ≤ 1000000 := fun a ha => by have := (hf.each a ha).2; omega
    have hs2 : ∀ a ∈ l, a.1.length ≤ 1000000 ∧ a.2.length ≤ 1000000 := fun a ha => by have := hf.each a ha; omega
    have HF := hide hf
    have HN := hide hnl
    replace hs1 := hide hs1
    replace hs2 := hide hs2
    clear hf hnl
    by_cases hp : PartOk l
    · have hnx := hn
      have hny := hn
      have hv := normV_yes hp
      obtain ⟨hp2, hnn⟩ := normP_ok hp
      have hv2 : normV (normP l) = some (normP l) := by rw [normV_yes hp2, hnn]
      have hln : (normP l).length ≤ 10000 := by have := hp2.le; omega
      have hz2 : ∀ a ∈ normP l, a.2.length ≤ 1000000 := fun a ha => by have := (hp2.each a ha).small.2; omega
      clear hp hp2 hnn
      replace hv := hide hv
      replace hv2 := hide hv2
      replace hz2 := hide hz2
      go_enter Tryz.func6, Tryz.ntmps6
      go_wp2_with (go_at_call 8; fail)
      refine (awake5_any _ (hT.below hc0)).mono ?_
      rintro e w1 ⟨rfl, hb⟩
      have hc1 := hc0.trans (hb.mono hc0.size)
      have h1 := hide ((h0.out.below hb).upto hb.size)
      clear h0
      clear hb hc0
      go_wp2_with (go_at_call 9; fail)
      refine (few5_any _ _ _ _ l h1.out true ⟨fun _ => HF.out, fun _ => rfl⟩).mono ?_
      rintro e wf ⟨rfl, hw⟩
      obtain rfl := hw.symm
      clear hw
      go_wp2_with (go_at_call 11; fail)
      refine (theirs_any _ _ _ _ l h1.out hn).mono ?_
      rintro e w2 ⟨v, rfl, hown, hb⟩
      obtain ⟨At, ct, rfl, _, hH⟩ := own_form hown
      clear hown
      have hc2 := hc1.trans (hb.mono hc1.size)
      have h2 := hide ((h1.out.below hb).upto hb.size)
      clear h1
      have t2 := hide hH
      clear hb hc1
      clear hH
      go_wp2_with (go_at_call 19; fail)
      refine (pnormal_any _ _ _ _ l t2.out hn hs1.out (hT.below hc2).tt).mono ?_
      rintro e w3 hpost0
      have hpost := hpost0.part
      rw [hv.out] at hpost
      obtain ⟨Ax, nx, cx, rfl, hkx, hH, hb⟩ := hpost.out
      clear hpost hpost0
      replace hkx := hide hkx
      have hc3 := hc2.trans (hb.mono hc2.size)
      have h3 := hide ((h2.out.below hb).upto hb.size)
      clear h2
      clear t2
      have x3 := hide hH
      clear hb hc2
      clear hH
      go_wp2_with (go_at_call 20; fail)
      refine (rnormal_part _ _ _ _ l h3.out hn hs2.out (hT.below hc3).tt).mono ?_
      rintro e w4 hpost0
      have hpost := hpost0.part
      rw [hv.out] at hpost
      obtain ⟨Ay, ny, cy, rfl, hky, hH, hb⟩ := hpost.out
      clear hpost hpost0
      replace hky := hide hky
      have hc4 := hc3.trans (hb.mono hc3.size)
      clear h3
      have x4 := hide ((x3.out.below hb).upto hb.size)
      clear x3
      have y4 := hide hH
      clear hb hc3
      clear hH
      have hx10 : nx ≤ 10000 := by rw [hkx.out]; exact hln
      go_wp2_with (go_at_call 18; fail)
      refine (ours_any _ _ _ _ _ x4.out hx10).mono ?_
      rintro e w5 ⟨v, rfl, hown, hb⟩
      obtain ⟨Aq, cq, rfl, _, hH⟩ := own_form hown
      clear hown
      have hc5 := hc4.trans (hb.mono hc4.size)
      have x5 := hide ((x4.out.below hb).upto hb.size)
      clear x4
      have y5 := hide ((y4.out.below hb).upto hb.size)
      clear y4
      have q5 := hide hH
      clear hb hc4
      clear hH
      go_wp2_with (go_at_call 17; fail)
      refine (same5_any _ _ _ _ _ _ _ _ _ q5.out y5.out hx10 true same_iff).mono ?_
      rintro e w6 ⟨rfl, hb⟩
      have hc6 := hc5.trans (hb.mono hc5.size)
      have x6 := hide ((x5.out.below hb).upto hb.size)
      clear x5
      have y6 := hide ((y5.out.below hb).upto hb.size)
      clear y5
      have q6 := hide ((q5.out.below hb).upto hb.size)
      clear q5
      clear hb hc5
      go_wp2_with (go_at_call 19; fail)
      refine (pnormal_any _ _ _ _ (normP l) x6.out hx10 hz2.out (hT.below hc6).tt).mono ?_
      rintro e w7 hpost0
      have hpost := hpost0.part
      rw [hv2.out] at hpost
      obtain ⟨Az, nz, cz, rfl, hkz, hH, hb⟩ := hpost.out
      clear hpost hpost0
      replace hkz := hide hkz
      have hc7 := hc6.trans (hb.mono hc6.size)
      clear x6
      have y7 := hide ((y6.out.below hb).upto hb.size)
      clear y6
      clear q6
      have z7 := hide hH
      clear hb hc6
      clear hH
      have hz10 : nz ≤ 10000 := by rw [hkz.out]; exact hln
      go_wp2_with (go_at_call 18; fail)
      refine (ours_any _ _ _ _ _ z7.out hz10).mono ?_
      rintro e w8 ⟨v, rfl, hown, hb⟩
      obtain ⟨Ap, cp, rfl, _, hH⟩ := own_form hown
      clear hown
      have hc8 := hc7.trans (hb.mono hc7.size)
      have y8 := hide ((y7.out.below hb).upto hb.size)
      clear y7
      have z8 := hide ((z7.out.below hb).upto hb.size)
      clear z7
      have p8 := hide hH
      clear hb hc7
      clear hH
      go_wp2_with (go_at_call 17; fail)
      refine (same5_any _ _ _ _ _ _ _ _ _ p8.out y8.out hz10 true same_iff).mono ?_
      rintro e w9 ⟨rfl, hb⟩
      have hc9 := hc8.trans (hb.mono hc8.size)
      have y9 := hide ((y8.out.below hb).upto hb.size)
      clear y8
      have z9 := hide ((z8.out.below hb).upto hb.size)
      clear z8
      have p9 := hide ((p8.out.below hb).upto hb.size)
      clear p8
      clear hb hc8
      go_wp2
      go_ret
      exact ⟨rfl, hc9⟩
    · have hnx := hn
      have hny := hn
      have hv := normV_no hp
      have hv2 : normV [] = none := normV_no fun h => by have := h.pos; simp at this
      clear hp
      replace hv := hide hv
      replace hv2 := hide hv2
      go_enter Tryz.func6, Tryz.ntmps6
      go_wp2_with (go_at_call 8; fail)
      refine (awake5_any _ (hT.below hc0)).mono ?_
      rintro e w1 ⟨rfl, hb⟩
      have hc1 := hc0.trans (hb.mono hc0.size)
      have h1 := hide ((h0.out.below hb).upto hb.size)
      clear h0
      clear hb hc0
      go_wp2_with (go_at_call 9; fail)
      refine (few5_any _ _ _ _ l h1.out true ⟨fun _ => HF.out, fun _ => rfl⟩).mono ?_
      rintro e wf ⟨rfl, hw⟩
      obtain rfl := hw.symm
      clear hw
      go_wp2_with (go_at_call 11; fail)
      refine (theirs_any _ _ _ _ l h1.out hn).mono ?_
      rintro e w2 ⟨v, rfl, hown, hb⟩
      obtain ⟨At, ct, rfl, _, hH⟩ := own_form hown
      clear hown
      have hc2 := hc1.trans (hb.mono hc1.size)
      have h2 := hide ((h1.out.below hb).upto hb.size)
      clear h1
      have t2 := hide hH
      clear hb hc1
      clear hH
      go_wp2_with (go_at_call 19; fail)
      refine (pnormal_any _ _ _ _ l t2.out hn hs1.out (hT.below hc2).tt).mono ?_
      rintro e w3 hpost0
      have hpost := hpost0.part
      rw [hv.out] at hpost
      obtain ⟨Ax, nx, cx, rfl, hkx, hH, hb⟩ := hpost.out
      clear hpost hpost0
      replace hkx := hide hkx
      have hc3 := hc2.trans (hb.mono hc2.size)
      have h3 := hide ((h2.out.below hb).upto hb.size)
      clear h2
      clear t2
      have x3 := hide hH
      clear hb hc2
      clear hH
      go_wp2_with (go_at_call 20; fail)
      refine (rnormal_part _ _ _ _ l h3.out hn hs2.out (hT.below hc3).tt).mono ?_
      rintro e w4 hpost0
      have hpost := hpost0.part
      rw [hv.out] at hpost
      obtain ⟨Ay, ny, cy, rfl, hky, hH, hb⟩ := hpost.out
      clear hpost hpost0
      replace hky := hide hky
      have hc4 := hc3.trans (hb.mono hc3.size)
      clear h3
      have x4 := hide ((x3.out.below hb).upto hb.size)
      clear x3
      have y4 := hide hH
      clear hb hc3
      clear hH
      have hx10 : nx ≤ 10000 := by rw [hkx.out]; simp
      go_wp2_with (go_at_call 18; fail)
      refine (ours_any _ _ _ _ _ x4.out hx10).mono ?_
      rintro e w5 ⟨v, rfl, hown, hb⟩
      obtain ⟨Aq, cq, rfl, _, hH⟩ := own_form hown
      clear hown
      have hc5 := hc4.trans (hb.mono hc4.size)
      have x5 := hide ((x4.out.below hb).upto hb.size)
      clear x4
      have y5 := hide ((y4.out.below hb).upto hb.size)
      clear y4
      have q5 := hide hH
      clear hb hc4
      clear hH
      go_wp2_with (go_at_call 17; fail)
      refine (same5_any _ _ _ _ _ _ _ _ _ q5.out y5.out hx10 true same_iff).mono ?_
      rintro e w6 ⟨rfl, hb⟩
      have hc6 := hc5.trans (hb.mono hc5.size)
      have x6 := hide ((x5.out.below hb).upto hb.size)
      clear x5
      have y6 := hide ((y5.out.below hb).upto hb.size)
      clear y5
      have q6 := hide ((q5.out.below hb).upto hb.size)
      clear q5
      clear hb hc5
      go_wp2_with (go_at_call 19; fail)
      refine (pnormal_any _ _ _ _ [] x6.out hx10 (fun a ha => (by cases ha)) (hT.below hc6).tt).mono ?_
      rintro e w7 hpost0
      have hpost := hpost0.part
      rw [hv2.out] at hpost
      obtain ⟨Az, nz, cz, rfl, hkz, hH, hb⟩ := hpost.out
      clear hpost hpost0
      replace hkz := hide hkz
      have hc7 := hc6.trans (hb.mono hc6.size)
      clear x6
      have y7 := hide ((y6.out.below hb).upto hb.size)
      clear y6
      clear q6
      have z7 := hide hH
      clear hb hc6
      clear hH
      go_wp2
      go_ret
      exact ⟨rfl, hc7⟩
  · have HF := hide hf
    clear hf hnl
    go_enter Tryz.func6, Tryz.ntmps6
    go_wp2_with (go_at_call 8; fail)
    refine (awake5_any _ (hT.below hc0)).mono ?_
    rintro e w1 ⟨rfl, hb⟩
    have hc1 := hc0.trans (hb.mono hc0.size)
    have h1 := hide ((h0.out.below hb).upto hb.size)
    clear h0
    clear hb hc0
    go_wp2_with (go_at_call 9; fail)
    refine (few5_any _ _ _ _ l h1.out false ⟨fun e => (by cases e), fun h => absurd h HF.out⟩).mono ?_
    rintro e wf ⟨rfl, hw⟩
    obtain rfl := hw.symm
    clear hw
    go_wp2_with (go_at_call 8; fail)
    refine (awake5_any _ (hT.below hc1)).mono ?_
    rintro e w2 ⟨rfl, hb⟩
    have hc2 := hc1.trans (hb.mono hc1.size)
    have h2 := hide ((h1.out.below hb).upto hb.size)
    clear h1
    clear hb hc1
    go_wp2
    go_ret
    exact ⟨rfl, hc2⟩

end Go.Proofs.YtihoachcpabkeaaGreatDoor
