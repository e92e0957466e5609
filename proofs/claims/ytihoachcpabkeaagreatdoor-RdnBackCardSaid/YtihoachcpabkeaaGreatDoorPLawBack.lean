/-
  The walk of RdnBack. By an AI agent.
-/
import Derived.Test.YtihoachcpabkeaaGreatDoorPFew
namespace Go.Proofs.YtihoachcpabkeaaGreatDoor
open Go.RowKit
set_option linter.unusedVariables false

set_option maxRecDepth 100000 in
set_option maxHeartbeats 64000000 in
theorem back_law (w : World) (A : Option Addr) (n c : Nat) (l : List P2) (h : Has w w.heap.size 2 A n (prs l)) (s : ByteArray) (hT : TM w) :
    Calls Tryz.prog 5 #[.slice A n c, .string s] w fun e w' => e = .returned (.bool true) ∧ Below w.heap.size w w' := by
  have hc0 := Below.refl w.heap.size w
  have h0 := hide h
  have hnl := h.pairs_n
  clear h
  by_cases hf : FewP l
  · have hn : n ≤ 10000 := by have := hf.len; omega
    have hs1 : ∀ a ∈ l, a.2.length ≤ 1000000 := fun a ha => by have := (hf.each a ha).2; omega
    have hs2 : ∀ a ∈ l, a.1.length ≤ 1000000 ∧ a.2.length ≤ 1000000 := fun a ha => by have := hf.each a ha; omega
    have HF := hide hf
    have HN := hide hnl
    replace hs1 := hide hs1
    replace hs2 := hide hs2
    clear hf hnl
    by_cases hs : s.size ≤ 3000
    · have z1 : ¬ ((3000 : Int) < (s.size : Int)) := by omega
      have hs6 : s.size ≤ 1000000 := by omega
      clear hs
      by_cases hp : PartOk l
      · have hlz : (txt (prP l)).size ≤ 1000000 := by
          rw [txt_size]
          have h1 := prP_len l hp.each
          have h2 := hp.le
          omega
        cases hq : parseP s.data.toList with
        | none =>
          go_enter Tryz.func5, Tryz.ntmps5
          go_wp2_with (go_at_call 8; fail)
          refine (awake5_any _ (hT.below hc0)).mono ?_
          rintro e w1 ⟨rfl, hb⟩
          have hc1 := hc0.trans (hb.mono hc0.size)
          have h1 := hide ((h0.out.below hb).upto hb.size)
          clear h0
          clear hb hc0
          go_wp2_with (go_at_call 9; fail)
          refine (few5_any _ _ _ _ l h1.out true ⟨fun _ => HF.out, fun _ => rfl⟩).mono ?_
          rintro e wf ⟨rfl, hw⟩
          obtain rfl := hw.symm
          clear hw
          go_wp2_with (go_at_call 11; fail)
          refine (theirs_any _ _ _ _ l h1.out hn).mono ?_
          rintro e w2 ⟨v, rfl, hown, hb⟩
          obtain ⟨At, ct, rfl, _, hH⟩ := own_form hown
          clear hown
          have hc2 := hc1.trans (hb.mono hc1.size)
          have h2 := hide ((h1.out.below hb).upto hb.size)
          clear h1
          have t2 := hide hH
          clear hb hc1
          clear hH
          go_wp2_with (go_at_call 10; fail)
          refine (pprint_any _ _ _ _ l t2.out hn hs1.out (hT.below hc2).tt).mono ?_
          rintro e w3 ⟨rfl, hb⟩
          have hc3 := hc2.trans (hb.mono hc2.size)
          have h3 := hide ((h2.out.below hb).upto hb.size)
          clear h2
          clear t2
          clear hb hc2
          rw [prV_yes hp]
          simp only
          go_wp2_with (go_at_call 15; fail)
          refine (pparse_any (txt (prP l)) hlz _ (hT.below hc3)).mono ?_
          rintro e w4 hpost
          rw [txt_toList, parse_pr hp] at hpost
          obtain ⟨Am, nm, cm, rfl, hkm, hH, hb⟩ := hpost.out
          clear hpost
          replace hkm := hide hkm
          have hc4 := hc3.trans (hb.mono hc3.size)
          have h4 := hide ((h3.out.below hb).upto hb.size)
          clear h3
          have m4 := hide hH
          clear hb hc3
          clear hH
          have hm10 : nm ≤ 10000 := by rw [hkm.out]; have := hp.le; simp only [Option.getD_some]; omega
          go_wp2_with (go_at_call 18; fail)
          refine (ours_any _ _ _ _ _ m4.out hm10).mono ?_
          rintro e w5 ⟨v, rfl, hown, hb⟩
          obtain ⟨Ar, cr, rfl, _, hH⟩ := own_form hown
          clear hown
          have hc5 := hc4.trans (hb.mono hc4.size)
          have h5 := hide ((h4.out.below hb).upto hb.size)
          clear h4
          have m5 := hide ((m4.out.below hb).upto hb.size)
          clear m4
          have r5 := hide hH
          clear hb hc4
          clear hH
          clear m5
          go_wp2_with (go_at_call 17; fail)
          refine (same5_any _ _ _ _ _ _ _ _ _ r5.out h5.out hm10 true same_iff).mono ?_
          rintro e w6 ⟨rfl, hb⟩
          have hc6 := hc5.trans (hb.mono hc5.size)
          have h6 := hide ((h5.out.below hb).upto hb.size)
          clear h5
          have r6 := hide ((r5.out.below hb).upto hb.size)
          clear r5
          clear hb hc5
          clear r6
          clear h6
          go_wp2_with (go_at_call 15; fail)
          refine (pparse_any s hs6 _ (hT.below hc6)).mono ?_
          rintro e w7 hpost
          rw [hq] at hpost
          obtain ⟨Ax, nx, cx, rfl, hkx, hH, hb⟩ := hpost.out
          clear hpost
          obtain rfl : nx = 0 := hkx
          clear hH
          have hc7 := hc6.trans (hb.mono hc6.size)
          clear hb hc6
          go_wp2
          go_ret
          exact ⟨rfl, hc7⟩
        | some k =>
          have hqo := parse_ok hq
          have hkz : (txt (prP k)).size ≤ 1000000 := by
            rw [txt_size]
            have h1 := prP_len k hqo.each
            have h2 := hqo.le
            omega
          go_enter Tryz.func5, Tryz.ntmps5
          go_wp2_with (go_at_call 8; fail)
          refine (awake5_any _ (hT.below hc0)).mono ?_
          rintro e w1 ⟨rfl, hb⟩
          have hc1 := hc0.trans (hb.mono hc0.size)
          have h1 := hide ((h0.out.below hb).upto hb.size)
          clear h0
          clear hb hc0
          go_wp2_with (go_at_call 9; fail)
          refine (few5_any _ _ _ _ l h1.out true ⟨fun _ => HF.out, fun _ => rfl⟩).mono ?_
          rintro e wf ⟨rfl, hw⟩
          obtain rfl := hw.symm
          clear hw
          go_wp2_with (go_at_call 11; fail)
          refine (theirs_any _ _ _ _ l h1.out hn).mono ?_
          rintro e w2 ⟨v, rfl, hown, hb⟩
          obtain ⟨At, ct, rfl, _, hH⟩ := own_form hown
          clear hown
          have hc2 := hc1.trans (hb.mono hc1.size)
          have h2 := hide ((h1.out.below hb).upto hb.size)
          clear h1
          have t2 := hide hH
          clear hb hc1
          clear hH
          go_wp2_with (go_at_call 10; fail)
          refine (pprint_any _ _ _ _ l t2.out hn hs1.out (hT.below hc2).tt).mono ?_
          rintro e w3 ⟨rfl, hb⟩
          have hc3 := hc2.trans (hb.mono hc2.size)
          have h3 := hide ((h2.out.below hb).upto hb.size)
          clear h2
          clear t2
          clear hb hc2
          rw [prV_yes hp]
          simp only
          go_wp2_with (go_at_call 15; fail)
          refine (pparse_any (txt (prP l)) hlz _ (hT.below hc3)).mono ?_
          rintro e w4 hpost
          rw [txt_toList, parse_pr hp] at hpost
          obtain ⟨Am, nm, cm, rfl, hkm, hH, hb⟩ := hpost.out
          clear hpost
          replace hkm := hide hkm
          have hc4 := hc3.trans (hb.mono hc3.size)
          have h4 := hide ((h3.out.below hb).upto hb.size)
          clear h3
          have m4 := hide hH
          clear hb hc3
          clear hH
          have hm10 : nm ≤ 10000 := by rw [hkm.out]; have := hp.le; simp only [Option.getD_some]; omega
          go_wp2_with (go_at_call 18; fail)
          refine (ours_any _ _ _ _ _ m4.out hm10).mono ?_
          rintro e w5 ⟨v, rfl, hown, hb⟩
          obtain ⟨Ar, cr, rfl, _, hH⟩ := own_form hown
          clear hown
          have hc5 := hc4.trans (hb.mono hc4.size)
          have h5 := hide ((h4.out.below hb).upto hb.size)
          clear h4
          have m5 := hide ((m4.out.below hb).upto hb.size)
          clear m4
          have r5 := hide hH
          clear hb hc4
          clear hH
          clear m5
          go_wp2_with (go_at_call 17; fail)
          refine (same5_any _ _ _ _ _ _ _ _ _ r5.out h5.out hm10 true same_iff).mono ?_
          rintro e w6 ⟨rfl, hb⟩
          have hc6 := hc5.trans (hb.mono hc5.size)
          have h6 := hide ((h5.out.below hb).upto hb.size)
          clear h5
          have r6 := hide ((r5.out.below hb).upto hb.size)
          clear r5
          clear hb hc5
          clear r6
          clear h6
          go_wp2_with (go_at_call 15; fail)
          refine (pparse_any s hs6 _ (hT.below hc6)).mono ?_
          rintro e w7 hpost
          rw [hq] at hpost
          obtain ⟨Ax, nx, cx, rfl, hkx, hH, hb⟩ := hpost.out
          clear hpost
          replace hkx := hide hkx
          have hc7 := hc6.trans (hb.mono hc6.size)
          have x7 := hide hH
          clear hb hc6
          clear hH
          have hx10 : nx ≤ 10000 := by rw [hkx.out]; have := hqo.le; simp only [Option.getD_some]; omega
          go_wp2_with (go_at_call 10; fail)
          refine (pprint_any _ _ _ _ k x7.out hx10 (fun a ha => by have := (hqo.each a ha).small.2; omega) (hT.below hc7).tt).mono ?_
          rintro e w8 ⟨rfl, hb⟩
          have hc8 := hc7.trans (hb.mono hc7.size)
          have x8 := hide ((x7.out.below hb).upto hb.size)
          clear x7
          clear hb hc7
          rw [prV_yes hqo]
          simp only
          go_wp2_with (go_at_call 15; fail)
          refine (pparse_any (txt (prP k)) hkz _ (hT.below hc8)).mono ?_
          rintro e w9 hpost
          rw [txt_toList, parse_pr hqo] at hpost
          obtain ⟨Ay, ny, cy, rfl, hky, hH, hb⟩ := hpost.out
          clear hpost
          replace hky := hide hky
          have hc9 := hc8.trans (hb.mono hc8.size)
          have x9 := hide ((x8.out.below hb).upto hb.size)
          clear x8
          have y9 := hide hH
          clear hb hc8
          clear hH
          have hy10 : ny ≤ 10000 := by rw [hky.out]; have := hqo.le; simp only [Option.getD_some]; omega
          go_wp2_with (go_at_call 18; fail)
          refine (ours_any _ _ _ _ _ x9.out hx10).mono ?_
          rintro e w10 ⟨v, rfl, hown, hb⟩
          obtain ⟨Ap, cp, rfl, _, hH⟩ := own_form hown
          clear hown
          have hc10 := hc9.trans (hb.mono hc9.size)
          have x10 := hide ((x9.out.below hb).upto hb.size)
          clear x9
          have y10 := hide ((y9.out.below hb).upto hb.size)
          clear y9
          have p10 := hide hH
          clear hb hc9
          clear hH
          go_wp2_with (go_at_call 18; fail)
          refine (ours_any _ _ _ _ _ y10.out hy10).mono ?_
          rintro e w11 ⟨v, rfl, hown, hb⟩
          obtain ⟨Aq, cq, rfl, _, hH⟩ := own_form hown
          clear hown
          have hc11 := hc10.trans (hb.mono hc10.size)
          have x11 := hide ((x10.out.below hb).upto hb.size)
          clear x10
          have y11 := hide ((y10.out.below hb).upto hb.size)
          clear y10
          have p11 := hide ((p10.out.below hb).upto hb.size)
          clear p10
          have q11 := hide hH
          clear hb hc10
          clear hH
          go_wp2_with (go_at_call 17; fail)
          refine (same5_any _ _ _ _ _ _ _ _ _ p11.out q11.out hx10 true same_iff).mono ?_
          rintro e w12 ⟨rfl, hb⟩
          have hc12 := hc11.trans (hb.mono hc11.size)
          have x12 := hide ((x11.out.below hb).upto hb.size)
          clear x11
          have y12 := hide ((y11.out.below hb).upto hb.size)
          clear y11
          have p12 := hide ((p11.out.below hb).upto hb.size)
          clear p11
          have q12 := hide ((q11.out.below hb).upto hb.size)
          clear q11
          clear hb hc11
          go_wp2
          go_ret
          exact ⟨rfl, hc12⟩
      · cases hq : parseP s.data.toList with
        | none =>
          go_enter Tryz.func5, Tryz.ntmps5
          go_wp2_with (go_at_call 8; fail)
          refine (awake5_any _ (hT.below hc0)).mono ?_
          rintro e w1 ⟨rfl, hb⟩
          have hc1 := hc0.trans (hb.mono hc0.size)
          have h1 := hide ((h0.out.below hb).upto hb.size)
          clear h0
          clear hb hc0
          go_wp2_with (go_at_call 9; fail)
          refine (few5_any _ _ _ _ l h1.out true ⟨fun _ => HF.out, fun _ => rfl⟩).mono ?_
          rintro e wf ⟨rfl, hw⟩
          obtain rfl := hw.symm
          clear hw
          go_wp2_with (go_at_call 11; fail)
          refine (theirs_any _ _ _ _ l h1.out hn).mono ?_
          rintro e w2 ⟨v, rfl, hown, hb⟩
          obtain ⟨At, ct, rfl, _, hH⟩ := own_form hown
          clear hown
          have hc2 := hc1.trans (hb.mono hc1.size)
          have h2 := hide ((h1.out.below hb).upto hb.size)
          clear h1
          have t2 := hide hH
          clear hb hc1
          clear hH
          go_wp2_with (go_at_call 10; fail)
          refine (pprint_any _ _ _ _ l t2.out hn hs1.out (hT.below hc2).tt).mono ?_
          rintro e w3 ⟨rfl, hb⟩
          have hc3 := hc2.trans (hb.mono hc2.size)
          have h3 := hide ((h2.out.below hb).upto hb.size)
          clear h2
          clear t2
          clear hb hc2
          rw [prV_no hp]
          simp only
          clear h3
          go_wp2_with (go_at_call 15; fail)
          refine (pparse_any s hs6 _ (hT.below hc3)).mono ?_
          rintro e w4 hpost
          rw [hq] at hpost
          obtain ⟨Ax, nx, cx, rfl, hkx, hH, hb⟩ := hpost.out
          clear hpost
          obtain rfl : nx = 0 := hkx
          clear hH
          have hc4 := hc3.trans (hb.mono hc3.size)
          clear hb hc3
          go_wp2
          go_ret
          exact ⟨rfl, hc4⟩
        | some k =>
          have hqo := parse_ok hq
          have hkz : (txt (prP k)).size ≤ 1000000 := by
            rw [txt_size]
            have h1 := prP_len k hqo.each
            have h2 := hqo.le
            omega
          go_enter Tryz.func5, Tryz.ntmps5
          go_wp2_with (go_at_call 8; fail)
          refine (awake5_any _ (hT.below hc0)).mono ?_
          rintro e w1 ⟨rfl, hb⟩
          have hc1 := hc0.trans (hb.mono hc0.size)
          have h1 := hide ((h0.out.below hb).upto hb.size)
          clear h0
          clear hb hc0
          go_wp2_with (go_at_call 9; fail)
          refine (few5_any _ _ _ _ l h1.out true ⟨fun _ => HF.out, fun _ => rfl⟩).mono ?_
          rintro e wf ⟨rfl, hw⟩
          obtain rfl := hw.symm
          clear hw
          go_wp2_with (go_at_call 11; fail)
          refine (theirs_any _ _ _ _ l h1.out hn).mono ?_
          rintro e w2 ⟨v, rfl, hown, hb⟩
          obtain ⟨At, ct, rfl, _, hH⟩ := own_form hown
          clear hown
          have hc2 := hc1.trans (hb.mono hc1.size)
          have h2 := hide ((h1.out.below hb).upto hb.size)
          clear h1
          have t2 := hide hH
          clear hb hc1
          clear hH
          go_wp2_with (go_at_call 10; fail)
          refine (pprint_any _ _ _ _ l t2.out hn hs1.out (hT.below hc2).tt).mono ?_
          rintro e w3 ⟨rfl, hb⟩
          have hc3 := hc2.trans (hb.mono hc2.size)
          have h3 := hide ((h2.out.below hb).upto hb.size)
          clear h2
          clear t2
          clear hb hc2
          rw [prV_no hp]
          simp only
          clear h3
          go_wp2_with (go_at_call 15; fail)
          refine (pparse_any s hs6 _ (hT.below hc3)).mono ?_
          rintro e w4 hpost
          rw [hq] at hpost
          obtain ⟨Ax, nx, cx, rfl, hkx, hH, hb⟩ := hpost.out
          clear hpost
          replace hkx := hide hkx
          have hc4 := hc3.trans (hb.mono hc3.size)
          have x4 := hide hH
          clear hb hc3
          clear hH
          have hx10 : nx ≤ 10000 := by rw [hkx.out]; have := hqo.le; simp only [Option.getD_some]; omega
          go_wp2_with (go_at_call 10; fail)
          refine (pprint_any _ _ _ _ k x4.out hx10 (fun a ha => by have := (hqo.each a ha).small.2; omega) (hT.below hc4).tt).mono ?_
          rintro e w5 ⟨rfl, hb⟩
          have hc5 := hc4.trans (hb.mono hc4.size)
          have x5 := hide ((x4.out.below hb).upto hb.size)
          clear x4
          clear hb hc4
          rw [prV_yes hqo]
          simp only
          go_wp2_with (go_at_call 15; fail)
          refine (pparse_any (txt (prP k)) hkz _ (hT.below hc5)).mono ?_
          rintro e w6 hpost
          rw [txt_toList, parse_pr hqo] at hpost
          obtain ⟨Ay, ny, cy, rfl, hky, hH, hb⟩ := hpost.out
          clear hpost
          replace hky := hide hky
          have hc6 := hc5.trans (hb.mono hc5.size)
          have x6 := hide ((x5.out.below hb).upto hb.size)
          clear x5
          have y6 := hide hH
          clear hb hc5
          clear hH
          have hy10 : ny ≤ 10000 := by rw [hky.out]; have := hqo.le; simp only [Option.getD_some]; omega
          go_wp2_with (go_at_call 18; fail)
          refine (ours_any _ _ _ _ _ x6.out hx10).mono ?_
          rintro e w7 ⟨v, rfl, hown, hb⟩
          obtain ⟨Ap, cp, rfl, _, hH⟩ := own_form hown
          clear hown
          have hc7 := hc6.trans (hb.mono hc6.size)
          have x7 := hide ((x6.out.below hb).upto hb.size)
          clear x6
          have y7 := hide ((y6.out.below hb).upto hb.size)
          clear y6
          have p7 := hide hH
          clear hb hc6
          clear hH
          go_wp2_with (go_at_call 18; fail)
          refine (ours_any _ _ _ _ _ y7.out hy10).mono ?_
          rintro e w8 ⟨v, rfl, hown, hb⟩
          obtain ⟨Aq, cq, rfl, _, hH⟩ := own_form hown
          clear hown
          have hc8 := hc7.trans (hb.mono hc7.size)
          have x8 := hide ((x7.out.below hb).upto hb.size)
          clear x7
          have y8 := hide ((y7.out.below hb).upto hb.size)
          clear y7
          have p8 := hide ((p7.out.below hb).upto hb.size)
          clear p7
          have q8 := hide hH
          clear hb hc7
          clear hH
          go_wp2_with (go_at_call 17; fail)
          refine (same5_any _ _ _ _ _ _ _ _ _ p8.out q8.out hx10 true same_iff).mono ?_
          rintro e w9 ⟨rfl, hb⟩
          have hc9 := hc8.trans (hb.mono hc8.size)
          have x9 := hide ((x8.out.below hb).upto hb.size)
          clear x8
          have y9 := hide ((y8.out.below hb).upto hb.size)
          clear y8
          have p9 := hide ((p8.out.below hb).upto hb.size)
          clear p8
          have q9 := hide ((q8.out.below hb).upto hb.size)
          clear q8
          clear hb hc8
          go_wp2
          go_ret
          exact ⟨rfl, hc9⟩
    · have z1 : ((3000 : Int) < (s.size : Int)) := by omega
      go_enter Tryz.func5, Tryz.ntmps5
      go_wp2_with (go_at_call 8; fail)
      refine (awake5_any _ (hT.below hc0)).mono ?_
      rintro e w1 ⟨rfl, hb⟩
      have hc1 := hc0.trans (hb.mono hc0.size)
      have h1 := hide ((h0.out.below hb).upto hb.size)
      clear h0
      clear hb hc0
      go_wp2_with (go_at_call 9; fail)
      refine (few5_any _ _ _ _ l h1.out true ⟨fun _ => HF.out, fun _ => rfl⟩).mono ?_
      rintro e wf ⟨rfl, hw⟩
      obtain rfl := hw.symm
      clear hw
      go_wp2_with (go_at_call 8; fail)
      refine (awake5_any _ (hT.below hc1)).mono ?_
      rintro e w2 ⟨rfl, hb⟩
      have hc2 := hc1.trans (hb.mono hc1.size)
      have h2 := hide ((h1.out.below hb).upto hb.size)
      clear h1
      clear hb hc1
      go_wp2
      go_ret
      exact ⟨rfl, hc2⟩
  · have HF := hide hf
    clear hf hnl
    go_enter Tryz.func5, Tryz.ntmps5
    go_wp2_with (go_at_call 8; fail)
    refine (awake5_any _ (hT.below hc0)).mono ?_
    rintro e w1 ⟨rfl, hb⟩
    have hc1 := hc0.trans (hb.mono hc0.size)
    have h1 := hide ((h0.out.below hb).upto hb.size)
    clear h0
    clear hb hc0
    go_wp2_with (go_at_call 9; fail)
    refine (few5_any _ _ _ _ l h1.out false ⟨fun e => (by cases e), fun h => absurd h HF.out⟩).mono ?_
    rintro e wf ⟨rfl, hw⟩
    obtain rfl := hw.symm
    clear hw
    go_wp2_with (go_at_call 8; fail)
    refine (awake5_any _ (hT.below hc1)).mono ?_
    rintro e w2 ⟨rfl, hb⟩
    have hc2 := hc1.trans (hb.mono hc1.size)
    have h2 := hide ((h1.out.below hb).upto hb.size)
    clear h1
    clear hb hc1
    go_wp2
    go_ret
    exact ⟨rfl, hc2⟩

end Go.Proofs.YtihoachcpabkeaaGreatDoor
