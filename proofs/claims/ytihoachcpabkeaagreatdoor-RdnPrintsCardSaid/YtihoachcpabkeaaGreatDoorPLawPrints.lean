/-
  The walk of RdnPrints. By an AI agent.
-/
import Derived.Test.YtihoachcpabkeaaGreatDoorPFew
namespace Go.Proofs.YtihoachcpabkeaaGreatDoor
open Go.RowKit
set_option linter.unusedVariables false

set_option maxRecDepth 100000 in
set_option maxHeartbeats 64000000 in
theorem prints_law (w : World) (A : Option Addr) (n c : Nat) (l : List P2) (h : Has w w.heap.size 2 A n (prs l)) (hT : TM w) :
    Calls Tryz.prog 3 #[.slice A n c] w fun e w' => e = .returned (.bool true) ∧ Below w.heap.size w w' := by
  have hc0 := Below.refl w.heap.size w
  have h0 := hide h
  have hnl := h.pairs_n
  clear h
  by_cases hf : FewP l
  · have hn : n ≤ 10000 := by have := hf.len; omega
    have hs1 : ∀ a ∈ l, a.2.length ≤ 1000000 := fun a ha => by have := (hf.each a ha).2; omega
    have hs2 : ∀ a ∈ l, a.1.length ≤ 1000000 ∧ a.2.length ≤ 1000000 := fun a ha => by have := hf.each a ha; omega
    have HF := hide hf
    have HN := hide hnl
    replace hs1 := hide hs1
    replace hs2 := hide hs2
    clear hf hnl
    go_enter Tryz.func3, Tryz.ntmps3
    go_wp2_with (go_at_call 8; fail)
    refine (awake5_any _ (hT.below hc0)).mono ?_
    rintro e w1 ⟨rfl, hb⟩
    have hc1 := hc0.trans (hb.mono hc0.size)
    have h1 := hide ((h0.out.below hb).upto hb.size)
    clear h0
    clear hb hc0
    go_wp2_with (go_at_call 9; fail)
    refine (few5_any _ _ _ _ l h1.out true ⟨fun _ => HF.out, fun _ => rfl⟩).mono ?_
    rintro e wf ⟨rfl, hw⟩
    obtain rfl := hw.symm
    clear hw
    go_wp2_with (go_at_call 11; fail)
    refine (theirs_any _ _ _ _ l h1.out hn).mono ?_
    rintro e w2 ⟨v, rfl, hown, hb⟩
    obtain ⟨At, ct, rfl, _, hH⟩ := own_form hown
    clear hown
    have hc2 := hc1.trans (hb.mono hc1.size)
    have h2 := hide ((h1.out.below hb).upto hb.size)
    clear h1
    have t2 := hide hH
    clear hb hc1
    clear hH
    go_wp2_with (go_at_call 10; fail)
    refine (pprint_any _ _ _ _ l t2.out hn hs1.out (hT.below hc2).tt).mono ?_
    rintro e w3 ⟨rfl, hb⟩
    have hc3 := hc2.trans (hb.mono hc2.size)
    have h3 := hide ((h2.out.below hb).upto hb.size)
    clear h2
    clear t2
    clear hb hc2
    go_wp2_with (go_at_call 12; fail)
    refine (rprint_any _ _ _ _ l h3.out hn hs2.out (hT.below hc3).tt).mono ?_
    rintro e w4 ⟨rfl, hb⟩
    have hc4 := hc3.trans (hb.mono hc3.size)
    have h4 := hide ((h3.out.below hb).upto hb.size)
    clear h3
    clear hb hc3
    generalize txt (printV l).1 = X at *
    generalize (printV l).2 = y at *
    go_wp2_with (go_at_call 11; fail)
    refine (theirs_any _ _ _ _ l h4.out hn).mono ?_
    rintro e w5 ⟨v, rfl, hown, hb⟩
    obtain ⟨Au, cu, rfl, _, hH⟩ := own_form hown
    clear hown
    have hc5 := hc4.trans (hb.mono hc4.size)
    have h5 := hide ((h4.out.below hb).upto hb.size)
    clear h4
    have u5 := hide hH
    clear hb hc4
    clear hH
    go_wp2_with (go_at_call 13; fail)
    refine (pformed_any _ _ _ _ l u5.out hn hs1.out (hT.below hc5).tt).mono ?_
    rintro e w6 ⟨rfl, hb⟩
    have hc6 := hc5.trans (hb.mono hc5.size)
    have h6 := hide ((h5.out.below hb).upto hb.size)
    clear h5
    clear u5
    clear hb hc5
    go_wp2_with (go_at_call 14; fail)
    refine (rformed_part _ _ _ _ l h6.out hn hs2.out (hT.below hc6).tt).mono ?_
    rintro e w7 ⟨rfl, hb⟩
    have hc7 := hc6.trans (hb.mono hc6.size)
    clear h6
    clear hb hc6
    generalize partB l = b at *
    cases b <;>
      (go_wp2
       go_ret
       exact ⟨rfl, hc7⟩)
  · have HF := hide hf
    clear hf hnl
    go_enter Tryz.func3, Tryz.ntmps3
    go_wp2_with (go_at_call 8; fail)
    refine (awake5_any _ (hT.below hc0)).mono ?_
    rintro e w1 ⟨rfl, hb⟩
    have hc1 := hc0.trans (hb.mono hc0.size)
    have h1 := hide ((h0.out.below hb).upto hb.size)
    clear h0
    clear hb hc0
    go_wp2_with (go_at_call 9; fail)
    refine (few5_any _ _ _ _ l h1.out false ⟨fun e => (by cases e), fun h => absurd h HF.out⟩).mono ?_
    rintro e wf ⟨rfl, hw⟩
    obtain rfl := hw.symm
    clear hw
    go_wp2_with (go_at_call 8; fail)
    refine (awake5_any _ (hT.below hc1)).mono ?_
    rintro e w2 ⟨rfl, hb⟩
    have hc2 := hc1.trans (hb.mono hc1.size)
    have h2 := hide ((h1.out.below hb).upto hb.size)
    clear h1
    clear hb hc1
    go_wp2
    go_ret
    exact ⟨rfl, hc2⟩

end Go.Proofs.YtihoachcpabkeaaGreatDoor
