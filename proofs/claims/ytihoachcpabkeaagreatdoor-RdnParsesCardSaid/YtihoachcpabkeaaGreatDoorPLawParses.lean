/-
  The walk of RdnParses. By an AI agent.
-/
import Derived.Test.YtihoachcpabkeaaGreatDoorPFew
namespace Go.Proofs.YtihoachcpabkeaaGreatDoor
open Go.RowKit
set_option linter.unusedVariables false

set_option maxRecDepth 100000 in
set_option maxHeartbeats 64000000 in
theorem parses_law (w : World) (s : ByteArray) (hT : TM w) :
    Calls Tryz.prog 4 #[.string s] w fun e w' => e = .returned (.bool true) ∧ Below w.heap.size w w' := by
  have hc0 := Below.refl w.heap.size w
  by_cases hs : s.size ≤ 3000
  · have z1 : ¬ ((3000 : Int) < (s.size : Int)) := by omega
    have hPa := fun w hT => pparse_any s (by omega) w hT
    have hRa := fun w hT => rparse_part s (by omega) w hT
    have ho10 : ((parseP s.data.toList).getD []).length ≤ 10000 := by
      cases hp : parseP s.data.toList with
      | none => simp
      | some k => have := (parse_ok hp).le; simp only [Option.getD_some]; omega
    generalize parseP s.data.toList = o at *
    generalize hoL : o.getD [] = L at *
    replace hoL := hide hoL
    have hPb : ∀ w, TM w → Calls Tryz.prog 15 #[.string s] w fun e w' => ∃ A c, e = .returned (.tuple #[.slice A L.length c, .int .i64 (if o.isSome then 0 else 2)]) ∧ Has w' w'.heap.size 2 A L.length (prs L) ∧ Below w.heap.size w w' := fun w hT => (hPa w hT).mono fun e w' hp => by
      obtain ⟨A, n, c, rfl, hn, hH, hb⟩ := hp.out
      rw [hoL.out] at hn hH
      subst hn
      exact ⟨A, c, rfl, hH, hb⟩
    have hRb : ∀ w, TM w → Calls Tryz.prog 16 #[.string s] w fun e w' => ∃ A c, e = .returned (.tuple #[.slice A L.length c, .int .i64 (if o.isSome then 0 else 2)]) ∧ Has w' w'.heap.size 2 A L.length (prs L) ∧ Below w.heap.size w w' := fun w hT => (hRa w hT).mono fun e w' hp => by
      obtain ⟨A, n, c, rfl, hn, hH, hb⟩ := hp.out
      rw [hoL.out] at hn hH
      subst hn
      exact ⟨A, c, rfl, hH, hb⟩
    generalize (if o.isSome then (0 : Int) else 2) = y at *
    obtain ⟨N, hN⟩ : ∃ N, L.length = N := ⟨_, rfl⟩
    rw [hN] at ho10 hPb hRb
    clear hPa hRa hs hoL hN
    go_enter Tryz.func4, Tryz.ntmps4
    go_wp2_with (go_at_call 8; fail)
    refine (awake5_any _ (hT.below hc0)).mono ?_
    rintro e w1 ⟨rfl, hb⟩
    have hc1 := hc0.trans (hb.mono hc0.size)
    clear hb hc0
    go_wp2_with (go_at_call 15; fail)
    refine (hPb _ (hT.below hc1)).mono ?_
    rintro e w2 ⟨Aa, ca, rfl, hH, hb⟩
    have hc2 := hc1.trans (hb.mono hc1.size)
    have a2 := hide hH
    clear hb hc1
    clear hH
    go_wp2_with (go_at_call 16; fail)
    refine (hRb _ (hT.below hc2)).mono ?_
    rintro e w3 ⟨Ab, cb, rfl, hH, hb⟩
    have hc3 := hc2.trans (hb.mono hc2.size)
    have a3 := hide ((a2.out.below hb).upto hb.size)
    clear a2
    have b3 := hide hH
    clear hb hc2
    clear hH
    go_wp2_with (go_at_call 18; fail)
    refine (ours_any _ _ _ _ L a3.out ho10).mono ?_
    rintro e w4 ⟨v, rfl, hown, hb⟩
    obtain ⟨Aq, cq, rfl, _, hH⟩ := own_form hown
    clear hown
    have hc4 := hc3.trans (hb.mono hc3.size)
    have a4 := hide ((a3.out.below hb).upto hb.size)
    clear a3
    have b4 := hide ((b3.out.below hb).upto hb.size)
    clear b3
    have q4 := hide hH
    clear hb hc3
    clear hH
    clear a4
    go_wp2_with (go_at_call 17; fail)
    refine (same5_any _ _ _ _ _ _ _ _ _ q4.out b4.out ho10 true same_iff).mono ?_
    rintro e w5 ⟨rfl, hb⟩
    have hc5 := hc4.trans (hb.mono hc4.size)
    have b5 := hide ((b4.out.below hb).upto hb.size)
    clear b4
    have q5 := hide ((q4.out.below hb).upto hb.size)
    clear q4
    clear hb hc4
    go_wp2
    go_ret
    exact ⟨rfl, hc5⟩
  · have z1 : ((3000 : Int) < (s.size : Int)) := by omega
    clear hs
    go_enter Tryz.func4, Tryz.ntmps4
    go_wp2_with (go_at_call 8; fail)
    refine (awake5_any _ (hT.below hc0)).mono ?_
    rintro e w1 ⟨rfl, hb⟩
    have hc1 := hc0.trans (hb.mono hc0.size)
    clear hb hc0
    go_wp2_with (go_at_call 8; fail)
    refine (awake5_any _ (hT.below hc1)).mono ?_
    rintro e w2 ⟨rfl, hb⟩
    have hc2 := hc1.trans (hb.mono hc1.size)
    clear hb hc1
    go_wp2
    go_ret
    exact ⟨rfl, hc2⟩

end Go.Proofs.YtihoachcpabkeaaGreatDoor
