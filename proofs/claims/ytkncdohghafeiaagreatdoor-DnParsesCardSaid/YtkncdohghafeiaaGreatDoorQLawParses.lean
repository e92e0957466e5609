/-
  The walk of DnParses: whatever the texts, true. By an AI agent.
-/
import Derived.Test.YtkncdohghafeiaaGreatDoorQSame
namespace Go.Proofs.YtkncdohghafeiaaGreatDoor
open Go.RowKit
set_option linter.unusedVariables false

set_option maxRecDepth 100000 in
set_option maxHeartbeats 64000000 in
theorem parses_law (s : ByteArray) (w : World) (hT : TM w) :
    Calls Tryz.prog 3 #[.string s] w fun e w' => e = .returned (.bool true) ∧ Below w.heap.size w w' := by
  cases short6_or [s] with
  | no h =>
    have hFew := fun (w : World) hS N hN c => few6_any w.heap.size [s] false ⟨fun e => (by cases e), fun hh => absurd hh h⟩ (by simp) (w.alloc (.cells #[.string s] 9)) hS N hN c
    clear h
    go_enter Tryz.func3, Tryz.ntmps3
    go_wp2_with (go_at_call 10; fail)
    refine (awake6_any _ hT).mono ?_
    rintro e w1 ⟨rfl, hb1⟩
    go_wp2_with (go_at_call 11; fail)
    refine (hFew _ (strs6_1 _ _ _) 1 rfl 1).mono ?_
    rintro e w2 ⟨rfl, rfl⟩
    have hc2 := hb1.trans ((below1 w1 (.cells #[.string s] 9)).mono hb1.size)
    clear hFew hb1
    go_wp2_with (go_at_call 10; fail)
    refine (awake6_any _ (hT.below hc2)).mono ?_
    rintro e w3 ⟨rfl, hb3⟩
    have hc3 := hc2.trans (hb3.mono hc2.size)
    clear hb3 hc2
    go_wp2
    go_ret
    exact ⟨rfl, hc3⟩
  | yes h =>
    have hFew := fun (w : World) hS N hN c => few6_any w.heap.size [s] true ⟨fun _ => h, fun _ => rfl⟩ (by simp) (w.alloc (.cells #[.string s] 9)) hS N hN c
    have hzl : s.size ≤ 3000 := h s (by simp)
    clear h
    obtain ⟨l, hle⟩ := as_txt s
    rw [hle, txt_size] at hzl
    have hyl : l.length ≤ 1000000 := by omega
    clear hzl
    have hA := fun w hT => pname_any l hyl w hT
    have hB := fun w hT => rname_any l hyl w hT
    have hC := fun w hT => pnormal_text l hyl w hT
    have hD := fun w hT => rnormal_text l hyl w hT
    rw [← hle] at hA hB hC hD
    have hL : ((nameV l).1.getD []).length ≤ 12 ∧ ∀ p ∈ (nameV l).1.getD [], p.length ≤ 1000000 := by
      cases hv : nameV l with
      | mk o er =>
        cases o with
        | none => exact ⟨by simp, fun p hp => (by cases hp)⟩
        | some L =>
          have ho := (name_ok hv).2
          exact ⟨ho.le, fun p hp => by have := (ho.each p hp).le; omega⟩
    have hA2 : ∀ w, TM w → Calls Tryz.prog 12 #[.string s] w fun e w' => ∃ A c vs, e = .returned (.tuple #[.agg #[.slice A ((nameV l).1.getD []).length c], .int .i64 (nameV l).2]) ∧ Has w' w'.heap.size 1 A ((nameV l).1.getD []).length vs ∧ Rows2 w' w'.heap.size vs ((nameV l).1.getD []) ∧ Below w.heap.size w w' := fun w hT => (hA w hT).mono fun e w' h => h.out
    have hB2 : ∀ w, TM w → Calls Tryz.prog 13 #[.string s] w fun e w' => ∃ A c vs, e = .returned (.tuple #[.slice A ((nameV l).1.getD []).length c, .int .i64 (nameV l).2]) ∧ Has w' w'.heap.size 1 A ((nameV l).1.getD []).length vs ∧ Rows2 w' w'.heap.size vs ((nameV l).1.getD []) ∧ Below w.heap.size w w' := fun w hT => (hB w hT).mono fun e w' h => h.out
    generalize (nameV l).1.getD [] = L at *
    generalize (nameV l).2 = y at *
    generalize txt (normT l).1 = N1 at *
    generalize (normT l).2 = y1 at *
    obtain ⟨n, hn⟩ : ∃ n, L.length = n := ⟨_, rfl⟩
    rw [hn] at hA2 hB2 hL
    obtain ⟨hL1, hL2⟩ := hL
    have HL2 := hide hL2
    clear hA hB hyl hle hn hL2
    go_enter Tryz.func3, Tryz.ntmps3
    go_wp2_with (go_at_call 10; fail)
    refine (awake6_any _ hT).mono ?_
    rintro e w1 ⟨rfl, hb1⟩
    go_wp2_with (go_at_call 11; fail)
    refine (hFew _ (strs6_1 _ _ _) 1 rfl 1).mono ?_
    rintro e w2 ⟨rfl, rfl⟩
    have hc2 := hb1.trans ((below1 w1 (.cells #[.string s] 9)).mono hb1.size)
    clear hFew hb1
    go_wp2_with (go_at_call 12; fail)
    refine (hA2 _ (hT.below hc2)).mono ?_
    rintro e w3 ⟨A3, c3, vs3, rfl, hH3, hR3, hb3⟩
    have hc3 := hc2.trans (hb3.mono hc2.size)
    have hba := below1 w3 (.cells #[.slice A3 n c3] 26)
    have HN := hide (Nx.new w3 (.slice A3 n c3) 26)
    have HA := hide ((hH3.below hba).upto hba.size)
    have HR := hide (hR3.grow hba)
    have hc4 := hc3.trans (hba.mono hc3.size)
    clear hb3 hc2 hH3 hR3 hba hA2 hc3
    go_wp2_with (go_at_call 13; fail)
    refine (hB2 _ (hT.below hc4)).mono ?_
    rintro e w5 ⟨A5, c5, vs5, rfl, hH5, hR5, hb5⟩
    have hc5 := hc4.trans (hb5.mono hc4.size)
    have HN5 := hide (HN.out.below HN.out.lt hb5)
    have HA5 := hide ((HA.out.below hb5).upto hb5.size)
    have HR5 := hide (HR.out.grow hb5)
    have HB5 := hide hH5
    have HS5 := hide hR5
    clear hb5 hc4 hH5 hR5 hB2 HN HA HR
    go_wp2_with (go_at_call 14; fail)
    refine (hC _ (hT.below hc5)).mono ?_
    rintro e w6 ⟨rfl, hb6⟩
    have hc6 := hc5.trans (hb6.mono hc5.size)
    have HN6 := hide (HN5.out.below HN5.out.lt hb6)
    have HA6 := hide ((HA5.out.below hb6).upto hb6.size)
    have HR6 := hide (HR5.out.grow hb6)
    have HB6 := hide ((HB5.out.below hb6).upto hb6.size)
    have HS6 := hide (HS5.out.grow hb6)
    clear hb6 hc5 hC HN5 HA5 HR5 HB5 HS5
    go_wp2_with (go_at_call 15; fail)
    refine (hD _ (hT.below hc6)).mono ?_
    rintro e w7 ⟨rfl, hb7⟩
    have hc7 := hc6.trans (hb7.mono hc6.size)
    have hN7 := (HN6.out.below HN6.out.lt hb7).c0
    have hS7 := same6_any w7 A3 A5 n c3 n c5 vs3 vs5 L L ((HA6.out.below hb7).upto hb7.size) (HR6.out.grow hb7) ((HB6.out.below hb7).upto hb7.size) (HS6.out.grow hb7) true ⟨fun _ => rfl, fun _ => rfl⟩ (by omega) HL2.out
    clear hb7 hc6 hD HN6 HA6 HR6 HB6 HS6
    go_wp2_with (go_at_call 16; fail)
    refine hS7.mono ?_
    rintro e w8 ⟨rfl, hb8⟩
    have hc8 := hc7.trans (hb8.mono hc7.size)
    clear hb8 hc7 hS7 hN7
    go_wp2
    go_ret
    exact ⟨rfl, hc8⟩

end Go.Proofs.YtkncdohghafeiaaGreatDoor
