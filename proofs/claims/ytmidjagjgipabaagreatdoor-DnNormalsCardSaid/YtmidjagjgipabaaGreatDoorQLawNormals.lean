/-
  The walk of DnNormals: whatever the texts, true. By an AI agent.
-/
import Derived.Test.YtmidjagjgipabaaGreatDoorQPValue
namespace Go.Proofs.YtmidjagjgipabaaGreatDoor
open Go.RowKit
set_option linter.unusedVariables false

theorem norm_none {l m : List UInt8} (h : ¬ (normT l).2 = 0) : underV l m = false ∧ underV m l = false ∧ compV l m = 0 := by
  cases rkey l with
  | no y e1 e2 h' =>
    refine ⟨by unfold underV; rw [h'], ?_, by unfold compV; rw [h']⟩
    unfold underV
    rw [h']
    cases (partsV m).1 <;> rfl
  | ok T ho h' => rw [norm_yes' h'] at h; exact absurd rfl h

set_option maxRecDepth 100000 in
set_option maxHeartbeats 64000000 in
theorem normals_of (hV : ∀ (n v : List UInt8) (w : World), n.length ≤ 3000 → v.length ≤ 3000 → TM w → Calls Tryz.prog 7 #[.string (txt n), .string (txt v)] w fun e w' => e = .returned (.tuple #[.string (txt (valV n v).1), .int .i64 (valV n v).2]) ∧ Below w.heap.size w w')
    (s u v x : ByteArray) (w : World) (hT : TM w) :
    Calls Tryz.prog 3 #[.string s, .string u, .string v, .string x] w fun e w' => e = .returned (.bool true) ∧ Below w.heap.size w w' := by
  cases short6_or [s, u, v, x] with
  | no h =>
    have hFew := fun (w : World) hS N hN c => few6_any w.heap.size [s, u, v, x] false ⟨fun e => (by cases e), fun hh => absurd hh h⟩ (by simp) (w.alloc (.cells #[.string s, .string u, .string v, .string x] 9)) hS N hN c
    clear h
    go_enter Tryz.func3, Tryz.ntmps3
    go_wp2_with (go_at_call 4; fail)
    refine (awake6_any _ hT).mono ?_
    rintro e w1 ⟨rfl, hb1⟩
    go_wp2_with (go_at_call 5; fail)
    refine (hFew _ (strs6_4 _ _ _ _ _ _) 4 rfl 4).mono ?_
    rintro e w2 ⟨rfl, rfl⟩
    have hc2 := hb1.trans ((below1 w1 (.cells #[.string s, .string u, .string v, .string x] 9)).mono hb1.size)
    clear hFew hb1
    go_wp2_with (go_at_call 4; fail)
    refine (awake6_any _ (hT.below hc2)).mono ?_
    rintro e w3 ⟨rfl, hb3⟩
    have hc3 := hc2.trans (hb3.mono hc2.size)
    clear hb3 hc2
    go_wp2
    go_ret
    exact ⟨rfl, hc3⟩
  | yes h =>
    have hFew := fun (w : World) hS N hN c => few6_any w.heap.size [s, u, v, x] true ⟨fun _ => h, fun _ => rfl⟩ (by simp) (w.alloc (.cells #[.string s, .string u, .string v, .string x] 9)) hS N hN c
    have hzl : s.size ≤ 3000 := h s (by simp)
    have hzm : u.size ≤ 3000 := h u (by simp)
    have hzn : v.size ≤ 3000 := h v (by simp)
    have hzk : x.size ≤ 3000 := h x (by simp)
    clear h
    obtain ⟨l, hle⟩ := as_txt s
    rw [hle, txt_size] at hzl
    have hyl : l.length ≤ 1000000 := by omega
    clear hzl
    obtain ⟨m, hme⟩ := as_txt u
    rw [hme, txt_size] at hzm
    have hym : m.length ≤ 1000000 := by omega
    clear hzm
    obtain ⟨n, hne⟩ := as_txt v
    rw [hne, txt_size] at hzn
    have hyn : n.length ≤ 1000000 := by omega
    have hzn' := hzn
    clear hzn
    obtain ⟨k, hke⟩ := as_txt x
    rw [hke, txt_size] at hzk
    have hyk : k.length ≤ 1000000 := by omega
    have hzk' := hzk
    clear hzk
    have hA := fun w hT => pnormal_text l hyl w hT
    have hB := fun w hT => pnormal_text m hym w hT
    have hC := fun w hT => hV n k w (by omega) (by omega) hT
    have hD := fun w hT => rvalue_any n k (by omega) (by omega) w hT
    have hE := fun w hT => punder_text l m hyl hym w hT
    have hF := fun w hT => punder_text m l hym hyl w hT
    have hG := fun w hT => pcompare_text l m hyl hym w hT
    rw [← hle] at hA hE hF hG
    rw [← hme] at hB hE hF hG
    rw [← hne, ← hke] at hC hD
    generalize txt (valV n k).1 = V1 at *
    generalize (valV n k).2 = v2 at *
    by_cases hy : (normT l).2 = 0
    · obtain ⟨hag, hlen⟩ := norm_again hy
      have hH := fun w hT => pnormal_text (normT l).1 (by omega) w hT
      rw [hag] at hH
      rw [hy] at hA hH
      have hbu := both_und (m := m) hy
      have hq : ((txt (normT l).1).toList == (txt (normT m).1).toList) = ((normT l).1 == (normT m).1) := by rw [txt_bytes, txt_bytes]
      generalize underV l m = u1 at *
      generalize underV m l = u2 at *
      obtain ⟨q, hqe⟩ : ∃ q, ((normT l).1 == (normT m).1) = q := ⟨_, rfl⟩
      obtain ⟨f, hfe⟩ : ∃ f, ((normT m).2 == 0) = f := ⟨_, rfl⟩
      rw [hqe] at hq hbu
      rw [hfe] at hbu
      generalize txt (normT l).1 = X at *
      generalize txt (normT m).1 = Y at *
      generalize (normT m).2 = y2 at *
      clear hag hlen hy hqe hyl hym hyn hyk hle hme hne hke hG hzn' hzk'
      go_enter Tryz.func3, Tryz.ntmps3
      go_wp2_with (go_at_call 4; fail)
      refine (awake6_any _ hT).mono ?_
      rintro e w1 ⟨rfl, hb1⟩
      go_wp2_with (go_at_call 5; fail)
      refine (hFew _ (strs6_4 _ _ _ _ _ _) 4 rfl 4).mono ?_
      rintro e w2 ⟨rfl, rfl⟩
      have hc2 := hb1.trans ((below1 w1 (.cells #[.string s, .string u, .string v, .string x] 9)).mono hb1.size)
      clear hFew hb1
      go_wp2_with (go_at_call 6; fail)
      refine (hA _ (hT.below hc2)).mono ?_
      rintro e w3 ⟨rfl, hb3⟩
      have hc3 := hc2.trans (hb3.mono hc2.size)
      clear hb3 hc2
      go_wp2_with (go_at_call 6; fail)
      refine (hB _ (hT.below hc3)).mono ?_
      rintro e w4 ⟨rfl, hb4⟩
      have hc4 := hc3.trans (hb4.mono hc3.size)
      clear hb4 hc3
      go_wp2_with (go_at_call 7; fail)
      refine (hC _ (hT.below hc4)).mono ?_
      rintro e w5 ⟨rfl, hb5⟩
      have hc5 := hc4.trans (hb5.mono hc4.size)
      clear hb5 hc4
      go_wp2_with (go_at_call 8; fail)
      refine (hD _ (hT.below hc5)).mono ?_
      rintro e w6 ⟨rfl, hb6⟩
      have hc6 := hc5.trans (hb6.mono hc5.size)
      clear hb6 hc5
      go_wp2_with (go_at_call 6; fail)
      refine (hH _ (hT.below hc6)).mono ?_
      rintro e w7 ⟨rfl, hb7⟩
      have hc7 := hc6.trans (hb7.mono hc6.size)
      clear hb7 hc6
      go_wp2_with (go_at_call 9; fail)
      refine (hE _ (hT.below hc7)).mono ?_
      rintro e w8 ⟨rfl, hb8⟩
      have hc8 := hc7.trans (hb8.mono hc7.size)
      clear hb8 hc7
      cases u1 with
      | false =>
        simp only [Bool.false_and] at hbu
        cases f with
        | false =>
          clear hbu hF
          go_wp2
          go_ret
          exact ⟨rfl, hc8⟩
        | true =>
          simp only [Bool.true_and] at hbu
          subst hbu
          clear hF
          go_wp2
          go_ret
          exact ⟨rfl, hc8⟩
      | true =>
        simp only [Bool.true_and] at hbu
        go_wp2_with (go_at_call 9; fail)
        refine (hF _ (hT.below hc8)).mono ?_
        rintro e w9 ⟨rfl, hb9⟩
        have hc9 := hc8.trans (hb9.mono hc8.size)
        clear hb9 hc8
        cases u2 with
        | false =>
          cases f with
          | false =>
            clear hbu
            go_wp2
            go_ret
            exact ⟨rfl, hc9⟩
          | true =>
            simp only [Bool.true_and] at hbu
            subst hbu
            go_wp2
            go_ret
            exact ⟨rfl, hc9⟩
        | true =>
          cases f with
          | false => simp at hbu
          | true =>
            simp only [Bool.true_and] at hbu
            subst hbu
            go_wp2
            go_ret
            exact ⟨rfl, hc9⟩
    · have hn1 : ((normT l).2 == 0) = false := beq_false_of_ne hy
      have hn2 : ((normT l).2 != 0) = true := by unfold bne; rw [hn1]; rfl
      obtain ⟨hu1, hu2, hcv⟩ := norm_none (m := m) hy
      rw [hu1] at hE
      rw [hu2] at hF
      rw [hcv] at hG
      generalize txt (normT l).1 = X at *
      generalize txt (normT m).1 = Y at *
      generalize (normT m).2 = y2 at *
      generalize (normT l).2 = y1 at *
      clear hy hyl hym hyn hyk hle hme hne hke hu1 hu2 hcv hzn' hzk'
      go_enter Tryz.func3, Tryz.ntmps3
      go_wp2_with (go_at_call 4; fail)
      refine (awake6_any _ hT).mono ?_
      rintro e w1 ⟨rfl, hb1⟩
      go_wp2_with (go_at_call 5; fail)
      refine (hFew _ (strs6_4 _ _ _ _ _ _) 4 rfl 4).mono ?_
      rintro e w2 ⟨rfl, rfl⟩
      have hc2 := hb1.trans ((below1 w1 (.cells #[.string s, .string u, .string v, .string x] 9)).mono hb1.size)
      clear hFew hb1
      go_wp2_with (go_at_call 6; fail)
      refine (hA _ (hT.below hc2)).mono ?_
      rintro e w3 ⟨rfl, hb3⟩
      have hc3 := hc2.trans (hb3.mono hc2.size)
      clear hb3 hc2
      go_wp2_with (go_at_call 6; fail)
      refine (hB _ (hT.below hc3)).mono ?_
      rintro e w4 ⟨rfl, hb4⟩
      have hc4 := hc3.trans (hb4.mono hc3.size)
      clear hb4 hc3
      go_wp2_with (go_at_call 7; fail)
      refine (hC _ (hT.below hc4)).mono ?_
      rintro e w5 ⟨rfl, hb5⟩
      have hc5 := hc4.trans (hb5.mono hc4.size)
      clear hb5 hc4
      go_wp2_with (go_at_call 8; fail)
      refine (hD _ (hT.below hc5)).mono ?_
      rintro e w6 ⟨rfl, hb6⟩
      have hc6 := hc5.trans (hb6.mono hc5.size)
      clear hb6 hc5
      go_wp2_with (go_at_call 9; fail)
      refine (hE _ (hT.below hc6)).mono ?_
      rintro e w7 ⟨rfl, hb7⟩
      have hc7 := hc6.trans (hb7.mono hc6.size)
      clear hb7 hc6
      go_wp2_with (go_at_call 9; fail)
      refine (hF _ (hT.below hc7)).mono ?_
      rintro e w8 ⟨rfl, hb8⟩
      have hc8 := hc7.trans (hb8.mono hc7.size)
      clear hb8 hc7
      go_wp2_with (go_at_call 10; fail)
      refine (hG _ (hT.below hc8)).mono ?_
      rintro e w9 ⟨rfl, hb9⟩
      have hc9 := hc8.trans (hb9.mono hc8.size)
      clear hb9 hc8
      go_wp2
      go_ret
      exact ⟨rfl, hc9⟩

end Go.Proofs.YtmidjagjgipabaaGreatDoor
