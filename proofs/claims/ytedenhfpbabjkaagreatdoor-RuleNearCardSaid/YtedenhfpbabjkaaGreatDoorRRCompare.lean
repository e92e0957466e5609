/-
  The reference's Compare. By an AI agent.
-/
import Derived.Test.YtedenhfpbabjkaaGreatDoorRCompare
namespace Go.Proofs.YtedenhfpbabjkaaGreatDoor
open Go.RowKit
set_option linter.unusedVariables false

set_option maxRecDepth 100000 in
set_option maxHeartbeats 16000000 in
theorem rrcmp_any (n a b : ByteArray) (hn : n.size ≤ 281474976710656) (ha : a.size ≤ 281474976710656) (hb : b.size ≤ 281474976710656) (x y : List UInt8) (c f : Int) (h : CmpIs n.data.toList a.data.toList b.data.toList x y c f) (w : World) (hT : TT w) :
    Calls Tryz.prog 11 #[.string n, .string a, .string b] w fun e w' => e = .returned (.tuple #[.int .i64 c, .int .i64 f]) ∧ Below w.heap.size w w' := by
  have hTy := fun w => rtype_any n hn w
  cases h with
  | err h hf =>
    have hB := fun w hT => rboth_any n a b hn ha hb _ _ _ h w hT
    have hz : (f == 0) = false := beq_false_of_ne hf
    generalize txt [] = X at *
    clear h hTy
    go_enter Tryz.func11, Tryz.ntmps11
    go_wp2_with (go_at_call 16; fail)
    refine (hB _ hT).mono ?_
    rintro e w1 ⟨rfl, hb1⟩
    have hc1 := hb1
    go_wp2
    go_ret2
    exact ⟨rfl, hc1⟩
  | @int x y p q ht h hp hq =>
    have hB := fun w hT => rboth_any n a b hn ha hb _ _ _ h w hT
    have hI := fun w => rinteger_yes (txt x) p (by rw [txt_toList]; exact hp) w
    have hJ := fun w => rinteger_yes (txt y) q (by rw [txt_toList]; exact hq) w
    simp only [ht] at hTy
    generalize txt (typ n.data.toList).1 = Z at *
    generalize txt x = X at *
    generalize txt y = Y at *
    clear h ht hp hq
    by_cases hlt : p < q
    · have hr : Hid (cmpI p q = -1) := hide (by unfold cmpI; rw [if_pos hlt])
      go_enter Tryz.func11, Tryz.ntmps11
      go_wp2_with (go_at_call 16; fail)
      refine (hB _ hT).mono ?_
      rintro e w1 ⟨rfl, hb1⟩
      have hc1 := hb1
      go_wp2_with (go_at_call 23; fail)
      refine (hTy _).mono ?_
      rintro e w2 ⟨rfl, hb2⟩
      have hc2 := hc1.trans (hb2.mono hc1.size)
      go_wp2_with (go_at_call 24; fail)
      refine (hI _).mono ?_
      rintro e w3 ⟨rfl, hb3⟩
      have hc3 := hc2.trans (hb3.mono hc2.size)
      go_wp2_with (go_at_call 24; fail)
      refine (hJ _).mono ?_
      rintro e w4 ⟨rfl, hb4⟩
      have hc4 := hc3.trans (hb4.mono hc3.size)
      go_wp2
      go_ret2
      exact ⟨by rw [hr.out]; rfl, hc4⟩
    · by_cases hgt : q < p
      · have hr : Hid (cmpI p q = 1) := hide (by unfold cmpI; rw [if_neg hlt, if_pos hgt])
        go_enter Tryz.func11, Tryz.ntmps11
        go_wp2_with (go_at_call 16; fail)
        refine (hB _ hT).mono ?_
        rintro e w1 ⟨rfl, hb1⟩
        have hc1 := hb1
        go_wp2_with (go_at_call 23; fail)
        refine (hTy _).mono ?_
        rintro e w2 ⟨rfl, hb2⟩
        have hc2 := hc1.trans (hb2.mono hc1.size)
        go_wp2_with (go_at_call 24; fail)
        refine (hI _).mono ?_
        rintro e w3 ⟨rfl, hb3⟩
        have hc3 := hc2.trans (hb3.mono hc2.size)
        go_wp2_with (go_at_call 24; fail)
        refine (hJ _).mono ?_
        rintro e w4 ⟨rfl, hb4⟩
        have hc4 := hc3.trans (hb4.mono hc3.size)
        go_wp2
        go_ret2
        exact ⟨by rw [hr.out]; rfl, hc4⟩
      · have hr : Hid (cmpI p q = 0) := hide (by unfold cmpI; rw [if_neg hlt, if_neg hgt])
        go_enter Tryz.func11, Tryz.ntmps11
        go_wp2_with (go_at_call 16; fail)
        refine (hB _ hT).mono ?_
        rintro e w1 ⟨rfl, hb1⟩
        have hc1 := hb1
        go_wp2_with (go_at_call 23; fail)
        refine (hTy _).mono ?_
        rintro e w2 ⟨rfl, hb2⟩
        have hc2 := hc1.trans (hb2.mono hc1.size)
        go_wp2_with (go_at_call 24; fail)
        refine (hI _).mono ?_
        rintro e w3 ⟨rfl, hb3⟩
        have hc3 := hc2.trans (hb3.mono hc2.size)
        go_wp2_with (go_at_call 24; fail)
        refine (hJ _).mono ?_
        rintro e w4 ⟨rfl, hb4⟩
        have hc4 := hc3.trans (hb4.mono hc3.size)
        go_wp2
        go_ret2
        exact ⟨by rw [hr.out]; rfl, hc4⟩
  | @plane x y p q r s ht h hp hq hr hs hx hy =>
    have hB := fun w hT => rboth_any n a b hn ha hb _ _ _ h w hT
    have hlen := both_len h
    have hP := fun w hT => rparse_yes (txt x) (by rw [txt_size]; omega) p q hp hq (by rw [txt_toList]; exact hx) w hT
    have hQ := fun w hT => rparse_yes (txt y) (by rw [txt_size]; omega) r s hr hs (by rw [txt_toList]; exact hy) w hT
    have hC := fun w => rcompare_any p q r s ⟨hp.lo, hp.hi⟩ ⟨hq.lo, hq.hi⟩ ⟨hr.lo, hr.hi⟩ ⟨hs.lo, hs.hi⟩ w
    simp only [ht] at hTy
    generalize txt (typ n.data.toList).1 = Z at *
    generalize txt x = X at *
    generalize txt y = Y at *
    have hcp : cmpP p q r s = cmpQ p q r s := rfl
    rw [hcp] at hC
    generalize cmpQ p q r s = C at *
    clear h ht hp hq hr hs hx hy hlen hcp
    go_enter Tryz.func11, Tryz.ntmps11
    go_wp2_with (go_at_call 16; fail)
    refine (hB _ hT).mono ?_
    rintro e w1 ⟨rfl, hb1⟩
    have hc1 := hb1
    go_wp2_with (go_at_call 23; fail)
    refine (hTy _).mono ?_
    rintro e w2 ⟨rfl, hb2⟩
    have hc2 := hc1.trans (hb2.mono hc1.size)
    go_wp2_with (go_at_call 25; fail)
    refine (hP _ (hT.below hc2).tabs).mono ?_
    rintro e w3 ⟨rfl, hb3⟩
    have hc3 := hc2.trans (hb3.mono hc2.size)
    have hc4 := hc3.trans ((below1 w3 (.cells #[.int .i64 p, .int .i64 q] 46)).mono hc3.size)
    go_wp2_with (go_at_call 25; fail)
    refine (hQ _ (hT.below hc4).tabs).mono ?_
    rintro e w5 ⟨rfl, hb5⟩
    have hc5 := hc4.trans (hb5.mono hc4.size)
    have hc6 := hc5.trans ((below1 w5 (.cells #[.int .i64 r, .int .i64 s] 46)).mono hc5.size)
    have hPr := (Pr.new w3 p q).below hb5
    have hlt : w3.heap.size < w5.heap.size := by
      have := hb5.size
      simp at this
      omega
    obtain ⟨q0, q1, _⟩ := hPr
    go_wp2_with (go_at_call 26; fail)
    refine (hC _).mono ?_
    rintro e w7 ⟨rfl, hb7⟩
    go_wp2
    go_ret2
    exact ⟨rfl, hc6.trans (hb7.mono hc6.size)⟩
  | text ht h =>
    have hB := fun w hT => rboth_any n a b hn ha hb _ _ _ h w hT
    have hC := bytes_cmp2 x y
    generalize txt (typ n.data.toList).1 = Z at *
    generalize hX : txt x = X at *
    generalize hY : txt y = Y at *
    have hC' : Lib.compareBytes x y = if Op.bytesLess X.toList Y.toList = true then -1 else if (X.toList == Y.toList) = true then 0 else 1 := by rw [← hX, ← hY, txt_bytes, txt_bytes]; exact hC
    clear hX hY hC
    generalize Lib.compareBytes x y = C at *
    replace hC' := hide hC'
    have key : ∀ tv : Int, (tv = 1 ∨ tv = 2) → (typ n.data.toList).2 = tv → Calls Tryz.prog 11 #[.string n, .string a, .string b] w fun e w' => e = .returned (.tuple #[.int .i64 C, .int .i64 0]) ∧ Below w.heap.size w w' := by
      intro tv htv hte
      simp only [hte] at hTy
      have e3 : (tv == 3) = false := beq_false_of_ne (by omega)
      have e4 : (tv == 4) = false := beq_false_of_ne (by omega)
      clear h ht hte htv
      by_cases h1 : Op.bytesLess X.toList Y.toList = true
      · have hr : Hid (C = -1) := hide (by rw [hC'.out, if_pos h1])
        clear hC'
        go_enter Tryz.func11, Tryz.ntmps11
        go_wp2_with (go_at_call 16; fail)
        refine (hB _ hT).mono ?_
        rintro e w1 ⟨rfl, hb1⟩
        have hc1 := hb1
        go_wp2_with (go_at_call 23; fail)
        refine (hTy _).mono ?_
        rintro e w2 ⟨rfl, hb2⟩
        have hc2 := hc1.trans (hb2.mono hc1.size)
        go_wp2
        go_ret2
        exact ⟨by rw [hr.out]; rfl, hc2⟩
      · have h1' : Op.bytesLess X.toList Y.toList = false := by simpa using h1
        by_cases h2 : (X.toList == Y.toList) = true
        · have hr : Hid (C = 0) := hide (by rw [hC'.out, if_neg h1, if_pos h2])
          clear hC' h1
          go_enter Tryz.func11, Tryz.ntmps11
          go_wp2_with (go_at_call 16; fail)
          refine (hB _ hT).mono ?_
          rintro e w1 ⟨rfl, hb1⟩
          have hc1 := hb1
          go_wp2_with (go_at_call 23; fail)
          refine (hTy _).mono ?_
          rintro e w2 ⟨rfl, hb2⟩
          have hc2 := hc1.trans (hb2.mono hc1.size)
          go_wp2
          go_ret2
          exact ⟨by rw [hr.out]; rfl, hc2⟩
        · have h2' : (X.toList == Y.toList) = false := by simpa using h2
          have hr : Hid (C = 1) := hide (by rw [hC'.out, if_neg h1, if_neg h2])
          clear hC' h1 h2
          go_enter Tryz.func11, Tryz.ntmps11
          go_wp2_with (go_at_call 16; fail)
          refine (hB _ hT).mono ?_
          rintro e w1 ⟨rfl, hb1⟩
          have hc1 := hb1
          go_wp2_with (go_at_call 23; fail)
          refine (hTy _).mono ?_
          rintro e w2 ⟨rfl, hb2⟩
          have hc2 := hc1.trans (hb2.mono hc1.size)
          go_wp2
          go_ret2
          exact ⟨by rw [hr.out]; rfl, hc2⟩
    rcases ht with ht | ht
    · exact key 1 (Or.inl rfl) ht
    · exact key 2 (Or.inr rfl) ht

end Go.Proofs.YtedenhfpbabjkaaGreatDoor
