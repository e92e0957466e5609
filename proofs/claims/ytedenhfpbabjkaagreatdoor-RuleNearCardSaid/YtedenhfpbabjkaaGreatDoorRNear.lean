/-
  Near. By an AI agent.
-/
import Derived.Test.YtedenhfpbabjkaaGreatDoorRBare
namespace Go.Proofs.YtedenhfpbabjkaaGreatDoor
open Go.RowKit
set_option linter.unusedVariables false

/-- Whether two values are near one another. -/
inductive NearIs (n a b : List UInt8) : List UInt8 → List UInt8 → Bool → Int → Prop where
  | err {f : Int} (h : BothIs n a b [] [] f) (hf : f ≠ 0) : NearIs n a b [] [] false f
  | text {x y : List UInt8} (ht : (typ n).2 = 1) (h : BothIs n a b x y 0) : NearIs n a b x y (bareL x == bareL y) 0
  | plane {x y : List UInt8} {p q r s : Int} (ht : (typ n).2 = 4) (h : BothIs n a b x y 0) (hp : Small p) (hq : Small q) (hr : Small r) (hs : Small s) (hx : x = text p q) (hy : y = text r s) : NearIs n a b x y (p * p + q * q == r * r + s * s) 0
  | same {x y : List UInt8} (ht : (typ n).2 = 2 ∨ (typ n).2 = 3) (h : BothIs n a b x y 0) : NearIs n a b x y (x == y) 0

theorem near_or (n a b : List UInt8) : ∃ x y t f, NearIs n a b x y t f := by
  obtain ⟨x, y, f, h⟩ := both_or n a b
  rcases both_cases h with ⟨hf, rfl, rfl, _⟩ | ⟨rfl, h0, h1, hx, hy⟩
  · exact ⟨_, _, _, _, .err h hf⟩
  · obtain ⟨hr, h3, h4⟩ := norm_is h0
    obtain ⟨_, k3, k4⟩ := norm_is h1
    have : (typ n).2 = 1 ∨ ((typ n).2 = 2 ∨ (typ n).2 = 3) ∨ (typ n).2 = 4 := by omega
    rcases this with e | e | e
    · exact ⟨_, _, _, _, .text e h⟩
    · exact ⟨_, _, _, _, .same e h⟩
    · obtain ⟨p, q, hp, hq, ex⟩ := h4 e
      obtain ⟨r, s, hr', hs, ey⟩ := k4 e
      rw [← hx] at ex
      rw [← hy] at ey
      exact ⟨_, _, _, _, .plane e h hp hq hr' hs ex ey⟩

/-- Values that are alike are near one another. -/
theorem near_same {n a b x y : List UInt8} {t : Bool} {f : Int} (h : NearIs n a b x y t f) (hf : f = 0) (hxy : x = y) : t = true := by
  cases h with
  | err _ h => exact absurd hf h
  | text _ _ => simp [hxy]
  | plane _ _ hp hq hr hs hx hy =>
    rw [hx, hy] at hxy
    obtain ⟨rfl, rfl⟩ := text_inj hp hq hr hs hxy
    simp
  | same _ _ => simp [hxy]

theorem near_both {n a b x y : List UInt8} {t : Bool} {f : Int} (h : NearIs n a b x y t f) : BothIs n a b x y f := by
  cases h with
  | err h _ => exact h
  | text _ h => exact h
  | plane _ h _ _ _ _ _ _ => exact h
  | same _ h => exact h

set_option maxRecDepth 100000 in
set_option maxHeartbeats 16000000 in
theorem rnear_any (n a b : ByteArray) (ha : a.size ≤ 281474976710656) (hb : b.size ≤ 281474976710656) (x y : List UInt8) (t : Bool) (f : Int) (h : NearIs n.data.toList a.data.toList b.data.toList x y t f) (w : World) (hT : TT w) (hM : Mx w) :
    Calls Tryz.prog 12 #[.string n, .string a, .string b] w fun e w' => e = .returned (.tuple #[.bool t, .int .i64 f]) ∧ Below w.heap.size w w' := by
  have hTy := fun w hT => type_any n w hT
  cases h with
  | err h hf =>
    have hB := fun w hT => both_any n a b ha hb _ _ _ h w hT
    have hz : (f == 0) = false := beq_false_of_ne hf
    generalize txt [] = X at *
    clear h hTy
    go_enter Tryz.func12, Tryz.ntmps12
    go_wp2_with (go_at_call 15; fail)
    refine (hB _ hT).mono ?_
    rintro e w1 ⟨rfl, hb1⟩
    have hc1 := hb1
    go_wp2
    go_ret2
    exact ⟨rfl, hc1⟩
  | text ht h =>
    have hB := fun w hT => both_any n a b ha hb _ _ _ h w hT
    have hlen := both_len h
    have hI := fun w hM => without_any (txt x) (by rw [txt_size]; omega) w hM
    have hJ := fun w hM => without_any (txt y) (by rw [txt_size]; omega) w hM
    simp only [txt_toList] at hI hJ
    have hxy : ((txt (bareL x)).toList == (txt (bareL y)).toList) = (bareL x == bareL y) := by rw [txt_bytes, txt_bytes]
    simp only [ht] at hTy
    generalize txt (typ n.data.toList).1 = Z at *
    generalize txt (bareL x) = P at *
    generalize txt (bareL y) = Q at *
    generalize txt x = X at *
    generalize txt y = Y at *
    generalize (bareL x == bareL y) = t at *
    clear h ht hlen
    go_enter Tryz.func12, Tryz.ntmps12
    go_wp2_with (go_at_call 15; fail)
    refine (hB _ hT).mono ?_
    rintro e w1 ⟨rfl, hb1⟩
    have hc1 := hb1
    go_wp2_with (go_at_call 17; fail)
    refine (hTy _ (hT.below hc1).types).mono ?_
    rintro e w2 ⟨rfl, hb2⟩
    have hc2 := hc1.trans (hb2.mono hc1.size)
    go_wp2_with (go_at_call 27; fail)
    refine (hI _ (hM.below hc2)).mono ?_
    rintro e w3 ⟨rfl, hb3⟩
    have hc3 := hc2.trans (hb3.mono hc2.size)
    go_wp2_with (go_at_call 27; fail)
    refine (hJ _ (hM.below hc3)).mono ?_
    rintro e w4 ⟨rfl, hb4⟩
    have hc4 := hc3.trans (hb4.mono hc3.size)
    go_wp2
    go_ret2
    exact ⟨rfl, hc4⟩
  | @plane x y p q r s ht h hp hq hr hs hx hy =>
    have hB := fun w hT => both_any n a b ha hb _ _ _ h w hT
    have hlen := both_len h
    have hP := fun w hT => parse_yes (txt x) (by rw [txt_size]; omega) p q hp hq (by rw [txt_toList]; exact hx) w hT
    have hQ := fun w hT => parse_yes (txt y) (by rw [txt_size]; omega) r s hr hs (by rw [txt_toList]; exact hy) w hT
    have hC := fun w => norm_yes (fl p) (fl q) p q (num_fl hp hq) w
    have hD := fun w => norm_yes (fl r) (fl s) r s (num_fl hr hs) w
    simp only [ht] at hTy
    generalize txt (typ n.data.toList).1 = Z at *
    generalize txt x = X at *
    generalize txt y = Y at *
    generalize p * p + q * q = N1 at *
    generalize r * r + s * s = N2 at *
    generalize fl p = P at *
    generalize fl q = Q at *
    generalize fl r = R at *
    generalize fl s = S at *
    clear h ht hp hq hr hs hx hy hlen
    go_enter Tryz.func12, Tryz.ntmps12
    go_wp2_with (go_at_call 15; fail)
    refine (hB _ hT).mono ?_
    rintro e w1 ⟨rfl, hb1⟩
    have hc1 := hb1
    go_wp2_with (go_at_call 17; fail)
    refine (hTy _ (hT.below hc1).types).mono ?_
    rintro e w2 ⟨rfl, hb2⟩
    have hc2 := hc1.trans (hb2.mono hc1.size)
    go_wp2_with (go_at_call 20; fail)
    refine (hP _ (hT.below hc2).tabs).mono ?_
    rintro e w3 ⟨rfl, hb3⟩
    have hc3 := hc2.trans (hb3.mono hc2.size)
    go_wp2_with (go_at_call 20; fail)
    refine (hQ _ (hT.below hc3).tabs).mono ?_
    rintro e w4 ⟨rfl, hb4⟩
    have hc4 := hc3.trans (hb4.mono hc3.size)
    go_wp2_with (go_at_call 28; fail)
    refine (hC _).mono ?_
    rintro e w5 ⟨rfl, hb5⟩
    have hc5 := hc4.trans (hb5.mono hc4.size)
    go_wp2_with (go_at_call 28; fail)
    refine (hD _).mono ?_
    rintro e w6 ⟨rfl, hb6⟩
    have hc6 := hc5.trans (hb6.mono hc5.size)
    go_wp2
    go_ret2
    exact ⟨rfl, hc6⟩
  | same ht h =>
    have hB := fun w hT => both_any n a b ha hb _ _ _ h w hT
    have hxy : ((txt x).toList == (txt y).toList) = (x == y) := by rw [txt_bytes, txt_bytes]
    generalize txt (typ n.data.toList).1 = Z at *
    generalize txt x = X at *
    generalize txt y = Y at *
    generalize (x == y) = t at *
    rcases ht with ht | ht
    · simp only [ht] at hTy
      clear h ht
      go_enter Tryz.func12, Tryz.ntmps12
      go_wp2_with (go_at_call 15; fail)
      refine (hB _ hT).mono ?_
      rintro e w1 ⟨rfl, hb1⟩
      have hc1 := hb1
      go_wp2_with (go_at_call 17; fail)
      refine (hTy _ (hT.below hc1).types).mono ?_
      rintro e w2 ⟨rfl, hb2⟩
      have hc2 := hc1.trans (hb2.mono hc1.size)
      go_wp2
      go_ret2
      exact ⟨rfl, hc2⟩
    · simp only [ht] at hTy
      clear h ht
      go_enter Tryz.func12, Tryz.ntmps12
      go_wp2_with (go_at_call 15; fail)
      refine (hB _ hT).mono ?_
      rintro e w1 ⟨rfl, hb1⟩
      have hc1 := hb1
      go_wp2_with (go_at_call 17; fail)
      refine (hTy _ (hT.below hc1).types).mono ?_
      rintro e w2 ⟨rfl, hb2⟩
      have hc2 := hc1.trans (hb2.mono hc1.size)
      go_wp2
      go_ret2
      exact ⟨rfl, hc2⟩

set_option maxRecDepth 100000 in
set_option maxHeartbeats 16000000 in
theorem rrnear_any (n a b : ByteArray) (hn : n.size ≤ 281474976710656) (ha : a.size ≤ 281474976710656) (hb : b.size ≤ 281474976710656) (x y : List UInt8) (t : Bool) (f : Int) (h : NearIs n.data.toList a.data.toList b.data.toList x y t f) (w : World) (hT : TT w) (hM : Mx w) :
    Calls Tryz.prog 13 #[.string n, .string a, .string b] w fun e w' => e = .returned (.tuple #[.bool t, .int .i64 f]) ∧ Below w.heap.size w w' := by
  have hTy := fun w => rtype_any n hn w
  cases h with
  | err h hf =>
    have hB := fun w hT => rboth_any n a b hn ha hb _ _ _ h w hT
    have hz : (f == 0) = false := beq_false_of_ne hf
    generalize txt [] = X at *
    clear h hTy
    go_enter Tryz.func13, Tryz.ntmps13
    go_wp2_with (go_at_call 16; fail)
    refine (hB _ hT).mono ?_
    rintro e w1 ⟨rfl, hb1⟩
    have hc1 := hb1
    go_wp2
    go_ret2
    exact ⟨rfl, hc1⟩
  | text ht h =>
    have hB := fun w hT => rboth_any n a b hn ha hb _ _ _ h w hT
    have hlen := both_len h
    have hI := fun w hM => (fun _ : Mx w => bare_any (txt x) (by rw [txt_size]; omega) w) hM
    have hJ := fun w hM => (fun _ : Mx w => bare_any (txt y) (by rw [txt_size]; omega) w) hM
    simp only [txt_toList] at hI hJ
    have hxy : ((txt (bareL x)).toList == (txt (bareL y)).toList) = (bareL x == bareL y) := by rw [txt_bytes, txt_bytes]
    simp only [ht] at hTy
    generalize txt (typ n.data.toList).1 = Z at *
    generalize txt (bareL x) = P at *
    generalize txt (bareL y) = Q at *
    generalize txt x = X at *
    generalize txt y = Y at *
    generalize (bareL x == bareL y) = t at *
    clear h ht hlen
    go_enter Tryz.func13, Tryz.ntmps13
    go_wp2_with (go_at_call 16; fail)
    refine (hB _ hT).mono ?_
    rintro e w1 ⟨rfl, hb1⟩
    have hc1 := hb1
    go_wp2_with (go_at_call 23; fail)
    refine (hTy _).mono ?_
    rintro e w2 ⟨rfl, hb2⟩
    have hc2 := hc1.trans (hb2.mono hc1.size)
    go_wp2_with (go_at_call 29; fail)
    refine (hI _ (hM.below hc2)).mono ?_
    rintro e w3 ⟨rfl, hb3⟩
    have hc3 := hc2.trans (hb3.mono hc2.size)
    go_wp2_with (go_at_call 29; fail)
    refine (hJ _ (hM.below hc3)).mono ?_
    rintro e w4 ⟨rfl, hb4⟩
    have hc4 := hc3.trans (hb4.mono hc3.size)
    go_wp2
    go_ret2
    exact ⟨rfl, hc4⟩
  | @plane x y p q r s ht h hp hq hr hs hx hy =>
    have hB := fun w hT => rboth_any n a b hn ha hb _ _ _ h w hT
    have hlen := both_len h
    have hP := fun w hT => rparse_yes (txt x) (by rw [txt_size]; omega) p q hp hq (by rw [txt_toList]; exact hx) w hT
    have hQ := fun w hT => rparse_yes (txt y) (by rw [txt_size]; omega) r s hr hs (by rw [txt_toList]; exact hy) w hT
    have hC := fun w => rnorm_bel p q ⟨hp.lo, hp.hi⟩ ⟨hq.lo, hq.hi⟩ w
    have hD := fun w => rnorm_bel r s ⟨hr.lo, hr.hi⟩ ⟨hs.lo, hs.hi⟩ w
    simp only [ht] at hTy
    generalize txt (typ n.data.toList).1 = Z at *
    generalize txt x = X at *
    generalize txt y = Y at *
    generalize p * p + q * q = N1 at *
    generalize r * r + s * s = N2 at *
    clear h ht hp hq hr hs hx hy hlen
    go_enter Tryz.func13, Tryz.ntmps13
    go_wp2_with (go_at_call 16; fail)
    refine (hB _ hT).mono ?_
    rintro e w1 ⟨rfl, hb1⟩
    have hc1 := hb1
    go_wp2_with (go_at_call 23; fail)
    refine (hTy _).mono ?_
    rintro e w2 ⟨rfl, hb2⟩
    have hc2 := hc1.trans (hb2.mono hc1.size)
    go_wp2_with (go_at_call 25; fail)
    refine (hP _ (hT.below hc2).tabs).mono ?_
    rintro e w3 ⟨rfl, hb3⟩
    have hc3 := hc2.trans (hb3.mono hc2.size)
    have hc4 := hc3.trans ((below1 w3 (.cells #[.int .i64 p, .int .i64 q] 46)).mono hc3.size)
    go_wp2_with (go_at_call 25; fail)
    refine (hQ _ (hT.below hc4).tabs).mono ?_
    rintro e w5 ⟨rfl, hb5⟩
    have hc5 := hc4.trans (hb5.mono hc4.size)
    have hc6 := hc5.trans ((below1 w5 (.cells #[.int .i64 r, .int .i64 s] 46)).mono hc5.size)
    have hPr := ((Pr.new w3 p q).below hb5).old (.cells #[.int .i64 r, .int .i64 s] 46)
    have hQr := Pr.new w5 r s
    go_wp2_with (go_at_call 30; fail)
    have hP0 := hPr.drew
    have hQ0 := hQr.drew
    have hc7 := Below.drew hc6
    clear hPr hQr hc6
    generalize w5.alloc (.cells #[.int .i64 r, .int .i64 s] 46) = w6 at *
    refine grow_begin (by kernel_rfl) ?_
    refine grow_take 0 (some 54) (v := ?va0) rfl rfl (by kernel_rfl) (by kernel_rfl) (by kernel_rfl) (fun _ _ _ h => h) (by rfl) (fun W hW => ?ya0) ?_
    case ya0 =>
      have h0 := (hP0.up hW).c0
      have h1 := (hP0.up hW).c1
      go_simp <;> with_reducible rfl
    try simp only [Act.put, List.setIfInBounds_toArray, List.set_cons_zero, List.set_cons_succ]
    refine grow_take 2 (some 56) (v := ?va2) rfl rfl (by kernel_rfl) (by kernel_rfl) (by kernel_rfl) (fun _ _ _ h => h) (by rfl) (fun W hW => ?ya2) ?_
    case ya2 =>
      have h0 := (hQ0.up hW).c0
      have h1 := (hQ0.up hW).c1
      go_simp <;> with_reducible rfl
    try simp only [Act.put, List.setIfInBounds_toArray, List.set_cons_zero, List.set_cons_succ]
    refine grow_take 5 (some 59) (v := ?va5) rfl rfl (by kernel_rfl) (by kernel_rfl) (by kernel_rfl) (fun _ _ _ h => h) (by rfl) (fun W hW => ?ya5) ?_
    case ya5 =>
      go_simp <;> with_reducible rfl
    try simp only [Act.put, List.setIfInBounds_toArray, List.set_cons_zero, List.set_cons_succ]
    refine grow_only 1 rfl (by kernel_rfl) (fun K hK => ?_)
    go_simp
    refine (hC _).mono ?_
    rintro e w8 ⟨rfl, hb8⟩
    refine hK.out _ _ hb8 ?_
    clear hK K
    try simp only [Act.put, List.setIfInBounds_toArray, List.set_cons_zero, List.set_cons_succ]
    have hc8 := hc7.trans (hb8.mono hc7.size)
    refine grow_only 3 rfl (by kernel_rfl) (fun K hK => ?_)
    go_simp
    refine (hD _).mono ?_
    rintro e w9 ⟨rfl, hb9⟩
    refine hK.out _ _ hb9 ?_
    clear hK K
    try simp only [Act.put, List.setIfInBounds_toArray, List.set_cons_zero, List.set_cons_succ]
    have hc9 := hc8.trans (hb9.mono hc8.size)
    refine grow_take 4 (some 58) (v := ?va4) rfl rfl (by kernel_rfl) (by kernel_rfl) (by kernel_rfl) (fun _ _ _ h => h) (by rfl) (fun W hW => ?ya4) ?_
    case ya4 =>
      go_simp <;> with_reducible rfl
    try simp only [Act.put, List.setIfInBounds_toArray, List.set_cons_zero, List.set_cons_succ]
    refine grow_take 6 (some 6) (v := ?va6) rfl rfl (by kernel_rfl) (by kernel_rfl) (by kernel_rfl) (fun _ _ _ h => h) (by rfl) (fun W hW => ?ya6) ?_
    case ya6 =>
      go_simp <;> with_reducible rfl
    try simp only [Act.put, List.setIfInBounds_toArray, List.set_cons_zero, List.set_cons_succ]
    refine grow_take 7 (some 7) (v := ?va7) rfl rfl (by kernel_rfl) (by kernel_rfl) (by kernel_rfl) (fun _ _ _ h => h) (by rfl) (fun W hW => ?ya7) ?_
    case ya7 =>
      go_simp <;> with_reducible rfl
    try simp only [Act.put, List.setIfInBounds_toArray, List.set_cons_zero, List.set_cons_succ]
    refine grow_done (by kernel_rfl) ?_ _
    go_wp2
    go_ret2
    exact ⟨rfl, hc9⟩
  | same ht h =>
    have hB := fun w hT => rboth_any n a b hn ha hb _ _ _ h w hT
    have hxy : ((txt x).toList == (txt y).toList) = (x == y) := by rw [txt_bytes, txt_bytes]
    generalize txt (typ n.data.toList).1 = Z at *
    generalize txt x = X at *
    generalize txt y = Y at *
    generalize (x == y) = t at *
    rcases ht with ht | ht
    · simp only [ht] at hTy
      clear h ht
      go_enter Tryz.func13, Tryz.ntmps13
      go_wp2_with (go_at_call 16; fail)
      refine (hB _ hT).mono ?_
      rintro e w1 ⟨rfl, hb1⟩
      have hc1 := hb1
      go_wp2_with (go_at_call 23; fail)
      refine (hTy _).mono ?_
      rintro e w2 ⟨rfl, hb2⟩
      have hc2 := hc1.trans (hb2.mono hc1.size)
      go_wp2
      go_ret2
      exact ⟨rfl, hc2⟩
    · simp only [ht] at hTy
      clear h ht
      go_enter Tryz.func13, Tryz.ntmps13
      go_wp2_with (go_at_call 16; fail)
      refine (hB _ hT).mono ?_
      rintro e w1 ⟨rfl, hb1⟩
      have hc1 := hb1
      go_wp2_with (go_at_call 23; fail)
      refine (hTy _).mono ?_
      rintro e w2 ⟨rfl, hb2⟩
      have hc2 := hc1.trans (hb2.mono hc1.size)
      go_wp2
      go_ret2
      exact ⟨rfl, hc2⟩

end Go.Proofs.YtedenhfpbabjkaaGreatDoor
