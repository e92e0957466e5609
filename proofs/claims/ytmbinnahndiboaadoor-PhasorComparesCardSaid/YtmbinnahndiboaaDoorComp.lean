/-
  Compare of both texts. By an AI agent.
-/
import Derived.Test.YtmbinnahndiboaaDoorCmp
namespace Go.Proofs.YtmbinnahndiboaaDoor
open Go.RowKit Flt
set_option linter.unusedVariables false

set_option maxRecDepth 100000 in
set_option maxHeartbeats 4000000 in
theorem compare_arg (x y u v : Nat) (hx : Word x) (hy : Word y) (hu : Word u) (hv : Word v) (h : NoNum x y ∨ NoNum u v) (w : World) :
    Calls Tryd.prog 25 #[.complex .f64 x y, .complex .f64 u v] w fun e w' => e = .returned (.int .i64 0) ∧ Below w.heap.size w w' := by
  rcases num_or x y hx.lt hy.lt with ⟨a, b, hn⟩ | hn
  · have h2 : NoNum u v := h.resolve_left (fun h => no_num h ⟨⟨a, hn.1⟩, b, hn.2⟩)
    have hF := fun w => formed_yes x y a b hn w
    have hG := fun w => formed_no u v hu hv h2 w
    clear h hn h2 hx hy hu hv
    go_enter Tryd.func25, Tryd.ntmps25
    go_wp2_with (go_at_call 12; fail)
    refine (hF _).mono ?_
    rintro e w1 ⟨rfl, hb1⟩
    go_wp2_with (go_at_call 12; fail)
    refine (hG _).mono ?_
    rintro e w2 ⟨rfl, hb2⟩
    go_wp2
    go_ret
    exact ⟨rfl, hb1.trans (hb2.mono hb1.size)⟩
  · have hF := fun w => formed_no x y hx hy hn w
    clear h hn hx hy hu hv
    go_enter Tryd.func25, Tryd.ntmps25
    go_wp2_with (go_at_call 12; fail)
    refine (hF _).mono ?_
    rintro e w1 ⟨rfl, hb1⟩
    go_wp2
    go_ret
    exact ⟨rfl, hb1⟩

theorem less_bel (a b : Int) (w : World) :
    Calls Tryd.prog 35 #[.int .i64 a, .int .i64 b] w fun e w' => e = .returned (.int .i64 (cmpI a b)) ∧ Below w.heap.size w w' := by
  refine (less_any a b w).mono ?_
  rintro e w' ⟨rfl, rfl⟩
  exact ⟨rfl, Below.refl _ _⟩

/-- How two numbers stand. -/
def cmpP (a b c d : Int) : Int := cmp3 (a * a + b * b) a b (c * c + d * d) c d

set_option maxRecDepth 100000 in
set_option maxHeartbeats 4000000 in
theorem compare_num (x y u v : Nat) (a b c d : Int) (h : Num x y a b) (k : Num u v c d) (w : World) :
    Calls Tryd.prog 25 #[.complex .f64 x y, .complex .f64 u v] w fun e w' => e = .returned (.int .i64 (cmpP a b c d)) ∧ Below w.heap.size w w' := by
  have hF := fun w => formed_yes x y a b h w
  have hG := fun w => formed_yes u v c d k w
  have hN := fun w => norm_yes x y a b h w
  have hM := fun w => norm_yes u v c d k w
  have hR := fun w => cmp_part x u a c h.1 k.1 w
  have hI := fun w => cmp_part y v b d h.2 k.2 w
  have hres : or3 (cmpI (a * a + b * b) (c * c + d * d)) (cmpI a c) (cmpI b d) = cmpP a b c d := rfl
  generalize cmpP a b c d = P at hres ⊢
  generalize a * a + b * b = n at *
  generalize c * c + d * d = m at *
  have hC := fun w => cmp_int n m w
  generalize hv1 : cmpI n m = v1 at *
  generalize hv2 : cmpI a c = v2 at *
  generalize hv3 : cmpI b d = v3 at *
  replace hres := hide hres
  clear h k hv1 hv2 hv3
  go_enter Tryd.func25, Tryd.ntmps25
  go_wp2_with (go_at_call 12; fail)
  refine (hF _).mono ?_
  rintro e w1 ⟨rfl, hb1⟩
  go_wp2_with (go_at_call 12; fail)
  refine (hG _).mono ?_
  rintro e w2 ⟨rfl, hb2⟩
  have hc2 := hb1.trans (hb2.mono hb1.size)
  clear hb1 hb2
  go_wp2_with (go_at_call 22; fail)
  refine (hN _).mono ?_
  rintro e w3 ⟨rfl, hb3⟩
  have hc3 := hc2.trans (hb3.mono hc2.size)
  clear hb3
  go_wp2_with (go_at_call 22; fail)
  refine (hM _).mono ?_
  rintro e w4 ⟨rfl, hb4⟩
  have hc4 := hc3.trans (hb4.mono hc3.size)
  clear hb4
  go_wp2_with (first
    | (go_at_call 37; refine (hC _).mono ?_; rintro e w5 ⟨rfl, rfl⟩)
    | (go_at_call 38; fail))
  refine (hR _).mono ?_
  rintro e w6 ⟨rfl, rfl⟩
  go_wp2_with (go_at_call 38; fail)
  refine (hI _).mono ?_
  rintro e w7 ⟨rfl, rfl⟩
  go_wp2_with (go_at_call 36; fail)
  refine (or_any w7.heap.size v1 v2 v3 _ (by rw [World.cell?_alloc_at (hn := by simp)]; rfl) (by rw [World.cell?_alloc_at (hn := by simp)]; rfl) (by rw [World.cell?_alloc_at (hn := by simp)]; rfl)).mono ?_
  rintro e w8 ⟨rfl, hb8⟩
  rw [hres.out]
  go_wp2
  go_ret
  exact ⟨rfl, hc4.trans ((below_of_alloc hb8).mono hc4.size)⟩

set_option maxRecDepth 100000 in
set_option maxHeartbeats 4000000 in
theorem rcompare_any (a b c d : Int) (ha : -1000000 ≤ a ∧ a ≤ 1000000) (hb : -1000000 ≤ b ∧ b ≤ 1000000) (hc : -1000000 ≤ c ∧ c ≤ 1000000) (hd : -1000000 ≤ d ∧ d ≤ 1000000) (w : World) :
    Calls Tryd.prog 24 #[.agg #[.int .i64 a, .int .i64 b], .agg #[.int .i64 c, .int .i64 d]] w fun e w' => e = .returned (.int .i64 (cmpP a b c d)) ∧ Below w.heap.size w w' := by
  have hN := fun w => rnorm_bel a b ha hb w
  have hM := fun w => rnorm_bel c d hc hd w
  have hL := fun a b w => less_bel a b w
  have hres : cmpP a b c d = cmp3 (a * a + b * b) a b (c * c + d * d) c d := rfl
  unfold cmp3 at hres
  generalize cmpP a b c d = P at hres ⊢
  generalize a * a + b * b = n at *
  generalize c * c + d * d = m at *
  have hL1 := fun w => hL n m w
  have hL2 := fun w => hL a c w
  have hL3 := fun w => hL b d w
  generalize hv1 : cmpI n m = v1 at *
  generalize hv2 : cmpI a c = v2 at *
  generalize hv3 : cmpI b d = v3 at *
  have e1 : (v1 = 0) ∨ v1 ≠ 0 := by omega
  have e2 : (v2 = 0) ∨ v2 ≠ 0 := by omega
  replace hres := hide hres
  clear hv1 hv2 hv3 hL
  go_enter Tryd.func24, Tryd.ntmps24
  go_wp2
  have hP0 := ((Pr.new w a b).old (.cells #[.int .i64 c, .int .i64 d] 29)).drew
  have hQ0 := (Pr.new (w.alloc (.cells #[.int .i64 a, .int .i64 b] 29)) c d).drew
  have hc0 := (below2 w (.cells #[.int .i64 a, .int .i64 b] 29) (.cells #[.int .i64 c, .int .i64 d] 29)).drew
  have hsz : (w.alloc (.cells #[.int .i64 a, .int .i64 b] 29)).heap.size = w.heap.size + 1 := by simp
  rw [hsz] at hQ0
  clear hsz
  generalize (w.alloc (.cells #[.int .i64 a, .int .i64 b] 29)).alloc (.cells #[.int .i64 c, .int .i64 d] 29) = w2 at *
  refine grow_begin (by kernel_rfl) ?_
  refine grow_take 0 (some 7) (v := ?va0) rfl rfl (by kernel_rfl) (by kernel_rfl) (by kernel_rfl) (fun _ _ _ h => h) (by rfl) (fun W hW => ?ya0) ?_
  case ya0 =>
    have h0 := (hP0.up hW).c0
    have h1 := (hP0.up hW).c1
    go_simp <;> with_reducible rfl
  try simp only [Act.put, List.setIfInBounds_toArray, List.set_cons_zero, List.set_cons_succ]
  refine grow_take 2 (some 9) (v := ?va2) rfl rfl (by kernel_rfl) (by kernel_rfl) (by kernel_rfl) (fun _ _ _ h => h) (by rfl) (fun W hW => ?ya2) ?_
  case ya2 =>
    have h0 := (hQ0.up hW).c0
    have h1 := (hQ0.up hW).c1
    go_simp <;> with_reducible rfl
  try simp only [Act.put, List.setIfInBounds_toArray, List.set_cons_zero, List.set_cons_succ]
  refine grow_only 1 rfl (by kernel_rfl) (fun K hK => ?_)
  go_simp
  refine (hN _).mono ?_
  rintro e w3 ⟨rfl, hb3⟩
  refine hK.out _ _ hb3 ?_
  clear hK K
  try simp only [Act.put, List.setIfInBounds_toArray, List.set_cons_zero, List.set_cons_succ]
  have hc3 := hc0.trans (hb3.mono hc0.size)
  have hP3 := hP0.below hb3
  have hQ3 := hQ0.below hb3
  refine grow_only 3 rfl (by kernel_rfl) (fun K hK => ?_)
  go_simp
  refine (hM _).mono ?_
  rintro e w4 ⟨rfl, hb4⟩
  refine hK.out _ _ hb4 ?_
  clear hK K
  try simp only [Act.put, List.setIfInBounds_toArray, List.set_cons_zero, List.set_cons_succ]
  have hc4 := hc3.trans (hb4.mono hc3.size)
  have hP4 := hP3.below hb4
  have hQ4 := hQ3.below hb4
  refine grow_only 4 rfl (by kernel_rfl) (fun K hK => ?_)
  go_simp
  refine (hL1 _).mono ?_
  rintro e w5 ⟨rfl, hb5⟩
  refine hK.out _ _ hb5 ?_
  clear hK K
  try simp only [Act.put, List.setIfInBounds_toArray, List.set_cons_zero, List.set_cons_succ]
  have hc5 := hc4.trans (hb5.mono hc4.size)
  have hP5 := hP4.below hb5
  have hQ5 := hQ4.below hb5
  refine grow_take 5 (some 5) (v := ?va5) rfl rfl (by kernel_rfl) (by kernel_rfl) (by kernel_rfl) (fun _ _ _ h => h) (by rfl) (fun W hW => ?ya5) ?_
  case ya5 =>
    go_simp <;> with_reducible rfl
  try simp only [Act.put, List.setIfInBounds_toArray, List.set_cons_zero, List.set_cons_succ]
  refine grow_done (by kernel_rfl) ?_ _
  obtain ⟨q0, q1, _⟩ := id hP5
  obtain ⟨q2, q3, _⟩ := id hQ5
  rcases e1 with rfl | e1
  · rcases e2 with rfl | e2
    · go_wp2_with (go_at_call 35; fail)
      refine (hL2 _).mono ?_
      rintro e w6 ⟨rfl, hb6⟩
      have hc6 := hc5.trans (hb6.mono hc5.size)
      clear q0 q1 q2 q3
      obtain ⟨q0, q1, _⟩ := hP5.below hb6
      obtain ⟨q2, q3, _⟩ := hQ5.below hb6
      go_wp2_with (go_at_call 35; fail)
      refine (hL3 _).mono ?_
      rintro e w7 ⟨rfl, hb7⟩
      have hc7 := hc6.trans (hb7.mono hc6.size)
      go_wp2
      go_ret
      exact ⟨by rw [hres.out]; simp, hc7⟩
    · go_wp2_with (go_at_call 35; fail)
      refine (hL2 _).mono ?_
      rintro e w6 ⟨rfl, hb6⟩
      have hc6 := hc5.trans (hb6.mono hc5.size)
      have e3 : (v2 == 0) = false := beq_false_of_ne e2
      go_wp2
      go_ret
      exact ⟨by rw [hres.out]; simp [e2], hc6⟩
  · have e3 : (v1 == 0) = false := beq_false_of_ne e1
    go_wp2
    go_ret
    exact ⟨by rw [hres.out]; simp [e1], hc5⟩

end Go.Proofs.YtmbinnahndiboaaDoor
