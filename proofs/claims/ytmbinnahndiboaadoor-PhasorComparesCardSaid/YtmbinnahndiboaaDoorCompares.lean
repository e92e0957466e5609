/-
  The walk of PhasorCompares: whatever the words, true. By an AI agent.
-/
import Derived.Test.YtmbinnahndiboaaDoorComp
namespace Go.Proofs.YtmbinnahndiboaaDoor
open Go.RowKit Flt
set_option linter.unusedVariables false

/-- What Compare answers. -/
structure CmpIs (x y u v : Nat) (c : Int) : Prop where
  run : ∀ w, Calls Tryd.prog 25 #[.complex .f64 x y, .complex .f64 u v] w fun e w' => e = .returned (.int .i64 c) ∧ Below w.heap.size w w'

theorem cmp_no (x y u v : Nat) (hx : Word x) (hy : Word y) (hu : Word u) (hv : Word v) (h : NoNum x y ∨ NoNum u v) : CmpIs x y u v 0 := ⟨fun w => compare_arg x y u v hx hy hu hv h w⟩
theorem cmp_yes (x y u v : Nat) (a b c d : Int) (h : Num x y a b) (k : Num u v c d) : CmpIs x y u v (cmpP a b c d) := ⟨fun w => compare_num x y u v a b c d h k w⟩
theorem cmp_is (x y u v : Nat) (hx : Word x) (hy : Word y) (hu : Word u) (hv : Word v) : ∃ c, CmpIs x y u v c := by
  rcases num_or x y hx.lt hy.lt with ⟨a, b, h⟩ | h
  · rcases num_or u v hu.lt hv.lt with ⟨c, d, k⟩ | k
    · exact ⟨_, cmp_yes x y u v a b c d h k⟩
    · exact ⟨0, cmp_no x y u v hx hy hu hv (Or.inr k)⟩
  · exact ⟨0, cmp_no x y u v hx hy hu hv (Or.inl h)⟩

/-- An array of six words lies in block B. -/
structure Ar6 (w : World) (B x y u v s t : Nat) : Prop where
  c0 : w.cell? ⟨B, 0, none⟩ = some (.float .f64 x)
  c1 : w.cell? ⟨B, 1, none⟩ = some (.float .f64 y)
  c2 : w.cell? ⟨B, 2, none⟩ = some (.float .f64 u)
  c3 : w.cell? ⟨B, 3, none⟩ = some (.float .f64 v)
  c4 : w.cell? ⟨B, 4, none⟩ = some (.float .f64 s)
  c5 : w.cell? ⟨B, 5, none⟩ = some (.float .f64 t)

theorem Ar6.new (w : World) (x y u v s t : Nat) (T : TypeId) : Ar6 (w.alloc (.cells #[.float .f64 x, .float .f64 y, .float .f64 u, .float .f64 v, .float .f64 s, .float .f64 t] T)) w.heap.size x y u v s t :=
  ⟨by rw [World.cell?_alloc_at (hn := by simp)]; rfl, by rw [World.cell?_alloc_at (hn := by simp)]; rfl, by rw [World.cell?_alloc_at (hn := by simp)]; rfl,
   by rw [World.cell?_alloc_at (hn := by simp)]; rfl, by rw [World.cell?_alloc_at (hn := by simp)]; rfl, by rw [World.cell?_alloc_at (hn := by simp)]; rfl⟩

theorem Ar6.below {w w' : World} {B x y u v s t : Nat} (h : Ar6 w B x y u v s t) (hlt : B < w.heap.size) (hb : Below w.heap.size w w') : Ar6 w' B x y u v s t :=
  ⟨(hb.cell (p := ⟨B, 0, none⟩) hlt).trans h.c0, (hb.cell (p := ⟨B, 1, none⟩) hlt).trans h.c1, (hb.cell (p := ⟨B, 2, none⟩) hlt).trans h.c2,
   (hb.cell (p := ⟨B, 3, none⟩) hlt).trans h.c3, (hb.cell (p := ⟨B, 4, none⟩) hlt).trans h.c4, (hb.cell (p := ⟨B, 5, none⟩) hlt).trans h.c5⟩

/-- What Norm answers. -/
structure NormIs (x y : Nat) (n : Int) : Prop where
  run : ∀ w, Calls Tryd.prog 22 #[.complex .f64 x y] w fun e w' => e = .returned (.int .i64 n) ∧ Below w.heap.size w w'

set_option maxRecDepth 100000 in
set_option maxHeartbeats 8000000 in
/-- One of the first two is no number. -/
theorem comp_arg (x y u v s t : Nat) (p q p' q' : Int) (k m : Bool) (n A B : Int) (hz : OfIs x y p q k) (hw : OfIs u v p' q' m)
    (hkm : (k = false ∧ n = -1) ∨ (k = true ∧ m = false ∧ n = p * p + q * q ∧ (-1000000 ≤ p ∧ p ≤ 1000000) ∧ (-1000000 ≤ q ∧ q ≤ 1000000)))
    (hn : NormIs x y n) (h1 : CmpIs u v s t A) (h2 : CmpIs x y s t B) (h3 : CmpIs x y u v 0) (h4 : CmpIs u v x y 0) (w : World) (hT : Tabs w) :
    Calls Tryd.prog 8 #[.agg #[.float .f64 x, .float .f64 y, .float .f64 u, .float .f64 v, .float .f64 s, .float .f64 t]] w fun e w' => e = .returned (.bool true) ∧ Below w.heap.size w w' := by
  have hO1 := hz.run
  have hO2 := hw.run
  have hN := hn.run
  have hA := h1.run
  have hB := h2.run
  have hC := h3.run
  have hD := h4.run
  clear hz hw hn h1 h2 h3 h4
  go_enter Tryd.func8, Tryd.ntmps8
  go_wp2_with (go_at_call 9; fail)
  refine (awake_any _ (hT.below (below1 w _))).mono ?_
  rintro en w1 ⟨rfl, hb1⟩
  have ar := (Ar6.new w x y u v s t 51).below (by simp) hb1
  have hc1 := below_of_alloc hb1
  obtain ⟨a0, a1, a2, a3, a4, a5⟩ := ar
  clear hb1 hT
  go_wp2
  go_quiet (fail)
  go_wp2_with (go_at_call 11; fail)
  refine (hO1 _).mono ?_
  rintro en w6 ⟨rfl, hb6⟩
  have hc6 := hc1.trans ((below_of_drewN hb6).mono hc1.size)
  have hP6 := Pr.new w6 p q
  clear hb6 a0 a1 a2 a3 a4 a5
  go_wp2_with (go_at_call 11; fail)
  have hc6' := hc6.trans ((below1 w6 (.cells #[.int .i64 p, .int .i64 q] 29)).mono hc6.size)
  generalize w6.alloc (.cells #[.int .i64 p, .int .i64 q] 29) = v6 at *
  generalize w6.heap.size = B1 at *
  refine (hO2 _).mono ?_
  rintro en w7 ⟨rfl, hb7⟩
  have hc7 := hc6'.trans (hb7.mono hc6'.size)
  have hP8 := (hP6.below hb7).old (.cells #[.int .i64 p', .int .i64 q'] 29)
  clear hb7 hP6 hc6'
  obtain ⟨q0, q1, _⟩ := id hP8
  rcases hkm with ⟨rfl, rfl⟩ | ⟨rfl, rfl, rfl, hp, hq⟩
  · go_wp2_with (go_at_call 25; fail)
    have hc7' := hc7.trans ((below1 w7 (.cells #[.int .i64 p', .int .i64 q'] 29)).mono hc7.size)
    clear q0 q1 hP8
    generalize w7.alloc (.cells #[.int .i64 p', .int .i64 q'] 29) = v7 at *
    refine (hA _).mono ?_
    rintro en w8 ⟨rfl, hb8⟩
    have hc8 := hc7'.trans (hb8.mono hc7'.size)
    clear hb8
    go_wp2_with (go_at_call 25; fail)
    refine (hB _).mono ?_
    rintro en w9 ⟨rfl, hb9⟩
    have hc9 := hc8.trans (hb9.mono hc8.size)
    clear hb9
    go_wp2_with (go_at_call 22; fail)
    refine (hN _).mono ?_
    rintro en w10 ⟨rfl, hb10⟩
    have hc10 := hc9.trans (hb10.mono hc9.size)
    clear hb10
    go_wp2_with (go_at_call 25; fail)
    refine (hC _).mono ?_
    rintro en w11 ⟨rfl, hb11⟩
    have hc11 := hc10.trans (hb11.mono hc10.size)
    clear hb11
    go_wp2_with (go_at_call 25; fail)
    refine (hD _).mono ?_
    rintro en w12 ⟨rfl, hb12⟩
    have hc12 := hc11.trans (hb12.mono hc11.size)
    clear hb12
    go_wp2
    go_ret
    exact ⟨rfl, hc12⟩
  · have hRN := fun w => rnorm_bel p q hp hq w
    generalize p * p + q * q = n at *
    go_wp2_with (go_at_call 23; fail)
    have hc7' := hc7.trans ((below1 w7 (.cells #[.int .i64 p', .int .i64 q'] 29)).mono hc7.size)
    clear q0 q1 hP8
    generalize w7.alloc (.cells #[.int .i64 p', .int .i64 q'] 29) = v7 at *
    refine (hRN _).mono ?_
    rintro en v8 ⟨rfl, hbn⟩
    have hc7n := hc7'.trans (hbn.mono hc7'.size)
    clear hbn
    go_wp2_with (go_at_call 25; fail)
    refine (hA _).mono ?_
    rintro en w8 ⟨rfl, hb8⟩
    have hc8 := hc7n.trans (hb8.mono hc7n.size)
    clear hb8
    go_wp2_with (go_at_call 25; fail)
    refine (hB _).mono ?_
    rintro en w9 ⟨rfl, hb9⟩
    have hc9 := hc8.trans (hb9.mono hc8.size)
    clear hb9
    go_wp2_with (go_at_call 22; fail)
    refine (hN _).mono ?_
    rintro en w10 ⟨rfl, hb10⟩
    have hc10 := hc9.trans (hb10.mono hc9.size)
    clear hb10
    go_wp2_with (go_at_call 25; fail)
    refine (hC _).mono ?_
    rintro en w11 ⟨rfl, hb11⟩
    have hc11 := hc10.trans (hb11.mono hc10.size)
    clear hb11
    go_wp2_with (go_at_call 25; fail)
    refine (hD _).mono ?_
    rintro en w12 ⟨rfl, hb12⟩
    have hc12 := hc11.trans (hb12.mono hc11.size)
    clear hb12
    go_wp2
    go_ret
    exact ⟨rfl, hc12⟩

set_option maxRecDepth 100000 in
set_option maxHeartbeats 8000000 in
/-- The first two are numbers. -/
theorem comp_num (x y u v s t : Nat) (p q p' q' : Int) (n A B c : Int) (F : Bool) (hz : OfIs x y p q true) (hw : OfIs u v p' q' true)
    (hp : -1000000 ≤ p ∧ p ≤ 1000000) (hq : -1000000 ≤ q ∧ q ≤ 1000000) (hp' : -1000000 ≤ p' ∧ p' ≤ 1000000) (hq' : -1000000 ≤ q' ∧ q' ≤ 1000000)
    (hnn : p * p + q * q = n) (hcc : cmpP p q p' q' = c) (hcr : -1 ≤ c ∧ c ≤ 1)
    (hF : ∀ w, Calls Tryd.prog 12 #[.complex .f64 s t] w fun e w' => e = .returned (.bool F) ∧ Below w.heap.size w w')
    (hth : F = false ∨ (F = true ∧ 0 < c) ∨ (F = true ∧ ¬ 0 < c ∧ 0 < A) ∨ (F = true ∧ ¬ 0 < c ∧ ¬ 0 < A ∧ B ≤ 0))
    (hn : NormIs x y n) (h1 : CmpIs u v s t A) (h2 : CmpIs x y s t B) (h3 : CmpIs x y u v c) (h4 : CmpIs u v x y (-c)) (w : World) (hT : Tabs w) :
    Calls Tryd.prog 8 #[.agg #[.float .f64 x, .float .f64 y, .float .f64 u, .float .f64 v, .float .f64 s, .float .f64 t]] w fun e w' => e = .returned (.bool true) ∧ Below w.heap.size w w' := by
  have hO1 := hz.run
  have hO2 := hw.run
  have hN := hn.run
  have hA := h1.run
  have hB := h2.run
  have hC := h3.run
  have hD := h4.run
  have hRN := fun w => rnorm_bel p q hp hq w
  have hRC := fun w => rcompare_any p q p' q' hp hq hp' hq' w
  rw [hnn] at hRN
  rw [hcc] at hRC
  have wneg : wrap64 (-c) = -c := by unfold wrap64; omega
  clear hz hw hn h1 h2 h3 h4 hnn hcc hp hq hp' hq'
  replace hth := hide hth
  go_enter Tryd.func8, Tryd.ntmps8
  go_wp2_with (go_at_call 9; fail)
  refine (awake_any _ (hT.below (below1 w _))).mono ?_
  rintro en w1 ⟨rfl, hb1⟩
  have ar := (Ar6.new w x y u v s t 51).below (by simp) hb1
  have hc1 := below_of_alloc hb1
  obtain ⟨a0, a1, a2, a3, a4, a5⟩ := ar
  clear hb1 hT
  go_wp2
  go_quiet (fail)
  go_wp2_with (go_at_call 11; fail)
  refine (hO1 _).mono ?_
  rintro en w6 ⟨rfl, hb6⟩
  have hc6 := hc1.trans ((below_of_drewN hb6).mono hc1.size)
  have hP6 := Pr.new w6 p q
  clear hb6 a0 a1 a2 a3 a4 a5
  go_wp2_with (go_at_call 11; fail)
  have hc6' := hc6.trans ((below1 w6 (.cells #[.int .i64 p, .int .i64 q] 29)).mono hc6.size)
  generalize w6.alloc (.cells #[.int .i64 p, .int .i64 q] 29) = v6 at *
  generalize w6.heap.size = B1 at *
  refine (hO2 _).mono ?_
  rintro en w7 ⟨rfl, hb7⟩
  have hc7 := hc6'.trans (hb7.mono hc6'.size)
  have hP8 := (hP6.below hb7).old (.cells #[.int .i64 p', .int .i64 q'] 29)
  have hQ8 := Pr.new w7 p' q'
  clear hb7 hP6 hc6'
  obtain ⟨q0, q1, _⟩ := id hP8
  go_wp2_with (go_at_call 23; fail)
  have hc7' := hc7.trans ((below1 w7 (.cells #[.int .i64 p', .int .i64 q'] 29)).mono hc7.size)
  clear q0 q1
  generalize w7.alloc (.cells #[.int .i64 p', .int .i64 q'] 29) = v7 at *
  generalize w7.heap.size = B2 at *
  refine (hRN _).mono ?_
  rintro en v8 ⟨rfl, hbn⟩
  have hc7n := hc7'.trans (hbn.mono hc7'.size)
  obtain ⟨q0, q1, _⟩ := hP8.below hbn
  obtain ⟨q2, q3, _⟩ := hQ8.below hbn
  clear hbn hP8 hQ8
  go_wp2_with (go_at_call 24; fail)
  clear q0 q1 q2 q3
  refine (hRC _).mono ?_
  rintro en v9 ⟨rfl, hbc⟩
  have hc7c := hc7n.trans (hbc.mono hc7n.size)
  clear hbc
  go_wp2_with (go_at_call 25; fail)
  refine (hA _).mono ?_
  rintro en w8 ⟨rfl, hb8⟩
  have hc8 := hc7c.trans (hb8.mono hc7c.size)
  clear hb8
  go_wp2_with (go_at_call 25; fail)
  refine (hB _).mono ?_
  rintro en w9 ⟨rfl, hb9⟩
  have hc9 := hc8.trans (hb9.mono hc8.size)
  clear hb9
  go_wp2_with (go_at_call 12; fail)
  refine (hF _).mono ?_
  rintro en wf ⟨rfl, hbf⟩
  have hcf := hc9.trans (hbf.mono hc9.size)
  clear hbf hF hA hB hRC hRN hO1 hO2
  rcases hth.out with rfl | ⟨rfl, t1⟩ | ⟨rfl, t1, t2⟩ | ⟨rfl, t1, t2, t3⟩
  all_goals
    go_wp2_with (go_at_call 22; fail)
    refine (hN _).mono ?_
    rintro en w10 ⟨rfl, hb10⟩
    have hc10 := hcf.trans (hb10.mono hcf.size)
    clear hb10
    go_wp2_with (go_at_call 25; fail)
    refine (hC _).mono ?_
    rintro en w11 ⟨rfl, hb11⟩
    have hc11 := hc10.trans (hb11.mono hc10.size)
    clear hb11
    go_wp2_with (go_at_call 25; fail)
    refine (hD _).mono ?_
    rintro en w12 ⟨rfl, hb12⟩
    have hc12 := hc11.trans (hb12.mono hc11.size)
    clear hb12
    go_wp2
    go_ret
    exact ⟨rfl, hc12⟩

theorem num_b {x y : Nat} {a b : Int} (h : Num x y a b) : (-1000000 ≤ a ∧ a ≤ 1000000) ∧ (-1000000 ≤ b ∧ b ≤ 1000000) := ⟨⟨h.1.2.2.1, h.1.2.2.2⟩, h.2.2.2.1, h.2.2.2.2⟩

theorem compares_any (x y u v s t : Nat) (hx : x < 2 ^ 64) (hy : y < 2 ^ 64) (hu : u < 2 ^ 64) (hv : v < 2 ^ 64) (hs : s < 2 ^ 64) (ht : t < 2 ^ 64) (w : World) (hT : Tabs w) :
    Calls Tryd.prog 8 #[.agg #[.float .f64 x, .float .f64 y, .float .f64 u, .float .f64 v, .float .f64 s, .float .f64 t]] w fun e w' => e = .returned (.bool true) ∧ Below w.heap.size w w' := by
  obtain ⟨A, hA⟩ := cmp_is u v s t ⟨hu⟩ ⟨hv⟩ ⟨hs⟩ ⟨ht⟩
  obtain ⟨B, hB⟩ := cmp_is x y s t ⟨hx⟩ ⟨hy⟩ ⟨hs⟩ ⟨ht⟩
  rcases num_or x y hx hy with ⟨a, b, h⟩ | h
  · rcases num_or u v hu hv with ⟨c, d, k⟩ | k
    · have hc := cmp3_range (a * a + b * b) a b (c * c + d * d) c d
      have h4 := cmp_yes u v x y c d a b k h
      have e4 : cmpP c d a b = -cmpP a b c d := cmp3_swap _ _ _ _ _ _
      rw [e4] at h4
      rcases num_or s t hs ht with ⟨e, f, l⟩ | l
      · refine comp_num x y u v s t a b c d (a * a + b * b) _ _ (cmpP a b c d) true (of_yes' x y a b h) (of_yes' u v c d k) (num_b h).1 (num_b h).2 (num_b k).1 (num_b k).2 rfl rfl hc (fun w => formed_yes s t e f l w) ?_
          ⟨fun w => norm_yes x y a b h w⟩ (cmp_yes u v s t c d e f k l) (cmp_yes x y s t a b e f h l) (cmp_yes x y u v a b c d h k) h4 w hT
        by_cases t1 : 0 < cmpP a b c d
        · exact Or.inr (Or.inl ⟨rfl, t1⟩)
        · by_cases t2 : 0 < cmpP c d e f
          · exact Or.inr (Or.inr (Or.inl ⟨rfl, t1, t2⟩))
          · exact Or.inr (Or.inr (Or.inr ⟨rfl, t1, t2, cmp3_trans (Int.not_lt.1 t1) (Int.not_lt.1 t2)⟩))
      · exact comp_num x y u v s t a b c d (a * a + b * b) _ _ (cmpP a b c d) false (of_yes' x y a b h) (of_yes' u v c d k) (num_b h).1 (num_b h).2 (num_b k).1 (num_b k).2 rfl rfl hc (fun w => formed_no s t ⟨hs⟩ ⟨ht⟩ l w) (Or.inl rfl)
          ⟨fun w => norm_yes x y a b h w⟩ hA hB (cmp_yes x y u v a b c d h k) h4 w hT
    · exact comp_arg x y u v s t a b 0 0 true false (a * a + b * b) A B (of_yes' x y a b h) (of_no' u v ⟨hu⟩ ⟨hv⟩ k) (Or.inr ⟨rfl, rfl, rfl, num_b h⟩)
        ⟨fun w => norm_yes x y a b h w⟩ hA hB (cmp_no x y u v ⟨hx⟩ ⟨hy⟩ ⟨hu⟩ ⟨hv⟩ (Or.inr k)) (cmp_no u v x y ⟨hu⟩ ⟨hv⟩ ⟨hx⟩ ⟨hy⟩ (Or.inl k)) w hT
  · obtain ⟨p', q', m, hw⟩ := of_is u v ⟨hu⟩ ⟨hv⟩
    exact comp_arg x y u v s t 0 0 p' q' false m (-1) A B (of_no' x y ⟨hx⟩ ⟨hy⟩ h) hw (Or.inl ⟨rfl, rfl⟩)
      ⟨fun w => norm_no x y ⟨hx⟩ ⟨hy⟩ h w⟩ hA hB (cmp_no x y u v ⟨hx⟩ ⟨hy⟩ ⟨hu⟩ ⟨hv⟩ (Or.inl h)) (cmp_no u v x y ⟨hu⟩ ⟨hv⟩ ⟨hx⟩ ⟨hy⟩ (Or.inr h)) w hT

end Go.Proofs.YtmbinnahndiboaaDoor
