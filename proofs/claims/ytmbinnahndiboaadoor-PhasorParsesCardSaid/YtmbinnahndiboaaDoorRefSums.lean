/-
  The reference's within, Add and Mul. By an AI agent.
-/
import Derived.Test.YtmbinnahndiboaaDoorSums
namespace Go.Proofs.YtmbinnahndiboaaDoor
open Go.RowKit Flt
set_option linter.unusedVariables false

set_option maxRecDepth 100000 in
set_option maxHeartbeats 4000000 in
theorem rwithin_yes (a b : Int) (h : InB a b) (w : World) :
    Calls Tryd.prog 33 #[pairV a b] w fun e w' => e = .returned (.bool true) ∧ w' = w.alloc (.cells #[.int .i64 a, .int .i64 b] 29) := by
  unfold pairV
  obtain ⟨⟨h1, h2⟩, h3, h4⟩ := h
  go_enter Tryd.func33, Tryd.ntmps33
  go_wp2
  go_ret
  exact ⟨rfl, rfl⟩

set_option maxRecDepth 100000 in
set_option maxHeartbeats 4000000 in
theorem rwithin_no (a b : Int) (h : ¬ InB a b) (w : World) :
    Calls Tryd.prog 33 #[pairV a b] w fun e w' => e = .returned (.bool false) ∧ w' = w.alloc (.cells #[.int .i64 a, .int .i64 b] 29) := by
  unfold pairV
  have key : ¬ (-1000000 ≤ a) ∨ ((-1000000 ≤ a) ∧ ¬ (a ≤ 1000000)) ∨ ((-1000000 ≤ a) ∧ (a ≤ 1000000) ∧ ¬ (-1000000 ≤ b)) ∨ ((-1000000 ≤ a) ∧ (a ≤ 1000000) ∧ (-1000000 ≤ b) ∧ ¬ (b ≤ 1000000)) := by
    unfold InB at h; omega
  clear h
  rcases key with h1 | ⟨h1, h2⟩ | ⟨h1, h2, h3⟩ | ⟨h1, h2, h3, h4⟩
  all_goals
    go_enter Tryd.func33, Tryd.ntmps33
    go_wp2
    go_ret
    exact ⟨rfl, rfl⟩

/-- What the reference reckons. -/
def rres (n m : Int) (v : Value) : Prop := (InB n m ∧ v = .tuple #[pairV n m, .int .i64 0]) ∨ (¬ InB n m ∧ v = .tuple #[pairV 0 0, .int .i64 3])

theorem below5 (w : World) (o p q r t : Obj) : Below w.heap.size w (((((w.alloc o).alloc p).alloc q).alloc r).alloc t) :=
  (((((Below.refl _ w).alloc (Nat.le_refl _) _).alloc (by simp) _).alloc (by simp <;> omega) _).alloc (by simp <;> omega) _).alloc (by simp <;> omega) _

set_option maxRecDepth 100000 in
set_option maxHeartbeats 4000000 in
theorem radd_any (a b c d : Int) (ha : a.natAbs ≤ 1000000) (hb : b.natAbs ≤ 1000000) (hc : c.natAbs ≤ 1000000) (hd : d.natAbs ≤ 1000000) (w : World) :
    Calls Tryd.prog 20 #[pairV a b, pairV c d] w fun e w' => ∃ v, e = .returned v ∧ rres (a + c) (b + d) v ∧ Below w.heap.size w w' := by
  by_cases h : InB (a + c) (b + d)
  · have hW := fun w => rwithin_yes (a + c) (b + d) h w
    have hres : rres (a + c) (b + d) (.tuple #[.agg #[.int .i64 (a + c), .int .i64 (b + d)], .int .i64 0]) := Or.inl ⟨h, rfl⟩
    replace hres := hide hres
    clear h
    unfold pairV at hW ⊢
    go_enter Tryd.func20, Tryd.ntmps20
    go_wp2_with (go_at_call 33; refine (hW _).mono ?_; rintro e w1 ⟨rfl, rfl⟩)
    (try simp only [Exit.inBlock, Exit.then])
    refine bodyPost_ret (v := .tuple #[.agg #[.int .i64 (a + c), .int .i64 (b + d)], .int .i64 0]) ?_ rfl ⟨_, rfl, hres.out, below5 _ _ _ _ _ _⟩
    rw [results_cell_tmp rfl]
    go_simp
  · have hW := fun w => rwithin_no (a + c) (b + d) h w
    have hres : rres (a + c) (b + d) (.tuple #[.agg #[.int .i64 0, .int .i64 0], .int .i64 3]) := Or.inr ⟨h, rfl⟩
    replace hres := hide hres
    clear h
    unfold pairV at hW ⊢
    go_enter Tryd.func20, Tryd.ntmps20
    go_wp2_with (go_at_call 33; refine (hW _).mono ?_; rintro e w1 ⟨rfl, rfl⟩)
    (try simp only [Exit.inBlock, Exit.then])
    refine bodyPost_ret (v := .tuple #[.agg #[.int .i64 0, .int .i64 0], .int .i64 3]) ?_ rfl ⟨_, rfl, hres.out, below5 _ _ _ _ _ _⟩
    rw [results_cell_tmp rfl]
    go_simp

theorem mul_bounds {a b : Int} (ha : a.natAbs ≤ 1000000) (hb : b.natAbs ≤ 1000000) : -1000000000000 ≤ a * b ∧ a * b ≤ 1000000000000 := by
  have := mul_abs ha hb
  omega

set_option maxRecDepth 100000 in
set_option maxHeartbeats 4000000 in
theorem rmul_any (a b c d : Int) (ha : a.natAbs ≤ 1000000) (hb : b.natAbs ≤ 1000000) (hc : c.natAbs ≤ 1000000) (hd : d.natAbs ≤ 1000000) (w : World) :
    Calls Tryd.prog 21 #[pairV a b, pairV c d] w fun e w' => ∃ v, e = .returned v ∧ rres (a * c - b * d) (a * d + b * c) v ∧ Below w.heap.size w w' := by
  have m1 := mul_bounds ha hc
  have m2 := mul_bounds hb hd
  have m3 := mul_bounds ha hd
  have m4 := mul_bounds hb hc
  have w1 : wrap64 (a * c) = a * c := by unfold wrap64; omega
  have w2 : wrap64 (b * d) = b * d := by unfold wrap64; omega
  have w3 : wrap64 (a * d) = a * d := by unfold wrap64; omega
  have w4 : wrap64 (b * c) = b * c := by unfold wrap64; omega
  by_cases h : InB (a * c - b * d) (a * d + b * c)
  · have hW := fun w => rwithin_yes (a * c - b * d) (a * d + b * c) h w
    have hres : rres (a * c - b * d) (a * d + b * c) (.tuple #[.agg #[.int .i64 (a * c - b * d), .int .i64 (a * d + b * c)], .int .i64 0]) := Or.inl ⟨h, rfl⟩
    replace hres := hide hres
    clear h
    unfold pairV at hW ⊢
    go_enter Tryd.func21, Tryd.ntmps21
    go_wp2_with (go_at_call 33; refine (hW _).mono ?_; rintro e w1 ⟨rfl, rfl⟩)
    (try simp only [Exit.inBlock, Exit.then])
    refine bodyPost_ret (v := .tuple #[.agg #[.int .i64 (a * c - b * d), .int .i64 (a * d + b * c)], .int .i64 0]) ?_ rfl ⟨_, rfl, hres.out, below5 _ _ _ _ _ _⟩
    rw [results_cell_tmp rfl]
    go_simp
  · have hW := fun w => rwithin_no (a * c - b * d) (a * d + b * c) h w
    have hres : rres (a * c - b * d) (a * d + b * c) (.tuple #[.agg #[.int .i64 0, .int .i64 0], .int .i64 3]) := Or.inr ⟨h, rfl⟩
    replace hres := hide hres
    clear h
    unfold pairV at hW ⊢
    go_enter Tryd.func21, Tryd.ntmps21
    go_wp2_with (go_at_call 33; refine (hW _).mono ?_; rintro e w1 ⟨rfl, rfl⟩)
    (try simp only [Exit.inBlock, Exit.then])
    refine bodyPost_ret (v := .tuple #[.agg #[.int .i64 0, .int .i64 0], .int .i64 3]) ?_ rfl ⟨_, rfl, hres.out, below5 _ _ _ _ _ _⟩
    rw [results_cell_tmp rfl]
    go_simp

end Go.Proofs.YtmbinnahndiboaaDoor
