/-
  The walk of PhasorWhole: whatever the integers, true. By an AI agent.
-/
import Derived.Test.YtmbinnahndiboaaDoorNorm
import Derived.Test.YtmbinnahndiboaaDoorBack
namespace Go.Proofs.YtmbinnahndiboaaDoor
open Go.RowKit Flt
set_option linter.unusedVariables false

/-- A pair lies in block B. -/
structure Pr (w : World) (B : Nat) (a b : Int) : Prop where
  c0 : w.cell? ⟨B, 0, none⟩ = some (.int .i64 a)
  c1 : w.cell? ⟨B, 1, none⟩ = some (.int .i64 b)
  lt : B < w.heap.size

theorem Pr.below {w w' : World} {B : Nat} {a b : Int} (h : Pr w B a b) (hb : Below w.heap.size w w') : Pr w' B a b :=
  ⟨(hb.cell (p := ⟨B, 0, none⟩) h.lt).trans h.c0, (hb.cell (p := ⟨B, 1, none⟩) h.lt).trans h.c1, Nat.lt_of_lt_of_le h.lt hb.size⟩
theorem Pr.drew {w : World} {B : Nat} {a b : Int} (h : Pr w B a b) : Pr w.drew B a b := ⟨h.c0, h.c1, h.lt⟩
theorem Pr.up {w W : World} {B : Nat} {a b : Int} (h : Pr w B a b) (hW : upOf w W) : Pr W B a b := h.below hW
theorem Pr.new (w : World) (a b : Int) : Pr (w.alloc (.cells #[.int .i64 a, .int .i64 b] 29)) w.heap.size a b :=
  ⟨by rw [World.cell?_alloc_at (hn := by simp)]; rfl, by rw [World.cell?_alloc_at (hn := by simp)]; rfl, by simp⟩
theorem Pr.old {w : World} {B : Nat} {a b : Int} (h : Pr w B a b) (o : Obj) : Pr (w.alloc o) B a b := h.below (below1 w o)

theorem z_bel (a b : Int) (w : World) :
    Calls Tryd.prog 17 #[.agg #[.int .i64 a, .int .i64 b]] w fun e w' => e = .returned (.complex .f64 (fl a) (fl b)) ∧ Below w.heap.size w w' := by
  refine (z_at a b w).mono ?_
  rintro e w' ⟨rfl, rfl⟩
  exact ⟨rfl, below1 _ _⟩

theorem rnorm_bel (a b : Int) (ha : -1000000 ≤ a ∧ a ≤ 1000000) (hb : -1000000 ≤ b ∧ b ≤ 1000000) (w : World) :
    Calls Tryd.prog 23 #[.agg #[.int .i64 a, .int .i64 b]] w fun e w' => e = .returned (.int .i64 (a * a + b * b)) ∧ Below w.heap.size w w' := by
  refine (rnorm_any a b ha hb w).mono ?_
  rintro e w' ⟨rfl, rfl⟩
  exact ⟨rfl, below1 _ _⟩

theorem tmod_700 (x : Int) : -699 ≤ x.tmod 700 ∧ x.tmod 700 ≤ 699 := by
  have h1 := Int.tmod_lt_of_pos x (show (0 : Int) < 700 by omega)
  have h2 := Int.tmod_lt_of_pos (-x) (show (0 : Int) < 700 by omega)
  rw [Int.neg_tmod] at h2
  omega

theorem small_mul {a b : Int} (ha : -699 ≤ a ∧ a ≤ 699) (hb : -699 ≤ b ∧ b ≤ 699) : -488601 ≤ a * b ∧ a * b ≤ 488601 := by
  have h : (a * b).natAbs ≤ 699 * 699 := by rw [Int.natAbs_mul]; exact Nat.mul_le_mul (by omega) (by omega)
  omega

theorem norm_prod (p q r s : Int) : (p * r - q * s) * (p * r - q * s) + (p * s + q * r) * (p * s + q * r) = (p * p + q * q) * (r * r + s * s) := by grind

set_option maxRecDepth 100000 in
set_option maxHeartbeats 8000000 in
theorem whole_any (a b c d : Int) (w : World) (hT : Tabs w) :
    Calls Tryd.prog 7 #[.int .i16 a, .int .i16 b, .int .i16 c, .int .i16 d] w fun e w' => e = .returned (.bool true) ∧ Below w.heap.size w w' := by
  have hp := tmod_700 a
  have hq := tmod_700 b
  have hr := tmod_700 c
  have hs := tmod_700 d
  generalize hpe : a.tmod 700 = p at hp
  generalize hqe : b.tmod 700 = q at hq
  generalize hre : c.tmod 700 = r at hr
  generalize hse : d.tmod 700 = s at hs
  have wp : wrap64 p = p := by unfold wrap64; omega
  have wq : wrap64 q = q := by unfold wrap64; omega
  have wr : wrap64 r = r := by unfold wrap64; omega
  have ws : wrap64 s = s := by unfold wrap64; omega
  have sp : Small p := ⟨by omega, by omega⟩
  have sq : Small q := ⟨by omega, by omega⟩
  have sr : Small r := ⟨by omega, by omega⟩
  have ss : Small s := ⟨by omega, by omega⟩
  have nz := num_fl sp sq
  have nw := num_fl sr ss
  have pr := small_mul hp hr
  have qs := small_mul hq hs
  have ps := small_mul hp hs
  have qr := small_mul hq hr
  obtain ⟨X, Y, hX, fX, fY⟩ := c_add nz nw
  obtain ⟨U', V', U, V, hU', hU, fU, fV⟩ := c_mul nz nw
  have inA : InB (p + r) (q + s) := ⟨⟨by omega, by omega⟩, by omega, by omega⟩
  have inM : InB (p * r - q * s) (p * s + q * r) := ⟨⟨by omega, by omega⟩, by omega, by omega⟩
  have hA : ∀ w, Calls Tryd.prog 18 #[.complex .f64 (fl p) (fl q), .complex .f64 (fl r) (fl s)] w fun e w' => e = .returned (.tuple #[.complex .f64 X Y, .int .i64 0]) ∧ Below w.heap.size w w' := fun w => by
    refine (add_num _ _ _ _ p q r s nz nw X Y hX fX fY w).mono ?_
    rintro e w' ⟨v, rfl, hv, hb⟩
    rcases hv with ⟨_, rfl⟩ | ⟨h, _⟩
    · exact ⟨rfl, hb⟩
    · exact absurd inA h
  have hM : ∀ w, Calls Tryd.prog 19 #[.complex .f64 (fl p) (fl q), .complex .f64 (fl r) (fl s)] w fun e w' => e = .returned (.tuple #[.complex .f64 U V, .int .i64 0]) ∧ Below w.heap.size w w' := fun w => by
    refine (mul_num _ _ _ _ p q r s nz nw U' V' U V hU' hU fU fV w).mono ?_
    rintro e w' ⟨v, rfl, hv, hb⟩
    rcases hv with ⟨_, rfl⟩ | ⟨h, _⟩
    · exact ⟨rfl, hb⟩
    · exact absurd inM h
  have hF1 := fun w => formed_yes X Y _ _ (fw_num fX fY inA) w
  have hF2 := fun w => formed_yes U V _ _ (fw_num fU fV inM) w
  have hN := fun w => norm_yes U V _ _ (fw_num fU fV inM) w
  rw [norm_prod] at hN
  have hn1 := fun w => rnorm_bel p q ⟨by omega, by omega⟩ ⟨by omega, by omega⟩ w
  have hn2 := fun w => rnorm_bel r s ⟨by omega, by omega⟩ ⟨by omega, by omega⟩ w
  have hz1 := fun w => z_bel p q w
  have hz2 := fun w => z_bel r s w
  have pp := small_mul hp hp
  have qq := small_mul hq hq
  have rr := small_mul hr hr
  have ss2 := small_mul hs hs
  have wN : wrap64 ((p * p + q * q) * (r * r + s * s)) = (p * p + q * q) * (r * r + s * s) := by
    have h : ((p * p + q * q) * (r * r + s * s)).natAbs ≤ 977202 * 977202 := by rw [Int.natAbs_mul]; exact Nat.mul_le_mul (by omega) (by omega)
    unfold wrap64; omega
  generalize (p * p + q * q) = n1 at hN hn1 wN
  generalize (r * r + s * s) = n2 at hN hn2 wN
  generalize hn3 : n1 * n2 = n3 at hN
  rw [hn3] at wN
  have w9 : IntKind.i64.wrap n3 = n3 := by
    have h9 := wN
    unfold wrap64 at h9
    rw [IntKind.wrap_i64]; exact h9
  generalize hfp : fl p = P at *
  generalize hfq : fl q = Q at *
  generalize hfr : fl r = R at *
  generalize hfs : fl s = S at *
  clear hfp hfq hfr hfs hp hq hr hs sp sq sr ss nz nw pr qs ps qr hX fX fY hU' hU fU fV inA inM pp qq rr ss2
  go_enter Tryd.func7, Tryd.ntmps7
  go_wp2_with (go_at_call 9; refine (awake_any _ hT).mono ?_; rintro e w1 ⟨rfl, hb1⟩)
  have hP0 := (Pr.new w1 p q).old (.cells #[.int .i64 r, .int .i64 s] 29)
  have hQ0 := Pr.new (w1.alloc (.cells #[.int .i64 p, .int .i64 q] 29)) r s
  have hc0 := hb1.trans ((below2 w1 (.cells #[.int .i64 p, .int .i64 q] 29) (.cells #[.int .i64 r, .int .i64 s] 29)).mono hb1.size)
  have hsz : (w1.alloc (.cells #[.int .i64 p, .int .i64 q] 29)).heap.size = w1.heap.size + 1 := by simp
  rw [hsz] at hQ0
  clear hT hb1 hsz
  generalize (w1.alloc (.cells #[.int .i64 p, .int .i64 q] 29)).alloc (.cells #[.int .i64 r, .int .i64 s] 29) = w2 at *
  generalize w1.heap.size + 1 = B2 at *
  generalize w1.heap.size = B1 at *
  replace hP0 := hP0.drew
  replace hQ0 := hQ0.drew
  replace hc0 := hc0.drew
  refine grow_begin (by kernel_rfl) ?_
  refine grow_take 0 (some 32) (v := ?va0) rfl rfl (by kernel_rfl) (by kernel_rfl) (by kernel_rfl) (fun _ _ _ h => h) (by rfl) (fun W hW => ?ya0) ?_
  case ya0 =>
    have h0 := (hP0.up hW).c0
    have h1 := (hP0.up hW).c1
    go_simp <;> with_reducible rfl
  try simp only [Act.put, List.setIfInBounds_toArray, List.set_cons_zero, List.set_cons_succ]
  refine grow_take 2 (some 34) (v := ?va2) rfl rfl (by kernel_rfl) (by kernel_rfl) (by kernel_rfl) (fun _ _ _ h => h) (by rfl) (fun W hW => ?ya2) ?_
  case ya2 =>
    have h0 := (hQ0.up hW).c0
    have h1 := (hQ0.up hW).c1
    go_simp <;> with_reducible rfl
  try simp only [Act.put, List.setIfInBounds_toArray, List.set_cons_zero, List.set_cons_succ]
  refine grow_only 1 rfl (by kernel_rfl) (fun K hK => ?_)
  go_simp
  refine (hz1 _).mono ?_
  rintro e w3 ⟨rfl, hb3⟩
  refine hK.out _ _ hb3 ?_
  clear hK K
  try simp only [Act.put, List.setIfInBounds_toArray, List.set_cons_zero, List.set_cons_succ]
  have hc3 := hc0.trans (hb3.mono hc0.size)
  have hP3 := hP0.below hb3
  have hQ3 := hQ0.below hb3
  refine grow_only 3 rfl (by kernel_rfl) (fun K hK => ?_)
  go_simp
  refine (hz2 _).mono ?_
  rintro e w4 ⟨rfl, hb4⟩
  refine hK.out _ _ hb4 ?_
  clear hK K
  try simp only [Act.put, List.setIfInBounds_toArray, List.set_cons_zero, List.set_cons_succ]
  have hc4 := hc3.trans (hb4.mono hc3.size)
  have hP4 := hP3.below hb4
  have hQ4 := hQ3.below hb4
  refine grow_only 4 rfl (by kernel_rfl) (fun K hK => ?_)
  go_simp
  refine (hA _).mono ?_
  rintro e w5 ⟨rfl, hb5⟩
  refine hK.out _ _ hb5 ?_
  clear hK K
  try simp only [Act.put, List.setIfInBounds_toArray, List.set_cons_zero, List.set_cons_succ]
  have hc5 := hc4.trans (hb5.mono hc4.size)
  have hP5 := hP4.below hb5
  have hQ5 := hQ4.below hb5
  refine grow_take 5 (some 31) (v := ?va5) rfl rfl (by kernel_rfl) (by kernel_rfl) (by kernel_rfl) (fun _ _ _ h => h) (by rfl) (fun W hW => ?ya5) ?_
  case ya5 =>
    go_simp <;> with_reducible rfl
  try simp only [Act.put, List.setIfInBounds_toArray, List.set_cons_zero, List.set_cons_succ]
  refine grow_take 6 (some 37) (v := ?va6) rfl rfl (by kernel_rfl) (by kernel_rfl) (by kernel_rfl) (fun _ _ _ h => h) (by rfl) (fun W hW => ?ya6) ?_
  case ya6 =>
    go_simp <;> with_reducible rfl
  try simp only [Act.put, List.setIfInBounds_toArray, List.set_cons_zero, List.set_cons_succ]
  refine grow_take 7 (some 38) (v := ?va7) rfl rfl (by kernel_rfl) (by kernel_rfl) (by kernel_rfl) (fun _ _ _ h => h) (by rfl) (fun W hW => ?ya7) ?_
  case ya7 =>
    go_simp <;> with_reducible rfl
  try simp only [Act.put, List.setIfInBounds_toArray, List.set_cons_zero, List.set_cons_succ]
  refine grow_take 8 (some 11) (v := ?va8) rfl rfl (by kernel_rfl) (by kernel_rfl) (by kernel_rfl) (fun _ _ _ h => h) (by rfl) (fun W hW => ?ya8) ?_
  case ya8 =>
    go_simp <;> with_reducible rfl
  try simp only [Act.put, List.setIfInBounds_toArray, List.set_cons_zero, List.set_cons_succ]
  refine grow_take 9 (some 12) (v := ?va9) rfl rfl (by kernel_rfl) (by kernel_rfl) (by kernel_rfl) (fun _ _ _ h => h) (by rfl) (fun W hW => ?ya9) ?_
  case ya9 =>
    go_simp <;> with_reducible rfl
  try simp only [Act.put, List.setIfInBounds_toArray, List.set_cons_zero, List.set_cons_succ]
  refine grow_done (by kernel_rfl) ?_ _
  go_wp2
  replace hP5 := hP5.drew
  replace hQ5 := hQ5.drew
  replace hc5 := hc5.drew
  refine grow_begin (by kernel_rfl) ?_
  refine grow_take 0 (some 40) (v := ?vb0) rfl rfl (by kernel_rfl) (by kernel_rfl) (by kernel_rfl) (fun _ _ _ h => h) (by rfl) (fun W hW => ?yb0) ?_
  case yb0 =>
    have h0 := (hP5.up hW).c0
    have h1 := (hP5.up hW).c1
    go_simp <;> with_reducible rfl
  try simp only [Act.put, List.setIfInBounds_toArray, List.set_cons_zero, List.set_cons_succ]
  refine grow_take 2 (some 42) (v := ?vb2) rfl rfl (by kernel_rfl) (by kernel_rfl) (by kernel_rfl) (fun _ _ _ h => h) (by rfl) (fun W hW => ?yb2) ?_
  case yb2 =>
    have h0 := (hQ5.up hW).c0
    have h1 := (hQ5.up hW).c1
    go_simp <;> with_reducible rfl
  try simp only [Act.put, List.setIfInBounds_toArray, List.set_cons_zero, List.set_cons_succ]
  refine grow_only 1 rfl (by kernel_rfl) (fun K hK => ?_)
  go_simp
  refine (hz1 _).mono ?_
  rintro e w6 ⟨rfl, hb6⟩
  refine hK.out _ _ hb6 ?_
  clear hK K
  try simp only [Act.put, List.setIfInBounds_toArray, List.set_cons_zero, List.set_cons_succ]
  have hc6 := hc5.trans (hb6.mono hc5.size)
  have hP6 := hP5.below hb6
  have hQ6 := hQ5.below hb6
  refine grow_only 3 rfl (by kernel_rfl) (fun K hK => ?_)
  go_simp
  refine (hz2 _).mono ?_
  rintro e w7 ⟨rfl, hb7⟩
  refine hK.out _ _ hb7 ?_
  clear hK K
  try simp only [Act.put, List.setIfInBounds_toArray, List.set_cons_zero, List.set_cons_succ]
  have hc7 := hc6.trans (hb7.mono hc6.size)
  have hP7 := hP6.below hb7
  have hQ7 := hQ6.below hb7
  refine grow_only 4 rfl (by kernel_rfl) (fun K hK => ?_)
  go_simp
  refine (hM _).mono ?_
  rintro e w8 ⟨rfl, hb8⟩
  refine hK.out _ _ hb8 ?_
  clear hK K
  try simp only [Act.put, List.setIfInBounds_toArray, List.set_cons_zero, List.set_cons_succ]
  have hc8 := hc7.trans (hb8.mono hc7.size)
  have hP8 := hP7.below hb8
  have hQ8 := hQ7.below hb8
  refine grow_take 5 (some 39) (v := ?vb5) rfl rfl (by kernel_rfl) (by kernel_rfl) (by kernel_rfl) (fun _ _ _ h => h) (by rfl) (fun W hW => ?yb5) ?_
  case yb5 =>
    go_simp <;> with_reducible rfl
  try simp only [Act.put, List.setIfInBounds_toArray, List.set_cons_zero, List.set_cons_succ]
  refine grow_take 6 (some 45) (v := ?vb6) rfl rfl (by kernel_rfl) (by kernel_rfl) (by kernel_rfl) (fun _ _ _ h => h) (by rfl) (fun W hW => ?yb6) ?_
  case yb6 =>
    go_simp <;> with_reducible rfl
  try simp only [Act.put, List.setIfInBounds_toArray, List.set_cons_zero, List.set_cons_succ]
  refine grow_take 7 (some 46) (v := ?vb7) rfl rfl (by kernel_rfl) (by kernel_rfl) (by kernel_rfl) (fun _ _ _ h => h) (by rfl) (fun W hW => ?yb7) ?_
  case yb7 =>
    go_simp <;> with_reducible rfl
  try simp only [Act.put, List.setIfInBounds_toArray, List.set_cons_zero, List.set_cons_succ]
  refine grow_take 8 (some 13) (v := ?vb8) rfl rfl (by kernel_rfl) (by kernel_rfl) (by kernel_rfl) (fun _ _ _ h => h) (by rfl) (fun W hW => ?yb8) ?_
  case yb8 =>
    go_simp <;> with_reducible rfl
  try simp only [Act.put, List.setIfInBounds_toArray, List.set_cons_zero, List.set_cons_succ]
  refine grow_take 9 (some 14) (v := ?vb9) rfl rfl (by kernel_rfl) (by kernel_rfl) (by kernel_rfl) (fun _ _ _ h => h) (by rfl) (fun W hW => ?yb9) ?_
  case yb9 =>
    go_simp <;> with_reducible rfl
  try simp only [Act.put, List.setIfInBounds_toArray, List.set_cons_zero, List.set_cons_succ]
  refine grow_done (by kernel_rfl) ?_ _
  go_wp2
  replace hP8 := hP8.drew
  replace hQ8 := hQ8.drew
  replace hc8 := hc8.drew
  refine grow_begin (by kernel_rfl) ?_
  refine grow_take 0 (some 47) (v := ?vc0) rfl rfl (by kernel_rfl) (by kernel_rfl) (by kernel_rfl) (fun _ _ _ h => h) (by rfl) (fun W hW => ?yc0) ?_
  case yc0 =>
    go_simp <;> with_reducible rfl
  try simp only [Act.put, List.setIfInBounds_toArray, List.set_cons_zero, List.set_cons_succ]
  refine grow_take 1 (some 48) (v := ?vc1) rfl rfl (by kernel_rfl) (by kernel_rfl) (by kernel_rfl) (fun _ _ _ h => h) (by rfl) (fun W hW => ?yc1) ?_
  case yc1 =>
    go_simp <;> with_reducible rfl
  try simp only [Act.put, List.setIfInBounds_toArray, List.set_cons_zero, List.set_cons_succ]
  refine grow_take 2 (some 49) (v := ?vc2) rfl rfl (by kernel_rfl) (by kernel_rfl) (by kernel_rfl) (fun _ _ _ h => h) (by rfl) (fun W hW => ?yc2) ?_
  case yc2 =>
    go_simp <;> with_reducible rfl
  try simp only [Act.put, List.setIfInBounds_toArray, List.set_cons_zero, List.set_cons_succ]
  refine grow_take 3 (some 50) (v := ?vc3) rfl rfl (by kernel_rfl) (by kernel_rfl) (by kernel_rfl) (fun _ _ _ h => h) (by rfl) (fun W hW => ?yc3) ?_
  case yc3 =>
    go_simp <;> with_reducible rfl
  try simp only [Act.put, List.setIfInBounds_toArray, List.set_cons_zero, List.set_cons_succ]
  refine grow_take 4 (some 51) (v := ?vc4) rfl rfl (by kernel_rfl) (by kernel_rfl) (by kernel_rfl) (fun _ _ _ h => h) (by rfl) (fun W hW => ?yc4) ?_
  case yc4 =>
    go_simp <;> with_reducible rfl
  try simp only [Act.put, List.setIfInBounds_toArray, List.set_cons_zero, List.set_cons_succ]
  refine grow_take 5 (some 52) (v := ?vc5) rfl rfl (by kernel_rfl) (by kernel_rfl) (by kernel_rfl) (fun _ _ _ h => h) (by rfl) (fun W hW => ?yc5) ?_
  case yc5 =>
    go_simp <;> with_reducible rfl
  try simp only [Act.put, List.setIfInBounds_toArray, List.set_cons_zero, List.set_cons_succ]
  refine grow_take 6 (some 53) (v := ?vc6) rfl rfl (by kernel_rfl) (by kernel_rfl) (by kernel_rfl) (fun _ _ _ h => h) (by rfl) (fun W hW => ?yc6) ?_
  case yc6 =>
    go_simp <;> with_reducible rfl
  try simp only [Act.put, List.setIfInBounds_toArray, List.set_cons_zero, List.set_cons_succ]
  refine grow_take 7 (some 54) (v := ?vc7) rfl rfl (by kernel_rfl) (by kernel_rfl) (by kernel_rfl) (fun _ _ _ h => h) (by rfl) (fun W hW => ?yc7) ?_
  case yc7 =>
    go_simp <;> with_reducible rfl
  try simp only [Act.put, List.setIfInBounds_toArray, List.set_cons_zero, List.set_cons_succ]
  refine grow_only 8 rfl (by kernel_rfl) (fun K hK => ?_)
  go_simp
  refine (hF1 _).mono ?_
  rintro e w9 ⟨rfl, hb9⟩
  refine hK.out _ _ hb9 ?_
  clear hK K
  try simp only [Act.put, List.setIfInBounds_toArray, List.set_cons_zero, List.set_cons_succ]
  have hc9 := hc8.trans (hb9.mono hc8.size)
  have hP9 := hP8.below hb9
  have hQ9 := hQ8.below hb9
  refine grow_take 9 (some 56) (v := ?vc9) rfl rfl (by kernel_rfl) (by kernel_rfl) (by kernel_rfl) (fun _ _ _ h => h) (by rfl) (fun W hW => ?yc9) ?_
  case yc9 =>
    go_simp <;> with_reducible rfl
  try simp only [Act.put, List.setIfInBounds_toArray, List.set_cons_zero, List.set_cons_succ]
  refine grow_take 10 (some 57) (v := ?vc10) rfl rfl (by kernel_rfl) (by kernel_rfl) (by kernel_rfl) (fun _ _ _ h => h) (by rfl) (fun W hW => ?yc10) ?_
  case yc10 =>
    go_simp <;> with_reducible rfl
  try simp only [Act.put, List.setIfInBounds_toArray, List.set_cons_zero, List.set_cons_succ]
  refine grow_take 11 (some 58) (v := ?vc11) rfl rfl (by kernel_rfl) (by kernel_rfl) (by kernel_rfl) (fun _ _ _ h => h) (by rfl) (fun W hW => ?yc11) ?_
  case yc11 =>
    go_simp <;> with_reducible rfl
  try simp only [Act.put, List.setIfInBounds_toArray, List.set_cons_zero, List.set_cons_succ]
  refine grow_only 12 rfl (by kernel_rfl) (fun K hK => ?_)
  go_simp
  refine (hF2 _).mono ?_
  rintro e w10 ⟨rfl, hb10⟩
  refine hK.out _ _ hb10 ?_
  clear hK K
  try simp only [Act.put, List.setIfInBounds_toArray, List.set_cons_zero, List.set_cons_succ]
  have hc10 := hc9.trans (hb10.mono hc9.size)
  have hP10 := hP9.below hb10
  have hQ10 := hQ9.below hb10
  refine grow_take 13 (some 60) (v := ?vc13) rfl rfl (by kernel_rfl) (by kernel_rfl) (by kernel_rfl) (fun _ _ _ h => h) (by rfl) (fun W hW => ?yc13) ?_
  case yc13 =>
    go_simp <;> with_reducible rfl
  try simp only [Act.put, List.setIfInBounds_toArray, List.set_cons_zero, List.set_cons_succ]
  refine grow_take 14 (some 61) (v := ?vc14) rfl rfl (by kernel_rfl) (by kernel_rfl) (by kernel_rfl) (fun _ _ _ h => h) (by rfl) (fun W hW => ?yc14) ?_
  case yc14 =>
    go_simp <;> with_reducible rfl
  try simp only [Act.put, List.setIfInBounds_toArray, List.set_cons_zero, List.set_cons_succ]
  refine grow_take 15 (some 62) (v := ?vc15) rfl rfl (by kernel_rfl) (by kernel_rfl) (by kernel_rfl) (fun _ _ _ h => h) (by rfl) (fun W hW => ?yc15) ?_
  case yc15 =>
    go_simp <;> with_reducible rfl
  try simp only [Act.put, List.setIfInBounds_toArray, List.set_cons_zero, List.set_cons_succ]
  refine grow_take 17 (some 64) (v := ?vc17) rfl rfl (by kernel_rfl) (by kernel_rfl) (by kernel_rfl) (fun _ _ _ h => h) (by rfl) (fun W hW => ?yc17) ?_
  case yc17 =>
    have h0 := (hP10.up hW).c0
    have h1 := (hP10.up hW).c1
    go_simp <;> with_reducible rfl
  try simp only [Act.put, List.setIfInBounds_toArray, List.set_cons_zero, List.set_cons_succ]
  refine grow_take 19 (some 66) (v := ?vc19) rfl rfl (by kernel_rfl) (by kernel_rfl) (by kernel_rfl) (fun _ _ _ h => h) (by rfl) (fun W hW => ?yc19) ?_
  case yc19 =>
    have h0 := (hQ10.up hW).c0
    have h1 := (hQ10.up hW).c1
    go_simp <;> with_reducible rfl
  try simp only [Act.put, List.setIfInBounds_toArray, List.set_cons_zero, List.set_cons_succ]
  refine grow_only 16 rfl (by kernel_rfl) (fun K hK => ?_)
  go_simp
  refine (hN _).mono ?_
  rintro e w11 ⟨rfl, hb11⟩
  refine hK.out _ _ hb11 ?_
  clear hK K
  try simp only [Act.put, List.setIfInBounds_toArray, List.set_cons_zero, List.set_cons_succ]
  have hc11 := hc10.trans (hb11.mono hc10.size)
  have hP11 := hP10.below hb11
  have hQ11 := hQ10.below hb11
  refine grow_only 18 rfl (by kernel_rfl) (fun K hK => ?_)
  go_simp
  refine (hn1 _).mono ?_
  rintro e w12 ⟨rfl, hb12⟩
  refine hK.out _ _ hb12 ?_
  clear hK K
  try simp only [Act.put, List.setIfInBounds_toArray, List.set_cons_zero, List.set_cons_succ]
  have hc12 := hc11.trans (hb12.mono hc11.size)
  have hP12 := hP11.below hb12
  have hQ12 := hQ11.below hb12
  refine grow_only 20 rfl (by kernel_rfl) (fun K hK => ?_)
  go_simp
  refine (hn2 _).mono ?_
  rintro e w13 ⟨rfl, hb13⟩
  refine hK.out _ _ hb13 ?_
  clear hK K
  try simp only [Act.put, List.setIfInBounds_toArray, List.set_cons_zero, List.set_cons_succ]
  have hc13 := hc12.trans (hb13.mono hc12.size)
  have hP13 := hP12.below hb13
  have hQ13 := hQ12.below hb13
  refine grow_take 21 (some 68) (v := ?vc21) rfl rfl (by kernel_rfl) (by kernel_rfl) (by kernel_rfl) (fun _ _ _ h => h) (by rfl) (fun W hW => ?yc21) ?_
  case yc21 =>
    have h1 := wN
    have h2 := hn3
    go_simp <;> with_reducible rfl
  try simp only [Act.put, List.setIfInBounds_toArray, List.set_cons_zero, List.set_cons_succ]
  refine grow_take 22 (some 69) (v := ?vc22) rfl rfl (by kernel_rfl) (by kernel_rfl) (by kernel_rfl) (fun _ _ _ h => h) (by rfl) (fun W hW => ?yc22) ?_
  case yc22 =>
    go_simp <;> with_reducible rfl
  try simp only [Act.put, List.setIfInBounds_toArray, List.set_cons_zero, List.set_cons_succ]
  refine grow_take 23 (some 70) (v := ?vc23) rfl rfl (by kernel_rfl) (by kernel_rfl) (by kernel_rfl) (fun _ _ _ h => h) (by rfl) (fun W hW => ?yc23) ?_
  case yc23 =>
    go_simp <;> with_reducible rfl
  try simp only [Act.put, List.setIfInBounds_toArray, List.set_cons_zero, List.set_cons_succ]
  refine grow_take 24 (some 8) (v := ?vc24) rfl rfl (by kernel_rfl) (by kernel_rfl) (by kernel_rfl) (fun _ _ _ h => h) (by rfl) (fun W hW => ?yc24) ?_
  case yc24 =>
    go_simp <;> with_reducible rfl
  try simp only [Act.put, List.setIfInBounds_toArray, List.set_cons_zero, List.set_cons_succ]
  refine grow_done (by kernel_rfl) ?_ _
  go_wp2
  go_ret
  exact ⟨rfl, hc13⟩

end Go.Proofs.YtmbinnahndiboaaDoor
