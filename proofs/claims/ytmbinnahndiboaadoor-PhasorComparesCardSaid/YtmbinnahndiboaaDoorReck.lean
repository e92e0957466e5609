/-
  The walk of PhasorReckons: whatever the words, true. By an AI agent.
-/
import Derived.Test.YtmbinnahndiboaaDoorReckA
import Derived.BigQuiet
import Derived.Deep.QuietTactic
namespace Go.Proofs.YtmbinnahndiboaaDoor
open Go.RowKit Flt
set_option linter.unusedVariables false

theorem below_of_drewN {w w' : World} {k : Nat} (h : Below (w.drewN k).heap.size (w.drewN k) w') : Below w.heap.size w w' := ⟨h.os, h.tape, h.output, h.size, h.block⟩
theorem below_of_alloc {w w' : World} {o : Obj} (h : Below (w.alloc o).heap.size (w.alloc o) w') : Below w.heap.size w w' :=
  (below1 w o).trans (h.mono (below1 w o).size)

/-- An array of four words lies in block B. -/
structure Ar4 (w : World) (B x y u v : Nat) : Prop where
  c0 : w.cell? ⟨B, 0, none⟩ = some (.float .f64 x)
  c1 : w.cell? ⟨B, 1, none⟩ = some (.float .f64 y)
  c2 : w.cell? ⟨B, 2, none⟩ = some (.float .f64 u)
  c3 : w.cell? ⟨B, 3, none⟩ = some (.float .f64 v)

theorem Ar4.new (w : World) (x y u v : Nat) (t : TypeId) : Ar4 (w.alloc (.cells #[.float .f64 x, .float .f64 y, .float .f64 u, .float .f64 v] t)) w.heap.size x y u v :=
  ⟨by rw [World.cell?_alloc_at (hn := by simp)]; rfl, by rw [World.cell?_alloc_at (hn := by simp)]; rfl, by rw [World.cell?_alloc_at (hn := by simp)]; rfl, by rw [World.cell?_alloc_at (hn := by simp)]; rfl⟩

theorem Ar4.below {w w' : World} {B x y u v : Nat} (h : Ar4 w B x y u v) (hlt : B < w.heap.size) (hb : Below w.heap.size w w') : Ar4 w' B x y u v :=
  ⟨(hb.cell (p := ⟨B, 0, none⟩) hlt).trans h.c0, (hb.cell (p := ⟨B, 1, none⟩) hlt).trans h.c1, (hb.cell (p := ⟨B, 2, none⟩) hlt).trans h.c2, (hb.cell (p := ⟨B, 3, none⟩) hlt).trans h.c3⟩

set_option maxRecDepth 100000 in
set_option maxHeartbeats 8000000 in
theorem reck_num (x y u v : Nat) (a b c d : Int) (h : Num x y a b) (k : Num u v c d) (w : World) (hT : Tabs w) :
    Calls Tryd.prog 6 #[.agg #[.float .f64 x, .float .f64 y, .float .f64 u, .float .f64 v]] w fun e w' => e = .returned (.bool true) ∧ Below w.heap.size w w' := by
  obtain ⟨X, Y, X', Y', e, P, Q, hA⟩ := agree_add h k
  obtain ⟨Z, W, Z', W', f, R, S, hM⟩ := agree_mul h k
  have hO1 := fun w => of_yes x y a b h w
  have hO2 := fun w => of_yes u v c d k w
  unfold pairV at hO1 hO2
  have hL1 := fun w => like_yes X Y e P Q hA.o1 hA.o2 w
  have hL2 := fun w => like_yes Z W f R S hM.o1 hM.o2 w
  have o3 := hA.o3
  have o4 := hA.o4
  have o5 := hM.o3
  have o6 := hM.o4
  clear h k
  go_enter Tryd.func6, Tryd.ntmps6
  go_wp2_with (go_at_call 9; fail)
  refine (awake_any _ (hT.below (below1 w _))).mono ?_
  rintro en w1 ⟨rfl, hb1⟩
  have ar := (Ar4.new w x y u v 43).below (by simp) hb1
  have hc1 := below_of_alloc hb1
  obtain ⟨a0, a1, a2, a3⟩ := ar
  clear hb1 hT
  go_wp2
  go_quiet (fail)
  go_wp2_with (go_at_call 18; fail)
  refine (hA.one _).mono ?_
  rintro en w2 ⟨rfl, hb2⟩
  have hc2 := hc1.trans ((below_of_drewN hb2).mono hc1.size)
  clear hb2 a0 a1 a2 a3
  go_wp2_with (go_at_call 19; fail)
  refine (hM.one _).mono ?_
  rintro en w3 ⟨rfl, hb3⟩
  have hc3 := hc2.trans (hb3.mono hc2.size)
  clear hb3
  go_wp2_with (go_at_call 18; fail)
  refine (hA.two _).mono ?_
  rintro en w4 ⟨rfl, hb4⟩
  have hc4 := hc3.trans (hb4.mono hc3.size)
  clear hb4
  go_wp2_with (go_at_call 19; fail)
  refine (hM.two _).mono ?_
  rintro en w5 ⟨rfl, hb5⟩
  have hc5 := hc4.trans (hb5.mono hc4.size)
  clear hb5
  go_wp2_with (go_at_call 11; fail)
  refine (hO1 _).mono ?_
  rintro en w6 ⟨rfl, hb6⟩
  have hc6 := hc5.trans (hb6.mono hc5.size)
  have hP6 := Pr.new w6 a b
  clear hb6
  go_wp2_with (go_at_call 11; fail)
  have hc6' := hc6.trans ((below1 w6 (.cells #[.int .i64 a, .int .i64 b] 29)).mono hc6.size)
  generalize w6.alloc (.cells #[.int .i64 a, .int .i64 b] 29) = v6 at *
  generalize w6.heap.size = B1 at *
  refine (hO2 _).mono ?_
  rintro en w7 ⟨rfl, hb7⟩
  have hc7 := hc6'.trans (hb7.mono hc6'.size)
  have hP7 := hP6.below hb7
  have hQ7 := Pr.new w7 c d
  have hP8 := hP7.old (.cells #[.int .i64 c, .int .i64 d] 29)
  clear hb7 hP6 hc6'
  obtain ⟨q0, q1, _⟩ := id hP8
  go_wp2_with (go_at_call 20; fail)
  have hc7' := hc7.trans ((below1 w7 (.cells #[.int .i64 c, .int .i64 d] 29)).mono hc7.size)
  clear q0 q1
  generalize w7.alloc (.cells #[.int .i64 c, .int .i64 d] 29) = v7 at *
  generalize w7.heap.size = B2 at *
  refine (hA.ref _).mono ?_
  rintro en w8 ⟨rfl, hb8⟩
  have hc8 := hc7'.trans (hb8.mono hc7'.size)
  have hP9 := (hP8.below hb8).old (.cells #[.int .i64 P, .int .i64 Q] 29)
  have hQ9 := (hQ7.below hb8).old (.cells #[.int .i64 P, .int .i64 Q] 29)
  have hR9 := Pr.new w8 P Q
  clear hb8 hP8 hQ7 hP7 hc7'
  obtain ⟨q0, q1, _⟩ := id hP9
  obtain ⟨q2, q3, _⟩ := id hQ9
  go_wp2_with (go_at_call 21; fail)
  have hc8' := hc8.trans ((below1 w8 (.cells #[.int .i64 P, .int .i64 Q] 29)).mono hc8.size)
  clear q0 q1 q2 q3 hP9 hQ9
  generalize w8.alloc (.cells #[.int .i64 P, .int .i64 Q] 29) = v8 at *
  generalize w8.heap.size = B3 at *
  refine (hM.ref _).mono ?_
  rintro en w9 ⟨rfl, hb9⟩
  have hc9 := hc8'.trans (hb9.mono hc8'.size)
  have hR10 := (hR9.below hb9).old (.cells #[.int .i64 R, .int .i64 S] 29)
  have hS10 := Pr.new w9 R S
  clear hb9 hR9 hc8'
  obtain ⟨q0, q1, _⟩ := id hR10
  go_wp2_with (go_at_call 16; fail)
  have hc9' := hc9.trans ((below1 w9 (.cells #[.int .i64 R, .int .i64 S] 29)).mono hc9.size)
  clear q0 q1 hR10
  generalize w9.alloc (.cells #[.int .i64 R, .int .i64 S] 29) = v9 at *
  generalize w9.heap.size = B4 at *
  refine (hL1 _).mono ?_
  rintro en w10 ⟨rfl, hb10⟩
  have hc10 := hc9'.trans (hb10.mono hc9'.size)
  have hS11 := hS10.below hb10
  clear hb10 hS10 hc9'
  obtain ⟨q0, q1, _⟩ := id hS11
  go_wp2_with (go_at_call 16; fail)
  clear q0 q1 hS11
  refine (hL2 _).mono ?_
  rintro en w11 ⟨rfl, hb11⟩
  have hc11 := hc10.trans (hb11.mono hc10.size)
  clear hb11
  go_wp2
  go_ret
  exact ⟨rfl, hc11⟩

/-- What a call of Of answers. -/
structure OfIs (x y : Nat) (p q : Int) (ok : Bool) : Prop where
  run : ∀ w, Calls Tryd.prog 11 #[.complex .f64 x y] w fun e w' => e = .returned (.tuple #[.agg #[.int .i64 p, .int .i64 q], .bool ok]) ∧ Below w.heap.size w w'

theorem of_no' (x y : Nat) (hx : Word x) (hy : Word y) (h : NoNum x y) : OfIs x y 0 0 false := ⟨fun w => of_no x y hx.lt hy.lt h w⟩
theorem of_yes' (x y : Nat) (a b : Int) (h : Num x y a b) : OfIs x y a b true := ⟨fun w => of_yes x y a b h w⟩
theorem of_is (x y : Nat) (hx : Word x) (hy : Word y) : ∃ p q ok, OfIs x y p q ok := by
  rcases num_or x y hx.lt hy.lt with ⟨a, b, h⟩ | h
  · exact ⟨a, b, true, of_yes' x y a b h⟩
  · exact ⟨0, 0, false, of_no' x y hx hy h⟩

set_option maxRecDepth 100000 in
set_option maxHeartbeats 8000000 in
theorem reck_arg (x y u v : Nat) (hx : Word x) (hy : Word y) (hu : Word u) (hv : Word v) (h : NoNum x y ∨ NoNum u v) (p q r s : Int) (k m : Bool) (hz : OfIs x y p q k) (hw : OfIs u v r s m) (hkm : k = false ∨ (k = true ∧ m = false)) (w : World) (hT : Tabs w) :
    Calls Tryd.prog 6 #[.agg #[.float .f64 x, .float .f64 y, .float .f64 u, .float .f64 v]] w fun e w' => e = .returned (.bool true) ∧ Below w.heap.size w w' := by
  have hA1 := fun w => add_arg x y u v hx hy hu hv h w
  have hA2 := fun w => add_arg u v x y hu hv hx hy h.symm w
  have hM1 := fun w => mul_arg x y u v hx hy hu hv h w
  have hM2 := fun w => mul_arg u v x y hu hv hx hy h.symm w
  have hO1 := hz.run
  have hO2 := hw.run
  have e00 := eq00
  clear h hx hy hu hv hz hw
  go_enter Tryd.func6, Tryd.ntmps6
  go_wp2_with (go_at_call 9; fail)
  refine (awake_any _ (hT.below (below1 w _))).mono ?_
  rintro en w1 ⟨rfl, hb1⟩
  have ar := (Ar4.new w x y u v 43).below (by simp) hb1
  have hc1 := below_of_alloc hb1
  obtain ⟨a0, a1, a2, a3⟩ := ar
  clear hb1 hT
  go_wp2
  go_quiet (fail)
  go_wp2_with (go_at_call 18; fail)
  refine (hA1 _).mono ?_
  rintro en w2 ⟨rfl, hb2⟩
  have hc2 := hc1.trans ((below_of_drewN hb2).mono hc1.size)
  clear hb2 a0 a1 a2 a3
  go_wp2_with (go_at_call 19; fail)
  refine (hM1 _).mono ?_
  rintro en w3 ⟨rfl, hb3⟩
  have hc3 := hc2.trans (hb3.mono hc2.size)
  clear hb3
  go_wp2_with (go_at_call 18; fail)
  refine (hA2 _).mono ?_
  rintro en w4 ⟨rfl, hb4⟩
  have hc4 := hc3.trans (hb4.mono hc3.size)
  clear hb4
  go_wp2_with (go_at_call 19; fail)
  refine (hM2 _).mono ?_
  rintro en w5 ⟨rfl, hb5⟩
  have hc5 := hc4.trans (hb5.mono hc4.size)
  clear hb5
  go_wp2_with (go_at_call 11; fail)
  refine (hO1 _).mono ?_
  rintro en w6 ⟨rfl, hb6⟩
  have hc6 := hc5.trans (hb6.mono hc5.size)
  clear hb6
  go_wp2_with (go_at_call 11; fail)
  refine (hO2 _).mono ?_
  rintro en w7 ⟨rfl, hb7⟩
  have hc7 := hc6.trans ((below_of_alloc hb7).mono hc6.size)
  have hc8 := hc7.trans ((below1 w7 (.cells #[.int .i64 r, .int .i64 s] 29)).mono hc7.size)
  clear hb7
  rcases hkm with rfl | ⟨rfl, rfl⟩
  · go_wp2
    go_ret
    exact ⟨rfl, hc8⟩
  · go_wp2
    go_ret
    exact ⟨rfl, hc8⟩

theorem reck_any (x y u v : Nat) (hx : x < 2 ^ 64) (hy : y < 2 ^ 64) (hu : u < 2 ^ 64) (hv : v < 2 ^ 64) (w : World) (hT : Tabs w) :
    Calls Tryd.prog 6 #[.agg #[.float .f64 x, .float .f64 y, .float .f64 u, .float .f64 v]] w fun e w' => e = .returned (.bool true) ∧ Below w.heap.size w w' := by
  rcases num_or x y hx hy with ⟨a, b, h⟩ | h
  · rcases num_or u v hu hv with ⟨c, d, k⟩ | k
    · exact reck_num x y u v a b c d h k w hT
    · exact reck_arg x y u v ⟨hx⟩ ⟨hy⟩ ⟨hu⟩ ⟨hv⟩ (Or.inr k) _ _ _ _ _ _ (of_yes' x y a b h) (of_no' u v ⟨hu⟩ ⟨hv⟩ k) (Or.inr ⟨rfl, rfl⟩) w hT
  · obtain ⟨r, s, m, hw⟩ := of_is u v ⟨hu⟩ ⟨hv⟩
    exact reck_arg x y u v ⟨hx⟩ ⟨hy⟩ ⟨hu⟩ ⟨hv⟩ (Or.inl h) _ _ _ _ _ _ (of_no' x y ⟨hx⟩ ⟨hy⟩ h) hw (Or.inl rfl) w hT

end Go.Proofs.YtmbinnahndiboaaDoor
