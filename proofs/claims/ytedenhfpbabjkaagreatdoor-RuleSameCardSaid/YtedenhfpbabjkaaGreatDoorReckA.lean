/-
  Add and Mul of both texts agree, in whatever order: what PhasorReckons asks, each call by itself. By an AI agent.
-/
import Derived.Test.YtedenhfpbabjkaaGreatDoorWhole
namespace Go.Proofs.YtedenhfpbabjkaaGreatDoor
open Go.RowKit Flt
set_option linter.unusedVariables false

/-- f and g, at z and w in both orders, and at the pairs: what they answer agrees. -/
structure Agree (f g : Nat) (x y u v : Nat) (a b c d : Int) (X Y X' Y' : Nat) (e P Q : Int) : Prop where
  one : ∀ w, Calls Tryz.prog f #[.complex .f64 x y, .complex .f64 u v] w fun en w' => en = .returned (.tuple #[.complex .f64 X Y, .int .i64 e]) ∧ Below w.heap.size w w'
  two : ∀ w, Calls Tryz.prog f #[.complex .f64 u v, .complex .f64 x y] w fun en w' => en = .returned (.tuple #[.complex .f64 X' Y', .int .i64 e]) ∧ Below w.heap.size w w'
  ref : ∀ w, Calls Tryz.prog g #[.agg #[.int .i64 a, .int .i64 b], .agg #[.int .i64 c, .int .i64 d]] w fun en w' => en = .returned (.tuple #[.agg #[.int .i64 P, .int .i64 Q], .int .i64 e]) ∧ Below w.heap.size w w'
  o1 : (FloatKind.f64.format.order X (fl P) == some .eq) = true
  o2 : (FloatKind.f64.format.order Y (fl Q) == some .eq) = true
  o3 : (FloatKind.f64.format.order X' X == some .eq) = true
  o4 : (FloatKind.f64.format.order Y' Y == some .eq) = true

theorem same_eq {x y : Nat} {a : Int} (h : Part x a) (k : Part y a) : (FloatKind.f64.format.order x y == some .eq) = true := by
  rw [part_same h k]; rfl

theorem agree_of {f g : Nat} {x y u v : Nat} {a b c d n m : Int} {r i r' i' : Nat} (hr : Fw r n) (hi : Fw i m) (hr' : Fw r' n) (hi' : Fw i' m)
    (h1 : ∀ w, Calls Tryz.prog f #[.complex .f64 x y, .complex .f64 u v] w fun e w' => ∃ t, e = .returned t ∧ res r i n m t ∧ Below w.heap.size w w')
    (h2 : ∀ w, Calls Tryz.prog f #[.complex .f64 u v, .complex .f64 x y] w fun e w' => ∃ t, e = .returned t ∧ res r' i' n m t ∧ Below w.heap.size w w')
    (h3 : ∀ w, Calls Tryz.prog g #[pairV a b, pairV c d] w fun e w' => ∃ t, e = .returned t ∧ rres n m t ∧ Below w.heap.size w w') :
    ∃ X Y X' Y' e P Q, Agree f g x y u v a b c d X Y X' Y' e P Q := by
  by_cases hin : InB n m
  · have p1 := hr.part hin.1.1 hin.1.2
    have p2 := hi.part hin.2.1 hin.2.2
    have p3 := hr'.part hin.1.1 hin.1.2
    have p4 := hi'.part hin.2.1 hin.2.2
    refine ⟨r, i, r', i', 0, n, m, fun w => ?_, fun w => ?_, fun w => ?_, same_eq p1 (part_fl n hin.1.1 hin.1.2), same_eq p2 (part_fl m hin.2.1 hin.2.2), same_eq p3 p1, same_eq p4 p2⟩
    · refine (h1 w).mono ?_
      rintro e w' ⟨t, rfl, ht, hb⟩
      rcases ht with ⟨_, rfl⟩ | ⟨h, _⟩
      · exact ⟨rfl, hb⟩
      · exact absurd hin h
    · refine (h2 w).mono ?_
      rintro e w' ⟨t, rfl, ht, hb⟩
      rcases ht with ⟨_, rfl⟩ | ⟨h, _⟩
      · exact ⟨rfl, hb⟩
      · exact absurd hin h
    · refine (h3 w).mono ?_
      rintro e w' ⟨t, rfl, ht, hb⟩
      rcases ht with ⟨_, rfl⟩ | ⟨h, _⟩
      · exact ⟨rfl, hb⟩
      · exact absurd hin h
  · have e0 : (FloatKind.f64.format.order 0 (fl 0) == some .eq) = true := by rw [fl0]; exact eq00
    refine ⟨0, 0, 0, 0, 3, 0, 0, fun w => ?_, fun w => ?_, fun w => ?_, e0, e0, eq00, eq00⟩
    · refine (h1 w).mono ?_
      rintro e w' ⟨t, rfl, ht, hb⟩
      rcases ht with ⟨h, _⟩ | ⟨_, rfl⟩
      · exact absurd h hin
      · exact ⟨rfl, hb⟩
    · refine (h2 w).mono ?_
      rintro e w' ⟨t, rfl, ht, hb⟩
      rcases ht with ⟨h, _⟩ | ⟨_, rfl⟩
      · exact absurd h hin
      · exact ⟨rfl, hb⟩
    · refine (h3 w).mono ?_
      rintro e w' ⟨t, rfl, ht, hb⟩
      rcases ht with ⟨h, _⟩ | ⟨_, rfl⟩
      · exact absurd h hin
      · exact ⟨rfl, hb⟩

theorem num_abs {x y : Nat} {a b : Int} (h : Num x y a b) : a.natAbs ≤ 1000000 ∧ b.natAbs ≤ 1000000 :=
  ⟨abs_small h.1.2.2.1 h.1.2.2.2, abs_small h.2.2.2.1 h.2.2.2.2⟩

end Go.Proofs.YtedenhfpbabjkaaGreatDoor
