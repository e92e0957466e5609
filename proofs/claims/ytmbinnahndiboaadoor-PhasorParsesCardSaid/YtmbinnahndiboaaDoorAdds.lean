/-
  Add and Mul of both texts. By an AI agent.
-/
import Derived.Test.YtmbinnahndiboaaDoorSums
namespace Go.Proofs.YtmbinnahndiboaaDoor
open Go.RowKit Flt
set_option linter.unusedVariables false

set_option maxRecDepth 100000 in
set_option maxHeartbeats 4000000 in
theorem add_arg (x y u v : Nat) (hx : Word x) (hy : Word y) (hu : Word u) (hv : Word v) (h : NoNum x y ∨ NoNum u v) (w : World) :
    Calls Tryd.prog 18 #[.complex .f64 x y, .complex .f64 u v] w fun e w' => e = .returned (.tuple #[.complex .f64 0 0, .int .i64 1]) ∧ Below w.heap.size w w' := by
  rcases num_or x y hx.lt hy.lt with ⟨a, b, hn⟩ | hn
  · have h2 : NoNum u v := h.resolve_left (fun h => no_num h ⟨⟨a, hn.1⟩, b, hn.2⟩)
    have hF := fun w => formed_yes x y a b hn w
    have hG := fun w => formed_no u v hu hv h2 w
    clear h hn h2 hx hy hu hv
    go_enter Tryd.func18, Tryd.ntmps18
    go_wp2_with (go_at_call 12; fail)
    refine (hF _).mono ?_
    rintro e w1 ⟨rfl, hb1⟩
    go_wp2_with (go_at_call 12; fail)
    refine (hG _).mono ?_
    rintro e w2 ⟨rfl, hb2⟩
    go_wp2
    go_ret2
    exact ⟨rfl, hb1.trans (hb2.mono hb1.size)⟩
  · have hF := fun w => formed_no x y hx hy hn w
    clear h hn hx hy hu hv
    go_enter Tryd.func18, Tryd.ntmps18
    go_wp2_with (go_at_call 12; fail)
    refine (hF _).mono ?_
    rintro e w1 ⟨rfl, hb1⟩
    go_wp2
    go_ret2
    exact ⟨rfl, hb1⟩

set_option maxRecDepth 100000 in
set_option maxHeartbeats 4000000 in
theorem mul_arg (x y u v : Nat) (hx : Word x) (hy : Word y) (hu : Word u) (hv : Word v) (h : NoNum x y ∨ NoNum u v) (w : World) :
    Calls Tryd.prog 19 #[.complex .f64 x y, .complex .f64 u v] w fun e w' => e = .returned (.tuple #[.complex .f64 0 0, .int .i64 1]) ∧ Below w.heap.size w w' := by
  rcases num_or x y hx.lt hy.lt with ⟨a, b, hn⟩ | hn
  · have h2 : NoNum u v := h.resolve_left (fun h => no_num h ⟨⟨a, hn.1⟩, b, hn.2⟩)
    have hF := fun w => formed_yes x y a b hn w
    have hG := fun w => formed_no u v hu hv h2 w
    clear h hn h2 hx hy hu hv
    go_enter Tryd.func19, Tryd.ntmps19
    go_wp2_with (go_at_call 12; fail)
    refine (hF _).mono ?_
    rintro e w1 ⟨rfl, hb1⟩
    go_wp2_with (go_at_call 12; fail)
    refine (hG _).mono ?_
    rintro e w2 ⟨rfl, hb2⟩
    go_wp2
    go_ret2
    exact ⟨rfl, hb1.trans (hb2.mono hb1.size)⟩
  · have hF := fun w => formed_no x y hx hy hn w
    clear h hn hx hy hu hv
    go_enter Tryd.func19, Tryd.ntmps19
    go_wp2_with (go_at_call 12; fail)
    refine (hF _).mono ?_
    rintro e w1 ⟨rfl, hb1⟩
    go_wp2
    go_ret2
    exact ⟨rfl, hb1⟩

/-- What is reckoned: the words r, i, or out of range. -/
def res (r i : Nat) (n m : Int) (v : Value) : Prop := (InB n m ∧ v = .tuple #[.complex .f64 r i, .int .i64 0]) ∨ (¬ InB n m ∧ v = .tuple #[.complex .f64 0 0, .int .i64 3])

theorem within_res {r i : Nat} {n m : Int} (hr : Fw r n) (hi : Fw i m) (w : World) :
    ∃ v, res r i n m v ∧ Calls Tryd.prog 34 #[.complex .f64 r i] w fun e w' => e = .returned v ∧ Below w.heap.size w w' := by
  by_cases h : InB n m
  · exact ⟨_, Or.inl ⟨h, rfl⟩, within_yes r i n m (fw_num hr hi h) w⟩
  · exact ⟨_, Or.inr ⟨h, rfl⟩, within_no r i ⟨hr.lt⟩ ⟨hi.lt⟩ (fw_nonum hr hi h) w⟩

set_option maxRecDepth 100000 in
set_option maxHeartbeats 4000000 in
theorem add_num (x y u v : Nat) (a b c d : Int) (h : Num x y a b) (k : Num u v c d) (r i : Nat) (hs : cSumBits .add .f64 x y u v = some (r, i)) (hr : Fw r (a + c)) (hi : Fw i (b + d)) (w : World) :
    Calls Tryd.prog 18 #[.complex .f64 x y, .complex .f64 u v] w fun e w' => ∃ v, e = .returned v ∧ res r i (a + c) (b + d) v ∧ Below w.heap.size w w' := by
  have hF := fun w => formed_yes x y a b h w
  have hG := fun w => formed_yes u v c d k w
  have hadd : ∀ W : World, (binOp .add 24 (.complex .f64 x y) (.complex .f64 u v)).run Tryd.prog W = .ok (.complex .f64 r i) W := fun W => run_complex_sum W .add (Or.inl rfl) _ _ _ _ _ _ _ _ hs
  by_cases hin : InB (a + c) (b + d)
  · have hW := fun w => within_yes r i _ _ (fw_num hr hi hin) w
    have hres : res r i (a + c) (b + d) (.tuple #[.complex .f64 r i, .int .i64 0]) := Or.inl ⟨hin, rfl⟩
    replace hres := hide hres
    clear h k hs hr hi hin
    go_enter Tryd.func18, Tryd.ntmps18
    go_wp2_with (go_at_call 12; fail)
    refine (hF _).mono ?_
    rintro e w1 ⟨rfl, hb1⟩
    go_wp2_with (go_at_call 12; fail)
    refine (hG _).mono ?_
    rintro e w2 ⟨rfl, hb2⟩
    go_wp2_with (go_at_call 34; refine (hW _).mono ?_; rintro e w3 ⟨rfl, hb3⟩)
    go_ret2
    have hbb := hb1.trans (hb2.mono hb1.size)
    exact ⟨_, rfl, hres.out, hbb.trans (hb3.mono hbb.size)⟩
  · have hW := fun w => within_no r i ⟨hr.lt⟩ ⟨hi.lt⟩ (fw_nonum hr hi hin) w
    have hres : res r i (a + c) (b + d) (.tuple #[.complex .f64 0 0, .int .i64 3]) := Or.inr ⟨hin, rfl⟩
    replace hres := hide hres
    clear h k hs hr hi hin
    go_enter Tryd.func18, Tryd.ntmps18
    go_wp2_with (go_at_call 12; fail)
    refine (hF _).mono ?_
    rintro e w1 ⟨rfl, hb1⟩
    go_wp2_with (go_at_call 12; fail)
    refine (hG _).mono ?_
    rintro e w2 ⟨rfl, hb2⟩
    go_wp2_with (go_at_call 34; refine (hW _).mono ?_; rintro e w3 ⟨rfl, hb3⟩)
    go_ret2
    have hbb := hb1.trans (hb2.mono hb1.size)
    exact ⟨_, rfl, hres.out, hbb.trans (hb3.mono hbb.size)⟩

set_option maxRecDepth 100000 in
set_option maxHeartbeats 4000000 in
theorem mul_num (x y u v : Nat) (a b c d : Int) (h : Num x y a b) (k : Num u v c d) (p q r i : Nat) (hp : cMulBits x y u v = some (p, q)) (hs : cSumBits .add .f64 p q 0 0 = some (r, i))
    (hr : Fw r (a * c - b * d)) (hi : Fw i (a * d + b * c)) (w : World) :
    Calls Tryd.prog 19 #[.complex .f64 x y, .complex .f64 u v] w fun e w' => ∃ v, e = .returned v ∧ res r i (a * c - b * d) (a * d + b * c) v ∧ Below w.heap.size w w' := by
  have hF := fun w => formed_yes x y a b h w
  have hG := fun w => formed_yes u v c d k w
  have hmul : ∀ W : World, (binOp .mul 24 (.complex .f64 x y) (.complex .f64 u v)).run Tryd.prog W = .ok (.complex .f64 p q) W := fun W => run_complex_mul W _ _ _ _ _ _ _ hp
  have hadd : ∀ W : World, (binOp .add 24 (.complex .f64 p q) (.complex .f64 0 0)).run Tryd.prog W = .ok (.complex .f64 r i) W := fun W => run_complex_sum W .add (Or.inl rfl) _ _ _ _ _ _ _ _ hs
  by_cases hin : InB (a * c - b * d) (a * d + b * c)
  · have hW := fun w => within_yes r i _ _ (fw_num hr hi hin) w
    have hres : res r i (a * c - b * d) (a * d + b * c) (.tuple #[.complex .f64 r i, .int .i64 0]) := Or.inl ⟨hin, rfl⟩
    replace hres := hide hres
    clear h k hs hr hi hin hp
    go_enter Tryd.func19, Tryd.ntmps19
    go_wp2_with (go_at_call 12; fail)
    refine (hF _).mono ?_
    rintro e w1 ⟨rfl, hb1⟩
    go_wp2_with (go_at_call 12; fail)
    refine (hG _).mono ?_
    rintro e w2 ⟨rfl, hb2⟩
    go_wp2_with (go_at_call 34; refine (hW _).mono ?_; rintro e w3 ⟨rfl, hb3⟩)
    go_ret2
    have hbb := hb1.trans (hb2.mono hb1.size)
    exact ⟨_, rfl, hres.out, hbb.trans (hb3.mono hbb.size)⟩
  · have hW := fun w => within_no r i ⟨hr.lt⟩ ⟨hi.lt⟩ (fw_nonum hr hi hin) w
    have hres : res r i (a * c - b * d) (a * d + b * c) (.tuple #[.complex .f64 0 0, .int .i64 3]) := Or.inr ⟨hin, rfl⟩
    replace hres := hide hres
    clear h k hs hr hi hin hp
    go_enter Tryd.func19, Tryd.ntmps19
    go_wp2_with (go_at_call 12; fail)
    refine (hF _).mono ?_
    rintro e w1 ⟨rfl, hb1⟩
    go_wp2_with (go_at_call 12; fail)
    refine (hG _).mono ?_
    rintro e w2 ⟨rfl, hb2⟩
    go_wp2_with (go_at_call 34; refine (hW _).mono ?_; rintro e w3 ⟨rfl, hb3⟩)
    go_ret2
    have hbb := hb1.trans (hb2.mono hb1.size)
    exact ⟨_, rfl, hres.out, hbb.trans (hb3.mono hbb.size)⟩

end Go.Proofs.YtmbinnahndiboaaDoor
