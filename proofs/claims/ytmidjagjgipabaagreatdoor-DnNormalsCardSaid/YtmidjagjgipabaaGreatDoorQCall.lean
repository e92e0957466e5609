/-
  Normal, Parent and Depth of names, by the program and by the reference. By an AI agent.
-/
import Derived.Test.YtmidjagjgipabaaGreatDoorQParts
namespace Go.Proofs.YtmidjagjgipabaaGreatDoor
open Go.RowKit
set_option linter.unusedVariables false

/-- Texts that are told: as the slice, and as what is owned. -/
structure Told (w w' : World) (A : Option Addr) (c : Nat) (T : List (List UInt8)) (n : Nat) : Prop where
  own : w'.ownsRow w.heap.size 9 1 (.slice A n c) n (strs T)
  has : Has w' w'.heap.size 1 A n (strs T)
  cap : n ≤ c

theorem told_of {R : Option (List (List UInt8)) × Int} {T : List (List UInt8)} (hR : R = (some T, 0)) {w w' : World} {e : Ending} (h : TextsPost R w e w') :
    ∃ A c, e = .returned (.tuple #[.slice A T.length c, .int .i64 0]) ∧ Told w w' A c T T.length ∧ Below w.heap.size w w' := by
  subst hR
  obtain ⟨A, n, c, rfl, hn, hown, hb⟩ := h.out
  obtain rfl : n = T.length := hn
  obtain ⟨A', c', hv, hc, hH⟩ := own_form hown
  cases hv
  exact ⟨A, c, rfl, ⟨hown, hH, hc⟩, hb⟩
theorem told_no {R : Option (List (List UInt8)) × Int} {er : Int} (hR : R = (none, er)) {w w' : World} {e : Ending} (h : TextsPost R w e w') :
    ∃ A c, e = .returned (.tuple #[.slice A 0 c, .int .i64 er]) ∧ Below w.heap.size w w' := by
  subst hR
  obtain ⟨A, n, c, rfl, hn, hown, hb⟩ := h.out
  obtain rfl : n = 0 := hn
  exact ⟨A, c, rfl, hb⟩

/-- The parts' texts, by the program and by the reference, where they are told and where they aren't. -/
theorem pp_yes {l : List UInt8} (hl : l.length ≤ 1000000) {T : List (List UInt8)} (h : partsV l = (some T, 0)) (w : World) (hT : TM w) :
    Calls Tryz.prog 11 #[.string (txt l)] w fun e w' => ∃ A c, e = .returned (.tuple #[.slice A T.length c, .int .i64 0]) ∧ Told w w' A c T T.length ∧ Below w.heap.size w w' := (pparts_any l hl w hT).mono fun _ _ hp => told_of h hp
theorem pp_no {l : List UInt8} (hl : l.length ≤ 1000000) {er : Int} (h : partsV l = (none, er)) (w : World) (hT : TM w) :
    Calls Tryz.prog 11 #[.string (txt l)] w fun e w' => ∃ A c, e = .returned (.tuple #[.slice A 0 c, .int .i64 er]) ∧ Below w.heap.size w w' := (pparts_any l hl w hT).mono fun _ _ hp => told_no h hp
theorem rp_yes {l : List UInt8} (hl : l.length ≤ 1000000) {T : List (List UInt8)} (h : partsV l = (some T, 0)) (w : World) (hT : TM w) :
    Calls Tryz.prog 32 #[.string (txt l)] w fun e w' => ∃ A c, e = .returned (.tuple #[.slice A T.length c, .int .i64 0]) ∧ Told w w' A c T T.length ∧ Below w.heap.size w w' := (rparts_any l hl w hT).mono fun _ _ hp => told_of h hp
theorem rp_no {l : List UInt8} (hl : l.length ≤ 1000000) {er : Int} (h : partsV l = (none, er)) (w : World) (hT : TM w) :
    Calls Tryz.prog 32 #[.string (txt l)] w fun e w' => ∃ A c, e = .returned (.tuple #[.slice A 0 c, .int .i64 er]) ∧ Below w.heap.size w w' := (rparts_any l hl w hT).mono fun _ _ hp => told_no h hp

/-- How many parts. -/
noncomputable def depthV (l : List UInt8) : Nat := ((partsV l).1.getD []).length
/-- The name without its first part. -/
noncomputable def parentV (l : List UInt8) : List UInt8 × Bool := match (partsV l).1 with
  | some (_ :: T) => (joinC T, true)
  | _ => ([], false)

theorem fit_some {T : List (List UInt8)} (h : TextsOk T) : fitV T = (joinC T, 0) := fit_yes h
theorem sum_ok {T : List (List UInt8)} (h : TextsOk T) : (joinC T).length ≤ 100000000 := by have := h.len; omega

set_option maxRecDepth 100000 in
set_option maxHeartbeats 16000000 in
theorem pnormal_text (l : List UInt8) (hl : l.length ≤ 1000000) (w : World) (hT : TM w) :
    Calls Tryz.prog 6 #[.string (txt l)] w fun e w' => e = .returned (.tuple #[.string (txt (normT l).1), .int .i64 (normT l).2]) ∧ Below w.heap.size w w' := by
  cases pt l with
  | no er he h =>
    have hP := pp_no hl h w hT
    rw [norm_no' h]
    obtain ⟨e1, e2⟩ := err_ne he
    generalize txt l = s at *
    clear h he hl
    go_enter Tryz.func6, Tryz.ntmps6
    go_wp2_with (go_at_call 11; fail)
    refine hP.mono ?_
    rintro e w1 ⟨A, c, rfl, hb⟩
    clear hP
    go_wp2
    go_ret2
    exact ⟨rfl, hb⟩
  | ok T ho h =>
    have hP := pp_yes hl h w hT
    rw [norm_yes' h]
    have hJ := fun w A c hh hc => pjoin_any w A T.length c T hh hc (by have := ho.le; omega) (sum_ok ho)
    rw [fit_yes ho] at hJ
    simp only at hJ ⊢
    generalize txt (joinC T) = X at *
    generalize hn : T.length = n at *
    generalize txt l = s at *
    clear h ho hl hn
    go_enter Tryz.func6, Tryz.ntmps6
    go_wp2_with (go_at_call 11; fail)
    refine hP.mono ?_
    rintro e w1 ⟨A, c, rfl, htold, hb⟩
    have hJ1 := hJ w1 A c htold.has htold.cap
    clear hP hJ htold
    go_wp2_with (go_at_call 12; fail)
    refine hJ1.mono ?_
    rintro e w2 ⟨rfl, hb2⟩
    have hb3 := hb.trans (hb2.mono hb.size)
    clear hJ1 hb hb2
    go_wp2
    go_ret2
    exact ⟨rfl, hb3⟩

set_option maxRecDepth 100000 in
set_option maxHeartbeats 16000000 in
theorem rnormal_text (l : List UInt8) (hl : l.length ≤ 1000000) (w : World) (hT : TM w) :
    Calls Tryz.prog 17 #[.string (txt l)] w fun e w' => e = .returned (.tuple #[.string (txt (normT l).1), .int .i64 (normT l).2]) ∧ Below w.heap.size w w' := by
  have key : ∀ (T : List (List UInt8)) (y : Int), (joinC T).length ≤ 100000000 → T.length ≤ 10000 → normT l = (joinC T, y) → (∀ w, TM w → Calls Tryz.prog 32 #[.string (txt l)] w fun e w' => ∃ A c, e = .returned (.tuple #[.slice A T.length c, .int .i64 y]) ∧ Has w' w'.heap.size 1 A T.length (strs T) ∧ Below w.heap.size w w') →
      Calls Tryz.prog 17 #[.string (txt l)] w fun e w' => e = .returned (.tuple #[.string (txt (normT l).1), .int .i64 (normT l).2]) ∧ Below w.heap.size w w' := by
    intro T y hs hn he hP0
    have hP := hP0 w hT
    rw [he]
    have hJ := fun w A c hh => joined_any w A T.length c T hh hn hs
    simp only
    generalize txt (joinC T) = X at *
    generalize hn : T.length = n at *
    generalize txt l = s at *
    clear hs hn he hP0
    go_enter Tryz.func17, Tryz.ntmps17
    go_wp2_with (go_at_call 32; fail)
    refine hP.mono ?_
    rintro e w1 ⟨A, c, rfl, hH, hb⟩
    have hJ1 := hJ w1 A c hH
    clear hP hJ hH
    go_wp2_with (go_at_call 33; fail)
    refine hJ1.mono ?_
    rintro e w2 ⟨rfl, hw2⟩
    obtain rfl := hw2.symm
    clear hJ1 hw2
    go_wp2
    go_ret2
    exact ⟨rfl, hb⟩
  cases pt l with
  | no er he h =>
    refine key [] er (by simp [joinC]) (by simp) (by rw [norm_no' h]; rfl) fun w hT => (rp_no hl h w hT).mono ?_
    rintro e w' ⟨A, c, rfl, hb⟩
    exact ⟨A, c, rfl, ⟨rfl, .inl rfl⟩, hb⟩
  | ok T ho h =>
    refine key T 0 (sum_ok ho) (by have := ho.le; omega) (norm_yes' h) fun w hT => (rp_yes hl h w hT).mono ?_
    rintro e w' ⟨A, c, rfl, ht, hb⟩
    exact ⟨A, c, rfl, ht.has, hb⟩

/-- What stands behind the first element. -/
theorem tail_has {w : World} {B g o n c : Nat} {t : List UInt8} {T : List (List UInt8)} (h : Has w B 1 (some ⟨g, o, none⟩) n (strs (t :: T))) (hn : n = T.length + 1) : Has w B 1 (some ⟨g, o + 1, none⟩) T.length (strs T) := by
  subst hn
  have := h.from_ (k := 1) (cap := T.length + 2) (by omega) (by omega)
  rw [if_neg (by omega)] at this
  simpa [Addr.add, strs] using this

end Go.Proofs.YtmidjagjgipabaaGreatDoor
