/-
  strings.IndexRune in the text "+-", whatever the rune. By an AI agent.
-/
import Derived.Test.YtedenhfpbabjkaaGreatDoorTabs
import Derived.Test.YtedenhfpbabjkaaGreatDoorWords
import Derived.Test.YtedenhfpbabjkaaGreatDoorGrow
import Derived.Test.YtedenhfpbabjkaaGreatDoorScope
import Derived.WalkLawsBesides
import Derived.Handy
import Derived.BigQuiet
import Derived.Laws.RangeString
namespace Go.Proofs.YtedenhfpbabjkaaGreatDoor
open Go.RowKit

/-- Where a sign stands in "+-". -/
def sgnAt (r : Int) : Int := if r = 43 then 0 else if r = 45 then 1 else -1

theorem idx_ascii (r : Int) (h0 : 0 ≤ r) (h1 : r < 128) (w : World) :
    Calls Tryz.prog 91 #[.string ⟨#[43, 45]⟩, .int .i32 r] w fun e w' => e = .returned (.int .i64 (sgnAt r)) ∧ Below w.heap.size w w' := by
  refine (Tryz.strings_IndexRune_ascii ⟨#[43, 45]⟩ r w h0 h1).mono ?_
  rintro e w' ⟨rfl, rfl⟩
  refine ⟨?_, Below.refl _ _⟩
  have h : ∀ k : Fin 128, Lib.indexByte ([43, 45] : List UInt8) k.val.toUInt8 = sgnAt (k.val : Int) := by decide +kernel
  have h2 := h ⟨r.toNat, by omega⟩
  have e1 : ((r.toNat : Nat) : Int) = r := by omega
  simp only [e1] at h2
  rw [h2]

theorem wp_scope_none {P : Program} {c : Code} {Q : Exit → Act → World → Prop} {a : Act} {w : World} (h : c.wp P (Exit.jumps (fun _ _ _ => False) Q) a w) : (Code.scope c).wp P Q a w :=
  wp_scope_labels (fun _ => .skip) (fun _ _ _ => False) (fun _ _ _ => 0) (fun _ _ _ h => h.elim) h (fun _ _ _ h => h.elim)

theorem valid_of {r : Int} (h : (!Lib.validRune r) = false) : Utf8.valid r = true := by
  simp only [Lib.validRune, Bool.not_eq_false', decide_eq_true_eq] at h
  simp only [Utf8.valid, Bool.or_eq_true, Bool.and_eq_true, decide_eq_true_eq]
  omega

theorem enc_high (r : Int) (h0 : 128 ≤ r) (hv : Utf8.valid r = true) : (∃ x y : UInt8, Utf8.encode r = ⟨#[x, y]⟩ ∧ 128 ≤ y.toNat) ∨ (∃ x y z : UInt8, Utf8.encode r = ⟨#[x, y, z]⟩) ∨ ∃ x y z t : UInt8, Utf8.encode r = ⟨#[x, y, z, t]⟩ := by
  unfold Utf8.encode
  simp only [hv, if_true]
  rw [if_neg (by omega)]
  split
  · refine Or.inl ⟨_, _, rfl, ?_⟩
    have : 0x80 + r.toNat % 64 < 256 := by omega
    simp only [UInt8.toNat_ofNat']
    omega
  · split
    · exact Or.inr (Or.inl ⟨_, _, _, rfl⟩)
    · exact Or.inr (Or.inr ⟨_, _, _, _, rfl⟩)

theorem sgn_next (w : World) (ty : TypeId) (P : Program) : (Instr.next (.pointer (some ⟨w.heap.size, 0, none⟩)) true ty).run P (w.iter ⟨#[43, 45]⟩ 0) = .ok (.tuple #[.bool true, .int .i64 0, .int .i32 43]) (w.iter ⟨#[43, 45]⟩ 1) :=
  run_next_ascii w ⟨#[43, 45]⟩ 0 ty (by decide) (by decide)
theorem sgn_next1 (w : World) (ty : TypeId) (P : Program) : (Instr.next (.pointer (some ⟨w.heap.size, 0, none⟩)) true ty).run P (w.iter ⟨#[43, 45]⟩ 1) = .ok (.tuple #[.bool true, .int .i64 1, .int .i32 45]) (w.iter ⟨#[43, 45]⟩ 2) :=
  run_next_ascii w ⟨#[43, 45]⟩ 1 ty (by decide) (by decide)
theorem sgn_next2 (w : World) (ty : TypeId) (P : Program) : (Instr.next (.pointer (some ⟨w.heap.size, 0, none⟩)) true ty).run P (w.iter ⟨#[43, 45]⟩ 2) = .ok (.tuple #[.bool false]) (w.iter ⟨#[43, 45]⟩ 2) :=
  run_next_end w ⟨#[43, 45]⟩ 2 ty (by decide)

set_option maxRecDepth 100000 in
set_option maxHeartbeats 4000000 in
theorem idx_bad (w : World) :
    Calls Tryz.prog 91 #[.string ⟨#[43, 45]⟩, .int .i32 65533] w fun e w' => e = .returned (.int .i64 (-1)) ∧ Below w.heap.size w w' := by
  have n0 := fun ty => sgn_next w ty Tryz.prog
  have n1 := fun ty => sgn_next1 w ty Tryz.prog
  have n2 := fun ty => sgn_next2 w ty Tryz.prog
  have hb : Below w.heap.size w (w.iter ⟨#[43, 45]⟩ 2) := (Below.refl _ w).alloc (Nat.le_refl _) _
  go_enter Tryz.func91, Tryz.ntmps91
  go_wp2
  go_rounds 3
  go_ret
  exact ⟨rfl, hb⟩

set_option maxRecDepth 100000 in
set_option maxHeartbeats 4000000 in
theorem idx_high (r : Int) (h0 : 128 ≤ r) (h1 : r ≤ 1114111) (w : World) :
    Calls Tryz.prog 91 #[.string ⟨#[43, 45]⟩, .int .i32 r] w fun e w' => e = .returned (.int .i64 (-1)) ∧ Below w.heap.size w w' := by
  by_cases hr : r = 65533
  · subst hr
    exact idx_bad w
  · have hv := fun w => Tryz.utf8_ValidRune r w
    go_enter Tryz.func91, Tryz.ntmps91
    go_wp2_with (go_at_call 116; refine (hv _).mono ?_; rintro e w' ⟨rfl, rfl⟩)
    · go_ret
      exact ⟨rfl, Below.refl _ _⟩
    · have hh : (!Lib.validRune r) = false := by assumption
      have hval : Utf8.valid r = true := valid_of hh
      clear hh
      rcases enc_high r h0 hval with ⟨x, y, hE, hy⟩ | ⟨x, y, z, hE⟩ | ⟨x, y, z, t, hE⟩
      · have hy1 : ((45 : Int) == (y.toNat : Int)) = false := by simp; omega
        have hib := fun w => Tryz.strings_IndexByte ⟨#[]⟩ (y.toNat : Int) w
        have hsl : ∀ W : World, (Instr.slice 9 (.string ⟨#[43, 45]⟩) (some (.int .i64 2)) none none).run Tryz.prog W = .ok (.string ⟨#[]⟩) W := fun W => by kernel_rfl
        refine wp_scope_none ?_
        go_wp2
        refine wp_loop_rounds 1 ?_
        rw [rounds_succ]
        go_wp2
        refine wp_scope_none ?_
        go_wp2
        go_quiet (fail)
        go_wp2
        refine grow_begin (by kernel_rfl) ?_
        refine grow_take 0 (some 34) (v := ?va0) rfl rfl (by kernel_rfl) (by kernel_rfl) (by kernel_rfl) (fun _ _ _ h => h) (by rfl) (fun W hW => ?ya0) ?_
        case ya0 =>
          go_simp <;> with_reducible rfl
        try simp only [Act.put, List.setIfInBounds_toArray, List.set_cons_zero, List.set_cons_succ]
        refine grow_take 1 (some 35) (v := ?va1) rfl rfl (by kernel_rfl) (by kernel_rfl) (by kernel_rfl) (fun _ _ _ h => h) (by rfl) (fun W hW => ?ya1) ?_
        case ya1 =>
          go_simp <;> with_reducible rfl
        try simp only [Act.put, List.setIfInBounds_toArray, List.set_cons_zero, List.set_cons_succ]
        refine grow_take 2 (some 36) (v := ?va2) rfl rfl (by kernel_rfl) (by kernel_rfl) (by kernel_rfl) (fun _ _ _ h => h) (by rfl) (fun W hW => ?ya2) ?_
        case ya2 =>
          go_simp <;> with_reducible rfl
        try simp only [Act.put, List.setIfInBounds_toArray, List.set_cons_zero, List.set_cons_succ]
        refine grow_take 3 (some 37) (v := ?va3) rfl rfl (by kernel_rfl) (by kernel_rfl) (by kernel_rfl) (fun _ _ _ h => h) (by rfl) (fun W hW => ?ya3) ?_
        case ya3 =>
          have hw2 : IntKind.i64.wrap 2 = 2 := by decide
          have hx : (ByteArray.mk #[43, 45]).extract (2 : Int).toNat 2 = ⟨#[]⟩ := by rfl
          go_simp <;> with_reducible rfl
        try simp only [Act.put, List.setIfInBounds_toArray, List.set_cons_zero, List.set_cons_succ]
        refine grow_take 4 (some 38) (v := ?va4) rfl rfl (by kernel_rfl) (by kernel_rfl) (by kernel_rfl) (fun _ _ _ h => h) (by rfl) (fun W hW => ?ya4) ?_
        case ya4 =>
          go_simp <;> with_reducible rfl
        try simp only [Act.put, List.setIfInBounds_toArray, List.set_cons_zero, List.set_cons_succ]
        refine grow_take 5 (some 39) (v := ?va5) rfl rfl (by kernel_rfl) (by kernel_rfl) (by kernel_rfl) (fun _ _ _ h => h) (by rfl) (fun W hW => ?ya5) ?_
        case ya5 =>
          go_simp <;> with_reducible rfl
        try simp only [Act.put, List.setIfInBounds_toArray, List.set_cons_zero, List.set_cons_succ]
        refine grow_take 6 (some 40) (v := ?va6) rfl rfl (by kernel_rfl) (by kernel_rfl) (by kernel_rfl) (fun _ _ _ h => h) (by rfl) (fun W hW => ?ya6) ?_
        case ya6 =>
          go_simp <;> with_reducible rfl
        try simp only [Act.put, List.setIfInBounds_toArray, List.set_cons_zero, List.set_cons_succ]
        refine grow_only 7 rfl (by kernel_rfl) (fun K hK => ?_)
        go_simp
        refine (hib _).mono ?_
        rintro e w1 ⟨rfl, rfl⟩
        refine hK.out _ _ (Below.refl _ _) ?_
        clear hK K
        try simp only [Act.put, List.setIfInBounds_toArray, List.set_cons_zero, List.set_cons_succ]
        refine grow_take 8 (some 11) (v := ?va8) rfl rfl (by kernel_rfl) (by kernel_rfl) (by kernel_rfl) (fun _ _ _ h => h) (by rfl) (fun W hW => ?ya8) ?_
        case ya8 =>
          go_simp <;> with_reducible rfl
        try simp only [Act.put, List.setIfInBounds_toArray, List.set_cons_zero, List.set_cons_succ]
        refine grow_done (by kernel_rfl) ?_ _
        go_wp2
        all_goals first
          | (exfalso
             have hne : ((45 : Int) != (y.toNat : Int)) = false := by assumption
             simp at hne
             omega)
          | (exfalso
             have hni : ¬ Lib.indexByte [] y < 0 := by assumption
             exact hni (by decide))
          | (simp only [Exit.jumps, Exit.inBlock, Exit.then]
             show bodyPost Tryz.prog Tryz.f91 (fun e w2 => e = .returned (.int .i64 (-1)) ∧ Below w'.heap.size w' w2) Exit.ret _ _
             go_ret
             exact ⟨rfl, (Below.refl _ _).trans (Below.drewN (Below.refl _ _) _)⟩)
      · refine wp_scope_none ?_
        go_wp2
        refine wp_loop_rounds 1 ?_
        rw [rounds_succ]
        go_wp2
        simp only [Exit.jumps]
        go_ret
        exact ⟨rfl, Below.refl _ _⟩
      · refine wp_scope_none ?_
        go_wp2
        refine wp_loop_rounds 1 ?_
        rw [rounds_succ]
        go_wp2
        simp only [Exit.jumps]
        go_ret
        exact ⟨rfl, Below.refl _ _⟩

end Go.Proofs.YtedenhfpbabjkaaGreatDoor
