/-
  'BerFields': any content is laid into a field as the document says.
-/
import Derived.Test.YtjannmoijoakcaaBerField
namespace Go.Proofs.Ytjannmoijoakcaa.Ber
open Go.RowKit
set_option linter.unusedSimpArgs false

set_option maxRecDepth 100000 in
set_option maxHeartbeats 800000 in
theorem fields_of (k : Int) (F : List UInt8) (w : World) (A : Option Addr) (n c : Nat) (l : List UInt8) (h : Has w w.heap.size 1 A n (bys l))
    (H1 : Hid (∀ w1 : World, Has w1 w.heap.size 1 A n (bys l) → w.heap.size ≤ w1.heap.size → Calls Try.prog 15 #[.int .u8 k, .slice A n c] w1 fun e w' => ∃ v, e = .returned v ∧ w'.ownsRow w1.heap.size 5 1 v F.length (bys F) ∧ Below w1.heap.size w1 w'))
    (H2 : Hid (∀ w1 : World, Has w1 w.heap.size 1 A n (bys l) → w.heap.size ≤ w1.heap.size → Calls Try.prog 16 #[.int .u8 k, .slice A n c] w1 fun e w' => ∃ v, e = .returned v ∧ w'.ownsRow w1.heap.size 5 1 v F.length (bys F) ∧ Below w1.heap.size w1 w')) :
    Calls Try.prog 4 #[.int .u8 k, .slice A n c] w fun e w' => e = .returned (.bool true) ∧ Below w.heap.size w w' := by
  have hbd : Below w.heap.size w w.drew := (Below.refl _ _).drew
  go_enter Try.func4, Try.ntmps4
  go_wp2
  refine grow_begin (by kernel_rfl) ?_
  refine grow_take 0 (some 5) (v := ?va0) rfl rfl (by kernel_rfl) (by kernel_rfl) (by kernel_rfl) (fun _ _ _ h => h) (by rfl) (fun W hW => ?ya0) ?_
  case ya0 =>
    go_simp <;> with_reducible rfl
  simp only [Act.put, List.setIfInBounds_toArray, List.set_cons_zero, List.set_cons_succ]
  refine grow_take 1 (some 6) (v := ?va1) rfl rfl (by kernel_rfl) (by kernel_rfl) (by kernel_rfl) (fun _ _ _ h => h) (by rfl) (fun W hW => ?ya1) ?_
  case ya1 =>
    go_simp <;> with_reducible rfl
  simp only [Act.put, List.setIfInBounds_toArray, List.set_cons_zero, List.set_cons_succ]
  refine grow_take 4 (some 9) (v := ?va4) rfl rfl (by kernel_rfl) (by kernel_rfl) (by kernel_rfl) (fun _ _ _ h => h) (by rfl) (fun W hW => ?ya4) ?_
  case ya4 =>
    go_simp <;> with_reducible rfl
  simp only [Act.put, List.setIfInBounds_toArray, List.set_cons_zero, List.set_cons_succ]
  refine grow_take 5 (some 10) (v := ?va5) rfl rfl (by kernel_rfl) (by kernel_rfl) (by kernel_rfl) (fun _ _ _ h => h) (by rfl) (fun W hW => ?ya5) ?_
  case ya5 =>
    go_simp <;> with_reducible rfl
  simp only [Act.put, List.setIfInBounds_toArray, List.set_cons_zero, List.set_cons_succ]
  refine grow_only 2 rfl (by kernel_rfl) (fun K hK => ?_)
  go_simp
  refine (H1.out _ (h.below hbd) (Nat.le_refl _)).mono ?_
  rintro e w1 ⟨v1, rfl, hown1, hb1⟩
  obtain ⟨A1, c1, rfl, _, hH1⟩ := own_form hown1
  refine hK.out _ _ hb1 ?_
  clear hK K hown1
  try simp only [Act.put, List.setIfInBounds_toArray, List.set_cons_zero, List.set_cons_succ]
  refine grow_take 3 (some 8) (v := ?va3) rfl rfl (by kernel_rfl) (by kernel_rfl) (by kernel_rfl) (fun _ _ _ h => h) (by rfl) (fun W hW => ?ya3) ?_
  case ya3 =>
    have h1 := txt8 W c1 (hH1.below hW)
    go_simp <;> with_reducible rfl
  simp only [Act.put, List.setIfInBounds_toArray, List.set_cons_zero, List.set_cons_succ]
  refine grow_only 6 rfl (by kernel_rfl) (fun K hK => ?_)
  go_simp
  refine (H2.out _ (h.below (hbd.trans (hb1.mono (by simp)))) (hb1.size)).mono ?_
  rintro e w2 ⟨v2, rfl, hown2, hb2⟩
  obtain ⟨A2, c2, rfl, _, hH2⟩ := own_form hown2
  refine hK.out _ _ hb2 ?_
  clear hK K hown2
  try simp only [Act.put, List.setIfInBounds_toArray, List.set_cons_zero, List.set_cons_succ]
  refine grow_take 7 (some 12) (v := ?va7) rfl rfl (by kernel_rfl) (by kernel_rfl) (by kernel_rfl) (fun _ _ _ h => h) (by rfl) (fun W hW => ?ya7) ?_
  case ya7 =>
    have h2 := txt8 W c2 (hH2.below hW)
    go_simp <;> with_reducible rfl
  simp only [Act.put, List.setIfInBounds_toArray, List.set_cons_zero, List.set_cons_succ]
  refine grow_take 8 (some 13) (v := ?va8) rfl rfl (by kernel_rfl) (by kernel_rfl) (by kernel_rfl) (fun _ _ _ h => h) (by rfl) (fun W hW => ?ya8) ?_
  case ya8 =>
    go_simp <;> with_reducible rfl
  simp only [Act.put, List.setIfInBounds_toArray, List.set_cons_zero, List.set_cons_succ]
  refine grow_take 9 (some 4) (v := ?va9) rfl rfl (by kernel_rfl) (by kernel_rfl) (by kernel_rfl) (fun _ _ _ h => h) (by rfl) (fun W hW => ?ya9) ?_
  case ya9 =>
    go_simp <;> with_reducible rfl
  simp only [Act.put, List.setIfInBounds_toArray, List.set_cons_zero, List.set_cons_succ]
  refine grow_done (by kernel_rfl) ?_ _
  go_wp2
  go_ret
  exact ⟨rfl, hbd.trans ((hb1.mono (by simp)).trans (hb2.mono hb1.size))⟩

theorem fields_walk (tag : UInt8) (w : World) (A : Option Addr) (n c : Nat) (l : List UInt8) (h : Has w w.heap.size 1 A n (bys l)) (hn : n ≤ 140737488351232) :
    Calls Try.prog 4 #[.int .u8 (tag.toNat : Int), .slice A n c] w fun e w' => e = .returned (.bool true) ∧ Below w.heap.size w w' :=
  fields_of (tag.toNat : Int) (fieldOf tag l) w A n c l h (hide fun w1 h1 hs => field_any tag w1 _ A n c l h1 hs hn) (hide fun w1 h1 hs => rfield_any tag w1 _ A n c l h1 hs hn)

end Go.Proofs.Ytjannmoijoakcaa.Ber
