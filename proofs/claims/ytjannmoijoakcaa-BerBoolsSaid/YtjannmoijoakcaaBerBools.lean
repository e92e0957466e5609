/-
  'BerBools': a boolean's content is one byte, and comes back; any one byte is one.
-/
import Derived.Test.YtjannmoijoakcaaBerBool
import Derived.Test.YtjannmoijoakcaaGrow
namespace Go.Proofs.Ytjannmoijoakcaa.Ber
open Go.RowKit

set_option linter.unusedSimpArgs false
set_option maxRecDepth 100000 in
set_option maxHeartbeats 1600000 in
theorem bools_walk (b : Bool) (w : World) (A : Option Addr) (n c : Nat) (l : List UInt8) (h : Has w w.heap.size 1 A n (bys l)) (hc : n ≤ c) (hm : c ≤ maxLen) :
    Calls Try.prog 6 #[.bool b, .slice A n c] w fun e w' => e = .returned (.bool true) ∧ Below w.heap.size w w' := by
  obtain ⟨x, hx⟩ : ∃ x, x = c8 (if b then 255 else 0) := ⟨_, rfl⟩
  obtain ⟨t, ht⟩ : ∃ t, t = txt [if b then 255 else 0] := ⟨_, rfl⟩
  have hb1 : Below w.heap.size w (w.alloc (.cells #[x] 5)) := (Below.refl _ _).alloc (Nat.le_refl _) _
  have hH := has_one w x 5
  have hbool := bool_any b w
  rw [← hx] at hbool
  have htb := tobool_any (w.alloc (.cells #[x] 5)) _ _ 1 1 [if b then 255 else 0] (by rw [hx] at hH ⊢; exact hH) (Nat.le_refl _) (by unfold maxLen; omega)
  have htc := tobool_any (w.alloc (.cells #[x] 5)) _ _ n c l (h.below hb1) hc hm
  have hrc := rtobool_any (w.alloc (.cells #[x] 5)) _ _ n c l (h.below hb1) hc hm
  have e1 : toBool [if b then 255 else 0] = (b, 0) := by cases b <;> rfl
  rw [e1] at htb
  have hs : ∀ W : World, Below (w.heap.size + 1) (w.alloc (.cells #[x] 5)) W → (convert 22 9 (.slice (some ⟨w.heap.size, 0, none⟩) 1 1)).run Try.prog W = .ok (.string t) W :=
    fun W hW => by
      rw [ht]
      exact run_txt W (l := [if b then 255 else 0]) (by rw [hx] at hH hW; exact hH.below hW) _ _ 5 Try.underlying22 Try.underlying5 Try.underlying9
  obtain ⟨z, hz⟩ : ∃ z, z = (toBool l).1 := ⟨_, rfl⟩
  obtain ⟨f, hf⟩ : ∃ f, f = (toBool l).2 := ⟨_, rfl⟩
  rw [← hz, ← hf] at htc hrc
  have H1 := hide hbool
  have H2 := hide htb
  have H3 := hide htc
  have H4 := hide hrc
  have HT := hide ht
  have HX := hide hx
  have HS := hide hs
  clear hbool htb htc hrc ht hx hz hf hH h e1 hs
  go_enter Try.func6, Try.ntmps6
  go_wp2_with fail
  refine H1.out.mono ?_
  rintro e w' ⟨rfl, rfl⟩
  go_wp2_with fail
  refine H2.out.mono ?_
  rintro e w' ⟨rfl, rfl⟩
  go_wp2_with fail
  refine H3.out.mono ?_
  rintro e w' ⟨rfl, rfl⟩
  go_wp2_with fail
  refine H4.out.mono ?_
  rintro e w' ⟨rfl, rfl⟩
  go_wp2
  obtain ⟨w1, hw1⟩ : ∃ w1, w1 = w.alloc (.cells #[x] 5) := ⟨_, rfl⟩
  have hs := HS.out
  rw [← hw1] at hs hb1 ⊢
  have hsz : Hid (w1.heap.size = w.heap.size + 1) := by rw [hw1]; simp [Hid]
  clear hw1 H1 H2 H3 H4 HS
  have hbd : Below (w.heap.size + 1) w1 w1.drew := (Below.refl _ _).drew
  refine grow_begin (by kernel_rfl) ?_
  refine grow_take 0 (some 29) (v := ?va0) rfl rfl (by kernel_rfl) (by kernel_rfl) (by kernel_rfl) (fun _ _ _ h => h) (by rfl) (fun W hW => ?ya0) ?_
  case ya0 =>
    go_simp <;> with_reducible rfl
  simp only [Act.put, List.setIfInBounds_toArray, List.set_cons_zero, List.set_cons_succ]
  refine grow_take 1 (some 30) (v := ?va1) rfl rfl (by kernel_rfl) (by kernel_rfl) (by kernel_rfl) (fun _ _ _ h => h) (by rfl) (fun W hW => ?ya1) ?_
  case ya1 =>
    have h1 := hs W (hbd.trans (hW.mono (Nat.le_of_eq hsz.out.symm)))
    go_simp <;> with_reducible rfl
  simp only [Act.put, List.setIfInBounds_toArray, List.set_cons_zero, List.set_cons_succ]
  refine grow_take 2 (some 31) (v := ?va2) rfl rfl (by kernel_rfl) (by kernel_rfl) (by kernel_rfl) (fun _ _ _ h => h) (by rfl) (fun W hW => ?ya2) ?_
  case ya2 =>
    go_simp <;> with_reducible rfl
  simp only [Act.put, List.setIfInBounds_toArray, List.set_cons_zero, List.set_cons_succ]
  refine grow_only 3 rfl (by kernel_rfl) (fun K hK => ?_)
  go_simp
  refine (rbool_own b _).mono ?_
  rintro e w2 ⟨v2, rfl, hown2, hb2⟩
  obtain ⟨A2, c2, rfl, _, hH2⟩ := own_form hown2
  refine hK.out _ _ hb2 ?_
  clear hK K hown2
  try simp only [Act.put, List.setIfInBounds_toArray, List.set_cons_zero, List.set_cons_succ]
  refine grow_take 4 (some 33) (v := ?va4) rfl rfl (by kernel_rfl) (by kernel_rfl) (by kernel_rfl) (fun _ _ _ h => h) (by rfl) (fun W hW => ?ya4) ?_
  case ya4 =>
    have h1 := run_txt W (c := c2) (hH2.below hW) 22 9 5 Try.underlying22 Try.underlying5 Try.underlying9
    rw [← HT.out] at h1
    go_simp <;> with_reducible rfl
  simp only [Act.put, List.setIfInBounds_toArray, List.set_cons_zero, List.set_cons_succ]
  refine grow_take 5 (some 34) (v := ?va5) rfl rfl (by kernel_rfl) (by kernel_rfl) (by kernel_rfl) (fun _ _ _ h => h) (by rfl) (fun W hW => ?ya5) ?_
  case ya5 =>
    go_simp <;> with_reducible rfl
  simp only [Act.put, List.setIfInBounds_toArray, List.set_cons_zero, List.set_cons_succ]
  refine grow_take 6 (some 35) (v := ?va6) rfl rfl (by kernel_rfl) (by kernel_rfl) (by kernel_rfl) (fun _ _ _ h => h) (by rfl) (fun W hW => ?ya6) ?_
  case ya6 =>
    go_simp <;> with_reducible rfl
  simp only [Act.put, List.setIfInBounds_toArray, List.set_cons_zero, List.set_cons_succ]
  refine grow_take 7 (some 36) (v := ?va7) rfl rfl (by kernel_rfl) (by kernel_rfl) (by kernel_rfl) (fun _ _ _ h => h) (by rfl) (fun W hW => ?ya7) ?_
  case ya7 =>
    go_simp <;> with_reducible rfl
  simp only [Act.put, List.setIfInBounds_toArray, List.set_cons_zero, List.set_cons_succ]
  refine grow_take 8 (some 37) (v := ?va8) rfl rfl (by kernel_rfl) (by kernel_rfl) (by kernel_rfl) (fun _ _ _ h => h) (by rfl) (fun W hW => ?ya8) ?_
  case ya8 =>
    go_simp <;> with_reducible rfl
  simp only [Act.put, List.setIfInBounds_toArray, List.set_cons_zero, List.set_cons_succ]
  refine grow_take 9 (some 38) (v := ?va9) rfl rfl (by kernel_rfl) (by kernel_rfl) (by kernel_rfl) (fun _ _ _ h => h) (by rfl) (fun W hW => ?ya9) ?_
  case ya9 =>
    go_simp <;> with_reducible rfl
  simp only [Act.put, List.setIfInBounds_toArray, List.set_cons_zero, List.set_cons_succ]
  refine grow_take 10 (some 39) (v := ?va10) rfl rfl (by kernel_rfl) (by kernel_rfl) (by kernel_rfl) (fun _ _ _ h => h) (by rfl) (fun W hW => ?ya10) ?_
  case ya10 =>
    go_simp <;> with_reducible rfl
  simp only [Act.put, List.setIfInBounds_toArray, List.set_cons_zero, List.set_cons_succ]
  refine grow_take 11 (some 40) (v := ?va11) rfl rfl (by kernel_rfl) (by kernel_rfl) (by kernel_rfl) (fun _ _ _ h => h) (by rfl) (fun W hW => ?ya11) ?_
  case ya11 =>
    go_simp <;> with_reducible rfl
  simp only [Act.put, List.setIfInBounds_toArray, List.set_cons_zero, List.set_cons_succ]
  refine grow_take 12 (some 41) (v := ?va12) rfl rfl (by kernel_rfl) (by kernel_rfl) (by kernel_rfl) (fun _ _ _ h => h) (by rfl) (fun W hW => ?ya12) ?_
  case ya12 =>
    go_simp <;> with_reducible rfl
  simp only [Act.put, List.setIfInBounds_toArray, List.set_cons_zero, List.set_cons_succ]
  refine grow_take 13 (some 42) (v := ?va13) rfl rfl (by kernel_rfl) (by kernel_rfl) (by kernel_rfl) (fun _ _ _ h => h) (by rfl) (fun W hW => ?ya13) ?_
  case ya13 =>
    go_simp <;> with_reducible rfl
  simp only [Act.put, List.setIfInBounds_toArray, List.set_cons_zero, List.set_cons_succ]
  refine grow_take 14 (some 43) (v := ?va14) rfl rfl (by kernel_rfl) (by kernel_rfl) (by kernel_rfl) (fun _ _ _ h => h) (by rfl) (fun W hW => ?ya14) ?_
  case ya14 =>
    go_simp <;> with_reducible rfl
  simp only [Act.put, List.setIfInBounds_toArray, List.set_cons_zero, List.set_cons_succ]
  refine grow_take 15 (some 44) (v := ?va15) rfl rfl (by kernel_rfl) (by kernel_rfl) (by kernel_rfl) (fun _ _ _ h => h) (by rfl) (fun W hW => ?ya15) ?_
  case ya15 =>
    go_simp <;> with_reducible rfl
  simp only [Act.put, List.setIfInBounds_toArray, List.set_cons_zero, List.set_cons_succ]
  refine grow_take 16 (some 45) (v := ?va16) rfl rfl (by kernel_rfl) (by kernel_rfl) (by kernel_rfl) (fun _ _ _ h => h) (by rfl) (fun W hW => ?ya16) ?_
  case ya16 =>
    go_simp <;> with_reducible rfl
  simp only [Act.put, List.setIfInBounds_toArray, List.set_cons_zero, List.set_cons_succ]
  refine grow_take 17 (some 46) (v := ?va17) rfl rfl (by kernel_rfl) (by kernel_rfl) (by kernel_rfl) (fun _ _ _ h => h) (by rfl) (fun W hW => ?ya17) ?_
  case ya17 =>
    go_simp <;> with_reducible rfl
  simp only [Act.put, List.setIfInBounds_toArray, List.set_cons_zero, List.set_cons_succ]
  refine grow_take 18 (some 47) (v := ?va18) rfl rfl (by kernel_rfl) (by kernel_rfl) (by kernel_rfl) (fun _ _ _ h => h) (by rfl) (fun W hW => ?ya18) ?_
  case ya18 =>
    go_simp <;> with_reducible rfl
  simp only [Act.put, List.setIfInBounds_toArray, List.set_cons_zero, List.set_cons_succ]
  refine grow_take 19 (some 48) (v := ?va19) rfl rfl (by kernel_rfl) (by kernel_rfl) (by kernel_rfl) (fun _ _ _ h => h) (by rfl) (fun W hW => ?ya19) ?_
  case ya19 =>
    go_simp <;> with_reducible rfl
  simp only [Act.put, List.setIfInBounds_toArray, List.set_cons_zero, List.set_cons_succ]
  refine grow_take 20 (some 49) (v := ?va20) rfl rfl (by kernel_rfl) (by kernel_rfl) (by kernel_rfl) (fun _ _ _ h => h) (by rfl) (fun W hW => ?ya20) ?_
  case ya20 =>
    go_simp <;> with_reducible rfl
  simp only [Act.put, List.setIfInBounds_toArray, List.set_cons_zero, List.set_cons_succ]
  refine grow_take 21 (some 50) (v := ?va21) rfl rfl (by kernel_rfl) (by kernel_rfl) (by kernel_rfl) (fun _ _ _ h => h) (by rfl) (fun W hW => ?ya21) ?_
  case ya21 =>
    go_simp <;> with_reducible rfl
  simp only [Act.put, List.setIfInBounds_toArray, List.set_cons_zero, List.set_cons_succ]
  refine grow_take 22 (some 51) (v := ?va22) rfl rfl (by kernel_rfl) (by kernel_rfl) (by kernel_rfl) (fun _ _ _ h => h) (by rfl) (fun W hW => ?ya22) ?_
  case ya22 =>
    go_simp <;> with_reducible rfl
  simp only [Act.put, List.setIfInBounds_toArray, List.set_cons_zero, List.set_cons_succ]
  refine grow_take 23 (some 52) (v := ?va23) rfl rfl (by kernel_rfl) (by kernel_rfl) (by kernel_rfl) (fun _ _ _ h => h) (by rfl) (fun W hW => ?ya23) ?_
  case ya23 =>
    go_simp <;> with_reducible rfl
  simp only [Act.put, List.setIfInBounds_toArray, List.set_cons_zero, List.set_cons_succ]
  refine grow_take 24 (some 53) (v := ?va24) rfl rfl (by kernel_rfl) (by kernel_rfl) (by kernel_rfl) (fun _ _ _ h => h) (by rfl) (fun W hW => ?ya24) ?_
  case ya24 =>
    go_simp <;> with_reducible rfl
  simp only [Act.put, List.setIfInBounds_toArray, List.set_cons_zero, List.set_cons_succ]
  refine grow_take 25 (some 4) (v := ?va25) rfl rfl (by kernel_rfl) (by kernel_rfl) (by kernel_rfl) (fun _ _ _ h => h) (by rfl) (fun W hW => ?ya25) ?_
  case ya25 =>
    go_simp <;> with_reducible rfl
  simp only [Act.put, List.setIfInBounds_toArray, List.set_cons_zero, List.set_cons_succ]
  refine grow_done (by kernel_rfl) ?_ _
  go_wp2
  go_ret
  exact ⟨rfl, hb1.trans ((hbd.trans (hb2.mono (Nat.le_of_eq hsz.out.symm))).mono (by omega))⟩

end Go.Proofs.Ytjannmoijoakcaa.Ber
