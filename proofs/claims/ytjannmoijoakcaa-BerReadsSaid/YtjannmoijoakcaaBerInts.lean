/-
  'BerInts': any integer has the content that the document says, and comes back. 'BerReads': any bytes are the integer that the document says, or none.
-/
import Derived.Test.YtjannmoijoakcaaBerRefToInt
namespace Go.Proofs.Ytjannmoijoakcaa.Ber
open Go.RowKit
set_option linter.unusedSimpArgs false

set_option maxRecDepth 100000 in
set_option maxHeartbeats 800000 in
theorem ints_of (n : Int) (L : List UInt8) (w : World) (hL8 : L.length ≤ 8)
    (H1 : Hid (∀ W : World, Calls Try.prog 17 #[.int .i64 n] W fun e w' =>
      ∃ g, e = .returned (.slice (some ⟨g, 0, none⟩) L.length L.length) ∧ w'.ownsRow W.heap.size 5 1 (.slice (some ⟨g, 0, none⟩) L.length L.length) L.length (bys L) ∧ Below W.heap.size W w'))
    (H2 : Hid (∀ (W : World) (A : Option Addr) (c : Nat), Has W W.heap.size 1 A L.length (bys L) → L.length ≤ c → c ≤ maxLen → Calls Try.prog 18 #[.slice A L.length c] W fun e w' => e = .returned (.tuple #[.int .i64 n, .int .i64 0]) ∧ W = w'))
    (H3 : Hid (∀ W : World, Calls Try.prog 19 #[.int .i64 n] W fun e w' => ∃ v, e = .returned v ∧ w'.ownsRow W.heap.size 5 1 v L.length (bys L) ∧ Below W.heap.size W w')) :
    Calls Try.prog 5 #[.int .i64 n] w fun e w' => e = .returned (.bool true) ∧ Below w.heap.size w w' := by
  go_enter Try.func5, Try.ntmps5
  go_wp2_with fail
  refine (H1.out _).mono ?_
  rintro e w1 ⟨g, rfl, hown1, hb1⟩
  have hH1 := Has.own hown1
  clear hown1
  go_wp2_with fail
  refine (H2.out _ _ _ hH1 (Nat.le_refl _) (by unfold maxLen; omega)).mono ?_
  rintro e w' ⟨rfl, rfl⟩
  go_wp2
  have hbd : Below w1.heap.size w1 w1.drew := (Below.refl _ _).drew
  refine grow_begin (by kernel_rfl) ?_
  refine grow_take 0 (some 13) (v := ?va0) rfl rfl (by kernel_rfl) (by kernel_rfl) (by kernel_rfl) (fun _ _ _ h => h) (by rfl) (fun W hW => ?ya0) ?_
  case ya0 =>
    go_simp <;> with_reducible rfl
  simp only [Act.put, List.setIfInBounds_toArray, List.set_cons_zero, List.set_cons_succ]
  refine grow_take 1 (some 14) (v := ?va1) rfl rfl (by kernel_rfl) (by kernel_rfl) (by kernel_rfl) (fun _ _ _ h => h) (by rfl) (fun W hW => ?ya1) ?_
  case ya1 =>
    have h1 := txt8 W L.length (hH1.below (hbd.trans hW))
    go_simp <;> with_reducible rfl
  simp only [Act.put, List.setIfInBounds_toArray, List.set_cons_zero, List.set_cons_succ]
  refine grow_take 2 (some 15) (v := ?va2) rfl rfl (by kernel_rfl) (by kernel_rfl) (by kernel_rfl) (fun _ _ _ h => h) (by rfl) (fun W hW => ?ya2) ?_
  case ya2 =>
    go_simp <;> with_reducible rfl
  simp only [Act.put, List.setIfInBounds_toArray, List.set_cons_zero, List.set_cons_succ]
  refine grow_only 3 rfl (by kernel_rfl) (fun K hK => ?_)
  go_simp
  refine (H3.out _).mono ?_
  rintro e w3 ⟨v3, rfl, hown3, hb3⟩
  obtain ⟨A3, c3, rfl, _, hH3⟩ := own_form hown3
  refine hK.out _ _ hb3 ?_
  clear hK K hown3
  try simp only [Act.put, List.setIfInBounds_toArray, List.set_cons_zero, List.set_cons_succ]
  refine grow_take 4 (some 17) (v := ?va4) rfl rfl (by kernel_rfl) (by kernel_rfl) (by kernel_rfl) (fun _ _ _ h => h) (by rfl) (fun W hW => ?ya4) ?_
  case ya4 =>
    have h1 := txt8 W c3 (hH3.below hW)
    go_simp <;> with_reducible rfl
  simp only [Act.put, List.setIfInBounds_toArray, List.set_cons_zero, List.set_cons_succ]
  refine grow_take 5 (some 18) (v := ?va5) rfl rfl (by kernel_rfl) (by kernel_rfl) (by kernel_rfl) (fun _ _ _ h => h) (by rfl) (fun W hW => ?ya5) ?_
  case ya5 =>
    go_simp <;> with_reducible rfl
  simp only [Act.put, List.setIfInBounds_toArray, List.set_cons_zero, List.set_cons_succ]
  refine grow_take 6 (some 19) (v := ?va6) rfl rfl (by kernel_rfl) (by kernel_rfl) (by kernel_rfl) (fun _ _ _ h => h) (by rfl) (fun W hW => ?ya6) ?_
  case ya6 =>
    go_simp <;> with_reducible rfl
  simp only [Act.put, List.setIfInBounds_toArray, List.set_cons_zero, List.set_cons_succ]
  refine grow_take 7 (some 20) (v := ?va7) rfl rfl (by kernel_rfl) (by kernel_rfl) (by kernel_rfl) (fun _ _ _ h => h) (by rfl) (fun W hW => ?ya7) ?_
  case ya7 =>
    go_simp <;> with_reducible rfl
  simp only [Act.put, List.setIfInBounds_toArray, List.set_cons_zero, List.set_cons_succ]
  refine grow_take 8 (some 21) (v := ?va8) rfl rfl (by kernel_rfl) (by kernel_rfl) (by kernel_rfl) (fun _ _ _ h => h) (by rfl) (fun W hW => ?ya8) ?_
  case ya8 =>
    go_simp <;> with_reducible rfl
  simp only [Act.put, List.setIfInBounds_toArray, List.set_cons_zero, List.set_cons_succ]
  refine grow_take 9 (some 22) (v := ?va9) rfl rfl (by kernel_rfl) (by kernel_rfl) (by kernel_rfl) (fun _ _ _ h => h) (by rfl) (fun W hW => ?ya9) ?_
  case ya9 =>
    go_simp <;> with_reducible rfl
  simp only [Act.put, List.setIfInBounds_toArray, List.set_cons_zero, List.set_cons_succ]
  refine grow_take 10 (some 23) (v := ?va10) rfl rfl (by kernel_rfl) (by kernel_rfl) (by kernel_rfl) (fun _ _ _ h => h) (by rfl) (fun W hW => ?ya10) ?_
  case ya10 =>
    go_simp <;> with_reducible rfl
  simp only [Act.put, List.setIfInBounds_toArray, List.set_cons_zero, List.set_cons_succ]
  refine grow_take 11 (some 24) (v := ?va11) rfl rfl (by kernel_rfl) (by kernel_rfl) (by kernel_rfl) (fun _ _ _ h => h) (by rfl) (fun W hW => ?ya11) ?_
  case ya11 =>
    go_simp <;> with_reducible rfl
  simp only [Act.put, List.setIfInBounds_toArray, List.set_cons_zero, List.set_cons_succ]
  refine grow_take 12 (some 25) (v := ?va12) rfl rfl (by kernel_rfl) (by kernel_rfl) (by kernel_rfl) (fun _ _ _ h => h) (by rfl) (fun W hW => ?ya12) ?_
  case ya12 =>
    go_simp <;> with_reducible rfl
  simp only [Act.put, List.setIfInBounds_toArray, List.set_cons_zero, List.set_cons_succ]
  refine grow_take 13 (some 26) (v := ?va13) rfl rfl (by kernel_rfl) (by kernel_rfl) (by kernel_rfl) (fun _ _ _ h => h) (by rfl) (fun W hW => ?ya13) ?_
  case ya13 =>
    go_simp <;> with_reducible rfl
  simp only [Act.put, List.setIfInBounds_toArray, List.set_cons_zero, List.set_cons_succ]
  refine grow_take 14 (some 27) (v := ?va14) rfl rfl (by kernel_rfl) (by kernel_rfl) (by kernel_rfl) (fun _ _ _ h => h) (by rfl) (fun W hW => ?ya14) ?_
  case ya14 =>
    go_simp <;> with_reducible rfl
  simp only [Act.put, List.setIfInBounds_toArray, List.set_cons_zero, List.set_cons_succ]
  refine grow_take 15 (some 2) (v := ?va15) rfl rfl (by kernel_rfl) (by kernel_rfl) (by kernel_rfl) (fun _ _ _ h => h) (by rfl) (fun W hW => ?ya15) ?_
  case ya15 =>
    go_simp <;> with_reducible rfl
  simp only [Act.put, List.setIfInBounds_toArray, List.set_cons_zero, List.set_cons_succ]
  refine grow_done (by kernel_rfl) ?_ _
  go_wp2
  go_ret
  exact ⟨rfl, hb1.trans ((hbd.trans hb3).mono hb1.size)⟩

theorem ints_walk (n : Int) (h : (Lit.int .i64 n).wf = true) (w : World) :
    Calls Try.prog 5 #[.int .i64 n] w fun e w' => e = .returned (.bool true) ∧ Below w.heap.size w w' := by
  have hn : -9223372036854775808 ≤ n ∧ n ≤ 9223372036854775807 := by simpa [Lit.wf, IntKind.min, IntKind.max, IntKind.signed, IntKind.bits] using h
  have hi := isize_le n
  refine ints_of n (intOfs n) w (by rw [intOfs_length]; omega) (hide fun W => int_any n W hn.1 hn.2) (hide fun W A c hA hc hm => ?_) (hide fun W => rint_any n W)
  have := toint_any W _ A _ c (intOfs n) hA hc hm
  rwa [toInt_intOfs n hn.1 hn.2] at this

set_option maxRecDepth 100000 in
set_option maxHeartbeats 800000 in
theorem reads_of (w : World) (A : Option Addr) (n c : Nat) (l m : List UInt8) (v r : Int) (h : Has w w.heap.size 1 A n (bys l)) (hr : r = 2 ∨ (r = 0 ∧ m = l))
    (H1 : Hid (∀ W : World, Has W w.heap.size 1 A n (bys l) → Calls Try.prog 18 #[.slice A n c] W fun e w' => e = .returned (.tuple #[.int .i64 v, .int .i64 r]) ∧ W = w'))
    (H2 : Hid (Calls Try.prog 24 #[.slice A n c] w fun e w' => e = .returned (.tuple #[.int .i64 v, .int .i64 r]) ∧ Below w.heap.size w w'))
    (H3 : Hid (∀ W : World, Calls Try.prog 17 #[.int .i64 v] W fun e w' => ∃ g, e = .returned (.slice (some ⟨g, 0, none⟩) m.length m.length) ∧ w'.ownsRow W.heap.size 5 1 (.slice (some ⟨g, 0, none⟩) m.length m.length) m.length (bys m) ∧ Below W.heap.size W w')) :
    Calls Try.prog 7 #[.slice A n c] w fun e w' => e = .returned (.bool true) ∧ Below w.heap.size w w' := by
  rcases hr with rfl | ⟨rfl, rfl⟩
  all_goals
    go_enter Try.func7, Try.ntmps7
    go_wp2_with fail
    refine (H1.out _ h).mono ?_
    rintro e w' ⟨rfl, rfl⟩
    go_wp2_with fail
    refine H2.out.mono ?_
    rintro e w1 ⟨rfl, hb1⟩
    go_wp2_with fail
    refine (H3.out _).mono ?_
    rintro e w2 ⟨g, rfl, hown2, hb2⟩
    have hb : Below w.heap.size w w2 := hb1.trans (hb2.mono hb1.size)
    have t1 := txt8 w2 m.length (Has.own hown2)
    have t2 := txt8 w2 c (h.below hb)
    clear hown2 hb2 hb1
    go_wp2
    go_ret
    exact ⟨rfl, hb⟩

theorem reads_walk (w : World) (A : Option Addr) (n c : Nat) (l : List UInt8) (h : Has w w.heap.size 1 A n (bys l)) (hc : n ≤ c) (hm : c ≤ maxLen) :
    Calls Try.prog 7 #[.slice A n c] w fun e w' => e = .returned (.bool true) ∧ Below w.heap.size w w' := by
  have hn : l.length = n := by simpa [bys] using h.1
  have hv : -9223372036854775808 ≤ (toInt l).1 ∧ (toInt l).1 ≤ 9223372036854775807 := by
    unfold toInt
    split
    · exact sv_i64 l (by omega)
    · exact ⟨by decide, by decide⟩
  refine reads_of w A n c l (intOfs (toInt l).1) (toInt l).1 (toInt l).2 h ?_ (hide fun W hW => toint_any W _ A n c l hW hc hm) (hide (rtoint_any w A n c l h hc hm)) (hide fun W => int_any _ W hv.1 hv.2)
  unfold toInt
  split
  · rename_i h3
    exact .inr ⟨rfl, (intOfs_sv l h3.1 h3.2.1).2 h3.2.2⟩
  · exact .inl rfl

end Go.Proofs.Ytjannmoijoakcaa.Ber
