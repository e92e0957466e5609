/-
  The document's own reading of an integer's content.
-/
import Derived.Test.YtjannmoijoakcaaBerToInt
namespace Go.Proofs.Ytjannmoijoakcaa.Ber
open Go.RowKit
set_option linter.unusedSimpArgs false

set_option maxRecDepth 100000 in
set_option maxHeartbeats 800000 in
theorem rtoint_no (w : World) (A : Option Addr) (n c : Nat) (hn : n < 1 ∨ 8 < n) (_hm : n ≤ c) (_hc : c ≤ maxLen) :
    Calls Try.prog 24 #[.slice A n c] w fun e w' => e = .returned (.tuple #[.int .i64 0, .int .i64 2]) ∧ Below w.heap.size w w' := by
  unfold maxLen at _hc
  by_cases h1 : n < 1
  · go_enter Try.func24, Try.ntmps24
    go_wp2
    go_ret2
    exact ⟨rfl, Below.refl _ _⟩
  · have h8 : 8 < n := by omega
    go_enter Try.func24, Try.ntmps24
    go_wp2
    go_ret2
    exact ⟨rfl, Below.refl _ _⟩

theorem i8_any (x : Nat) (h : x < 256) : wrap64 (IntKind.i8.wrap (x : Int)) = if x < 128 then (x : Int) else (x : Int) - 256 := by
  split
  · have e : IntKind.i8.wrap (x : Int) = (x : Int) := by
      simp [IntKind.wrap, IntKind.bits, IntKind.signed]
      omega
    rw [e]
    exact IntWalk.wrap64_in _ ⟨by omega, by omega⟩
  · exact i8_high x (by assumption) h

set_option maxRecDepth 100000 in
set_option maxHeartbeats 1600000 in
theorem rtoint_loop (w : World) (g o n c : Nat) (v : Int) (l m : List UInt8) (S : Nat → Int) (x : Nat) (r : Bool) (_hx8 : x < 256) (h1 : 1 ≤ n) (h8 : n ≤ 8) (_hc : n ≤ c) (_hm : c ≤ maxLen)
    (HA : Hid (Has w w.heap.size 1 (some ⟨g, o, none⟩) n (bys l)))
    (HS : Hid (S 1 = wrap64 (IntKind.i8.wrap (x : Int))))
    (HC : Hid (∀ k, k + 1 < n → ∃ y : Nat, y < 256 ∧ w.cell? ⟨g, o + 1 + k, none⟩ = some (.int .u8 (y : Int)) ∧ S (k + 1 + 1) = S (k + 1) * 256 + (y : Int) ∧ -36028797018963968 ≤ S (k + 1) ∧ S (k + 1) < 36028797018963968))
    (HE : Hid (S n = v))
    (HI : Hid (∀ W : World, Calls Try.prog 19 #[.int .i64 v] W fun e w' => ∃ u, e = .returned u ∧ w'.ownsRow W.heap.size 5 1 u m.length (bys m) ∧ Below W.heap.size W w'))
    (HR : Hid ((!m == l) = r))
    (c0 : w.cell? ⟨g, o, none⟩ = some (.int .u8 (x : Int))) :
    Calls Try.prog 24 #[.slice (some ⟨g, o, none⟩) n c] w fun e w' => e = .returned (.tuple #[.int .i64 (if r then 0 else v), .int .i64 (if r then 2 else 0)]) ∧ Below w.heap.size w w' := by
  unfold maxLen at _hm
  go_enter Try.func24, Try.ntmps24
  go_wp2
  go_loop [4, 5] (fun a i => ∃ k : Nat, k + 1 ≤ n ∧ i = .int .i64 ((k : Int) + 1) ∧ a = .int .i64 (S (k + 1))) (fun _ i => n - (intOf i).toNat)
  case atStart => exact ⟨0, h1, rfl, by rw [Nat.zero_add, HS.out]⟩
  case round =>
    obtain ⟨k, hk, rfl, rfl⟩ := hrel
    by_cases hlt : k + 1 < n
    · obtain ⟨y, hy, hcell, hsv, hs0, hs1⟩ := HC.out k hlt
      have HSV := hide hsv
      clear hsv
      generalize hs : S (k + 1) = s at *
      have e1 : o + 1 + k = o + (k + 1) := by omega
      rw [e1] at hcell
      clear e1 hs
      go_wp2
      go_round
      case rel => exact ⟨k + 1, by omega, by go_num, by rw [HSV.out, or_low s y (by omega) (by omega) hs0 hs1]⟩
      case measure => simp [intOf]; omega
    · obtain rfl : k + 1 = n := by omega
      have hv := HE.out
      clear HC HS HE
      generalize S (k + 1) = s at *
      subst hv
      have BB : ∀ W : World, upOf w.drew W → Below w.heap.size w W := fun W hW => (Below.refl w.heap.size w).drew.trans hW
      go_wp2_with fail
      have hr := HR.out
      refine grow_begin (by kernel_rfl) ?_
      refine grow_take 0 (some 33) (v := ?va0) rfl rfl (by kernel_rfl) (by kernel_rfl) (by kernel_rfl) (fun _ _ _ h => h) (by rfl) (fun W hW => ?ya0) ?_
      case ya0 =>
        go_simp <;> with_reducible rfl
      simp only [Act.put, List.setIfInBounds_toArray, List.set_cons_zero, List.set_cons_succ]
      refine grow_take 3 (some 36) (v := ?va3) rfl rfl (by kernel_rfl) (by kernel_rfl) (by kernel_rfl) (fun _ _ _ h => h) (by rfl) (fun W hW => ?ya3) ?_
      case ya3 =>
        go_simp <;> with_reducible rfl
      simp only [Act.put, List.setIfInBounds_toArray, List.set_cons_zero, List.set_cons_succ]
      refine grow_take 4 (some 37) (v := ?va4) rfl rfl (by kernel_rfl) (by kernel_rfl) (by kernel_rfl) (fun _ _ _ h => h) (by rfl) (fun W hW => ?ya4) ?_
      case ya4 =>
        have h1 := txt8 W c (HA.out.below (BB W hW))
        go_simp <;> with_reducible rfl
      simp only [Act.put, List.setIfInBounds_toArray, List.set_cons_zero, List.set_cons_succ]
      refine grow_only 1 rfl (by kernel_rfl) (fun K hK => ?_)
      go_simp
      refine (HI.out _).mono ?_
      rintro e w2 ⟨v2, rfl, hown2, hb2⟩
      obtain ⟨A2, c2, rfl, _, hH2⟩ := own_form hown2
      refine hK.out _ _ hb2 ?_
      clear hK K hown2
      try simp only [Act.put, List.setIfInBounds_toArray, List.set_cons_zero, List.set_cons_succ]
      refine grow_take 2 (some 35) (v := ?va2) rfl rfl (by kernel_rfl) (by kernel_rfl) (by kernel_rfl) (fun _ _ _ h => h) (by rfl) (fun W hW => ?ya2) ?_
      case ya2 =>
        have h1 := txt8 W c2 (hH2.below hW)
        go_simp <;> with_reducible rfl
      simp only [Act.put, List.setIfInBounds_toArray, List.set_cons_zero, List.set_cons_succ]
      refine grow_take 5 (some 38) (v := ?va5) rfl rfl (by kernel_rfl) (by kernel_rfl) (by kernel_rfl) (fun _ _ _ h => h) (by rfl) (fun W hW => ?ya5) ?_
      case ya5 =>
        go_simp <;> with_reducible rfl
      simp only [Act.put, List.setIfInBounds_toArray, List.set_cons_zero, List.set_cons_succ]
      refine grow_done (by kernel_rfl) ?_ _
      have hbz : Below w.heap.size w w2 := (Below.refl w.heap.size w).drew.trans hb2
      cases r with
      | true =>
        go_wp2
        go_ret2
        exact ⟨rfl, hbz⟩
      | false =>
        go_wp2
        go_ret2
        exact ⟨rfl, hbz⟩

theorem rtoint_any (w : World) (A : Option Addr) (n c : Nat) (l : List UInt8) (h : Has w w.heap.size 1 A n (bys l)) (hc : n ≤ c) (hm : c ≤ maxLen) :
    Calls Try.prog 24 #[.slice A n c] w fun e w' => e = .returned (.tuple #[.int .i64 (toInt l).1, .int .i64 (toInt l).2]) ∧ Below w.heap.size w w' := by
  have hn : l.length = n := by simpa [bys] using h.1
  by_cases hs : n < 1 ∨ 8 < n
  · rw [show toInt l = (0, 2) by rw [toInt, if_neg (by omega)]]
    exact rtoint_no w A n c hs hc hm
  · obtain ⟨g, o, rfl, _, hcell⟩ := h.lies (by rw [bys_length]; omega)
    obtain ⟨a, r, rfl⟩ : ∃ a r, l = a :: r := by
      cases l with
      | nil => simp at hn; omega
      | cons a r => exact ⟨a, r, rfl⟩
    have c0 := hcell 0 (c8 a) rfl
    simp only [c8, Nat.add_zero] at c0
    have hi := intOfs_sv (a :: r) (by omega) (by omega)
    have key := rtoint_loop w g o n c (sv (a :: r)) (a :: r) (intOfs (sv (a :: r))) (fun k => sv ((a :: r).take k)) a.toNat (longer (a :: r)) a.toNat_lt (by omega) (by omega) hc hm (hide h)
      (hide (by rw [i8_any _ a.toNat_lt]; exact sv_first a r)) (hide (sv_cells w g o n _ hn (by omega) hcell)) (hide (by show sv _ = sv _; rw [List.take_of_length_le (by omega)]))
      (hide fun W => rint_any (sv (a :: r)) W) (hide ?_) c0
    · cases hl : longer (a :: r) with
      | true =>
        rw [hl] at key
        rw [show toInt (a :: r) = (0, 2) by rw [toInt, if_neg (by rw [hl]; simp)]]
        exact key
      | false =>
        rw [hl] at key
        rw [show toInt (a :: r) = (sv (a :: r), 0) by rw [toInt, if_pos ⟨by omega, by omega, hl⟩]]
        exact key
    · cases hl : longer (a :: r) with
      | true =>
        have : intOfs (sv (a :: r)) ≠ a :: r := fun e => by rw [hi.1 e] at hl; cases hl
        simpa using this
      | false => simpa using hi.2 hl

end Go.Proofs.Ytjannmoijoakcaa.Ber
