/-
  The contract of ber.Length: at any integer it returns the shortest length, in memory of its own.
-/
import Derived.Test.YtjannmoijoakcaaBerHigh
namespace Go.Proofs.Ytjannmoijoakcaa.Ber
open Go.RowKit

set_option maxHeartbeats 400000 in
theorem len_none (n : Int) (w : World) (h : n < 0 ∨ 2147483647 < n) :
    Calls Try.prog 13 #[.int .i64 n] w fun e w' => e = .returned (.slice none 0 0) ∧ w = w' := by
  by_cases h0 : n < 0
  · go_enter Try.func13, Try.ntmps13
    go_wp2
    go_ret
    exact ⟨rfl, rfl⟩
  · have h1 : 2147483647 < n := by omega
    go_enter Try.func13, Try.ntmps13
    go_wp2
    go_ret
    exact ⟨rfl, rfl⟩

set_option maxHeartbeats 400000 in
theorem len_small (n : Int) (w : World) (h0 : 0 ≤ n) (h1 : n ≤ 127) :
    Calls Try.prog 13 #[.int .i64 n] w fun e w' => e = .returned (.slice (some ⟨w.heap.size, 0, none⟩) 1 1) ∧ w.alloc (.cells #[.int .u8 n] 5) = w' := by
  go_enter Try.func13, Try.ntmps13
  go_wp2
  go_ret
  exact ⟨rfl, rfl⟩

set_option maxHeartbeats 400000 in
theorem len_wide_of (N W : Nat) (w : World) (h0 : 128 ≤ N) (h1 : N ≤ 2147483647) (hw1 : 1 ≤ W) (hw4 : W ≤ 4)
    (Hm : Hid (∀ k : Nat, 1 ≤ k → k < W → (((N : Int) / 2 ^ (8 * k)) != 0) = true)) (Hd : Hid ((((N : Int) / 2 ^ (8 * W)) != 0) = false)) :
    Calls Try.prog 13 #[.int .i64 N] w fun e w' =>
      ∃ v, e = .returned v ∧ w'.ownsRow w.heap.size 5 1 v (1 + W) (bys (UInt8.ofNat (128 + W) :: be W N)) ∧ Below w.heap.size w w' := by
  obtain ⟨i0, hi, hz0, hz1, hz2⟩ := info_parts info8
  go_enter Try.func13, Try.ntmps13
  go_wp2
  go_loop [3] (fun s => ∃ k : Nat, 1 ≤ k ∧ k ≤ W ∧ s = .int .i64 k) (fun s => W - (intOf s).toNat)
  case atStart => exact ⟨1, Nat.le_refl _, hw1, rfl⟩
  case round =>
    obtain ⟨k, hk1, hk, rfl⟩ := hrel
    by_cases hlt : k < W
    · have hd := Hm.out k hk1 hlt
      go_wp2
      go_round
      case rel => exact ⟨k + 1, by omega, by omega, by go_num⟩
      case measure => simp [intOf]; omega
    · obtain rfl : k = W := by omega
      have hd := Hd.out
      go_wp2_with fail
      refine (high_any N k _ hw1 (by omega)).mono ?_
      rintro e w2 ⟨g, rfl, hown2, hb2⟩
      have hbw : Below w.heap.size w w2 := ((Below.refl _ _).alloc (Nat.le_refl _) _).trans (hb2.mono (by simp))
      have hown1 : w2.ownsRow w.heap.size 5 1 (.slice (some ⟨w.heap.size, 0, none⟩) 1 1) 1 (bys [UInt8.ofNat (128 + k)]) := by
        have h := own_lit w #[.int .u8 (128 + (k : Int))] 5 1 (by unfold maxLen; omega) rfl
        have e : bys [UInt8.ofNat (128 + k)] = [.int .u8 (128 + (k : Int))] := by
          simp only [bys, List.map_cons, List.map_nil, c8_lit (128 + k) (by omega)]
          simp
        rw [e]
        exact own_below h hb2
      go_wp2_with (at_builtin; go_must (refine wpList_app _ rfl (.tmp 25) (.tmp 29) _ rfl w.heap.size 5 i0 _ 1 1 Try.underlying22 hi hz0 hz1 hz2 rfl (by omega) _ 1 _ rfl hown1 w2.heap.size _ k k (bys (be k N)) rfl (Has.own hown2) (bys_one _) ?c3 ?c4 hbw.size ?_))
      case c3 => unfold maxLen; omega
      case c4 => omega
      intro v' w3 hown3 hg3 _
      have hb3 : Below w.heap.size w w3 := hbw.grown hg3 hbw.size (by simp [Value.ownBlock])
      clear hown1 hown2 hb2 hbw hg3 
      go_wp2
      go_ret
      exact ⟨_, rfl, by simpa [bys] using hown3, hb3⟩

/-- ber.Length at any integer. -/
theorem len_any (n : Int) (w : World) :
    Calls Try.prog 13 #[.int .i64 n] w fun e w' =>
      ∃ v, e = .returned v ∧ w'.ownsRow w.heap.size 5 1 v (lenOf n).length (bys (lenOf n)) ∧ Below w.heap.size w w' := by
  by_cases h : n < 0 ∨ 2147483647 < n
  · refine (len_none n w h).mono ?_
    rintro e w' ⟨rfl, rfl⟩
    rw [lenOf, if_pos h]
    exact ⟨_, rfl, World.ownsRow_nil _ _ _ _, Below.refl _ _⟩
  · obtain ⟨N, rfl⟩ := Int.eq_ofNat_of_zero_le (show 0 ≤ n by omega)
    rw [lenOf, if_neg h]
    by_cases h1 : (N : Int) < 128
    · refine (len_small N w (by omega) (by omega)).mono ?_
      rintro e w' ⟨rfl, rfl⟩
      rw [if_pos h1]
      refine ⟨_, rfl, ?_, (Below.refl _ _).alloc (Nat.le_refl _) _⟩
      have := own_lit w #[.int .u8 N] 5 1 (by unfold maxLen; omega) rfl
      simpa [bys, c8_lit N (by omega)] using this
    · rw [if_neg h1]
      have hw := wide_le N
      refine (len_wide_of N (wide N) w (by omega) (by omega) hw.1 hw.2 (hide fun k hk hlt => ?_) (hide ?_)).mono ?_
      · have := wide_more N k (by omega) hk hlt
        rw [bne_iff_ne]
        intro hh
        exact this (by exact_mod_cast hh)
      · have := wide_done N (by omega)
        rw [bne_eq_false_iff_eq]
        exact_mod_cast this
      · rintro e w' ⟨v, rfl, hown, hb⟩
        refine ⟨v, rfl, ?_, hb⟩
        simpa [be_length, Nat.add_comm] using hown

end Go.Proofs.Ytjannmoijoakcaa.Ber
