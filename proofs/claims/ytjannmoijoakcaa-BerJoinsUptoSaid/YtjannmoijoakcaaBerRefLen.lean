/-
  The contract of the document's own length: at any integer it returns the shortest length, in memory of its own.
-/
import Derived.Test.YtjannmoijoakcaaBerHigh
namespace Go.Proofs.Ytjannmoijoakcaa.Ber
open Go.RowKit

set_option maxRecDepth 100000 in
set_option maxHeartbeats 400000 in
theorem rlen_none (n : Int) (w : World) (h : n < 0 ∨ 2147483647 < n) :
    Calls Try.prog 14 #[.int .i64 n] w fun e w' => e = .returned (.slice none 0 0) ∧ w = w' := by
  by_cases h0 : n < 0
  · go_enter Try.func14, Try.ntmps14
    go_wp2
    go_ret
    exact ⟨rfl, rfl⟩
  · have h1 : 2147483647 < n := by omega
    go_enter Try.func14, Try.ntmps14
    go_wp2
    go_ret
    exact ⟨rfl, rfl⟩

set_option maxRecDepth 100000 in
set_option maxHeartbeats 400000 in
theorem rlen_small (n : Int) (w : World) (h0 : 0 ≤ n) (h1 : n < 128) :
    Calls Try.prog 14 #[.int .i64 n] w fun e w' => e = .returned (.slice (some ⟨w.heap.size, 0, none⟩) 1 1) ∧ w.alloc (.cells #[.int .u8 n] 5) = w' := by
  go_enter Try.func14, Try.ntmps14
  go_wp2
  go_ret
  exact ⟨rfl, rfl⟩

theorem be_more (l : List UInt8) (h : UInt8) (j : Nat) (b : UInt8) (hb : l[j]? = some b) : bys (h :: l.take j) ++ [c8 b] = bys (h :: l.take (j + 1)) := by
  rw [show l.take (j + 1) = l.take j ++ [b] by rw [List.take_add_one, hb]; rfl]
  simp [bys]

set_option maxRecDepth 100000 in
set_option maxHeartbeats 400000 in
theorem rlen_wide_of (N W : Nat) (h : UInt8) (w : World) (h0 : 128 ≤ N) (h1 : N ≤ 2147483647) (hw1 : 1 ≤ W) (hw4 : W ≤ 4)
    (Hm : Hid (∀ k : Nat, 1 ≤ k → k < W → 0 < (N : Int) / 2 ^ (8 * k))) (Hd : Hid (¬ 0 < (N : Int) / 2 ^ (8 * W))) (Hh : Hid (c8 h = .int .u8 (128 + (W : Int)))) :
    Calls Try.prog 14 #[.int .i64 N] w fun e w' =>
      ∃ v, e = .returned v ∧ w'.ownsRow w.heap.size 5 1 v (1 + W) (bys (h :: be W N)) ∧ Below w.heap.size w w' := by
  obtain ⟨i0, hi, hz0, hz1, hz2⟩ := info_parts info8
  go_enter Try.func14, Try.ntmps14
  go_wp2
  go_loop [3] (fun s => ∃ k : Nat, 1 ≤ k ∧ k ≤ W ∧ s = .int .i64 k) (fun s => W - (intOf s).toNat)
  case atStart => exact ⟨1, Nat.le_refl _, hw1, rfl⟩
  case round =>
    obtain ⟨k, hk1, hk, rfl⟩ := hrel
    by_cases hlt : k < W
    · have hd := Hm.out k hk1 hlt
      go_wp2
      go_round
      case rel => exact ⟨k + 1, by omega, by omega, by go_num⟩
      case measure => simp [intOf]; omega
    · obtain rfl : k = W := by omega
      have hd := Hd.out
      have hown1 := own_lit w #[.int .u8 (128 + (k : Int))] 5 1 (by unfold maxLen; omega) rfl
      have E := hide (show bys [h] = [.int .u8 (128 + (k : Int))] by rw [← Hh.out]; rfl)
      have hb1 : Below w.heap.size w (w.alloc (.cells #[.int .u8 (128 + (k : Int))] 5)) := (Below.refl _ _).alloc (Nat.le_refl _) _
      by_cases h4 : k < 4
      all_goals
        clear Hd Hm
        go_wp2
        go_loopw [4, 5] (fun v i wr => ∃ j : Nat, j ≤ k ∧ i = .int .i64 ((k : Int) - 1 - j) ∧ wr.ownsRow w.heap.size 5 1 v (1 + j) (bys (h :: (be k N).take j)) ∧ Below w.heap.size w wr)
          (fun _ i _ => (intOf i + 1).toNat)
        case atStart => exact ⟨0, Nat.zero_le _, by simp, by rw [List.take_zero, E.out]; exact hown1, hb1⟩
        case round =>
          obtain ⟨j, hj, rfl, hor, hbr⟩ := hrel
          by_cases hjk : j < k
          · have hH := has_one wr (.int .u8 ((N : Int) / 2 ^ (8 * (k - 1 - j)) % 256)) 5
            have hor1 := hor.alloc (.cells #[.int .u8 ((N : Int) / 2 ^ (8 * (k - 1 - j)) % 256)] 5)
            have hbr1 := hbr.alloc hbr.size (.cells #[.int .u8 ((N : Int) / 2 ^ (8 * (k - 1 - j)) % 256)] 5)
            clear hor hbr hb1 hown1
            go_wp2_with (at_builtin; go_must (refine wpList_app _ rfl (.tmp 39) (.tmp 46) _ rfl w.heap.size 5 i0 _ 1 1 Try.underlying22 hi hz0 hz1 hz2 rfl (by omega) _ (1 + j) _ rfl hor1 _ _ 1 1 _ rfl hH (by simp [Value.oneCell']) (by unfold maxLen; omega) (by omega) hbr1.size ?_))
            intro v' w3 hown3 hg3 _
            have hb3 : Below w.heap.size w w3 := hbr1.grown hg3 hbr1.size (fun g hg => (hor1.lt g hg).1)
            rw [← c8_shr, be_more _ _ _ _ (be_get k N j hjk), Nat.add_assoc] at hown3
            clear hor1 hbr1 hg3 hH
            go_wp2
            go_roundw
            case rel => exact ⟨j + 1, by omega, by go_num, hown3, hb3⟩
            case measure => simp [intOf]; omega
          · obtain rfl : j = k := by omega
            clear hb1 hown1
            go_wp2
            go_ret
            rw [List.take_of_length_le (by rw [be_length]; exact Nat.le_refl _)] at hor
            exact ⟨_, rfl, hor, hbr⟩

/-- The document's length at any integer. -/
theorem rlen_any (n : Int) (w : World) :
    Calls Try.prog 14 #[.int .i64 n] w fun e w' =>
      ∃ v, e = .returned v ∧ w'.ownsRow w.heap.size 5 1 v (lenOf n).length (bys (lenOf n)) ∧ Below w.heap.size w w' := by
  by_cases h : n < 0 ∨ 2147483647 < n
  · refine (rlen_none n w h).mono ?_
    rintro e w' ⟨rfl, rfl⟩
    rw [lenOf, if_pos h]
    exact ⟨_, rfl, World.ownsRow_nil _ _ _ _, Below.refl _ _⟩
  · obtain ⟨N, rfl⟩ := Int.eq_ofNat_of_zero_le (show 0 ≤ n by omega)
    rw [lenOf, if_neg h]
    by_cases h1 : (N : Int) < 128
    · refine (rlen_small N w (by omega) (by omega)).mono ?_
      rintro e w' ⟨rfl, rfl⟩
      rw [if_pos h1]
      refine ⟨_, rfl, ?_, (Below.refl _ _).alloc (Nat.le_refl _) _⟩
      have := own_lit w #[.int .u8 N] 5 1 (by unfold maxLen; omega) rfl
      simpa [bys, c8_lit N (by omega)] using this
    · rw [if_neg h1]
      have hw := wide_le N
      refine (rlen_wide_of N (wide N) (UInt8.ofNat (128 + wide N)) w (by omega) (by omega) hw.1 hw.2 (hide fun k hk hlt => ?_) (hide ?_) (hide ?_)).mono ?_
      · have := wide_more N k (by omega) hk hlt
        have h2 : 0 < N / 2 ^ (8 * k) := Nat.pos_of_ne_zero this
        exact_mod_cast h2
      · have := wide_done N (by omega)
        intro h2
        have h3 : 0 < N / 2 ^ (8 * wide N) := by exact_mod_cast h2
        omega
      · rw [c8_lit _ (by omega)]
        simp
      · rintro e w' ⟨v, rfl, hown, hb⟩
        refine ⟨v, rfl, ?_, hb⟩
        simpa [be_length, Nat.add_comm] using hown

end Go.Proofs.Ytjannmoijoakcaa.Ber
