/-
  The contract of ber.Int: an integer's content, in memory of its own.
-/
import Derived.Test.YtjannmoijoakcaaBerHigh
namespace Go.Proofs.Ytjannmoijoakcaa.Ber
open Go.RowKit

theorem u64_nonneg (n : Int) : 0 ≤ IntKind.u64.wrap n := by simp [IntKind.wrap, IntKind.bits, IntKind.signed]; omega

set_option maxRecDepth 100000 in
set_option maxHeartbeats 800000 in
theorem int_of (n : Int) (W : Nat) (w : World) (hw1 : 1 ≤ W) (hw8 : W ≤ 8)
    (Hm : Hid (∀ k : Nat, 1 ≤ k → k < W → (n / 2 ^ (8 * k - 1) != n / 9223372036854775808) = true)) (Hd : Hid ((n / 2 ^ (8 * W - 1) != n / 9223372036854775808) = false)) :
    Calls Try.prog 17 #[.int .i64 n] w fun e w' =>
      ∃ g, e = .returned (.slice (some ⟨g, 0, none⟩) W W) ∧ w'.ownsRow w.heap.size 5 1 (.slice (some ⟨g, 0, none⟩) W W) W (bys (be W (IntKind.u64.wrap n).toNat)) ∧ Below w.heap.size w w' := by
  go_enter Try.func17, Try.ntmps17
  go_wp2
  go_loop [3] (fun s => ∃ k : Nat, 1 ≤ k ∧ k ≤ W ∧ s = .int .i64 k) (fun s => W - (intOf s).toNat)
  case atStart => exact ⟨1, Nat.le_refl _, hw1, rfl⟩
  case round =>
    obtain ⟨k, hk1, hk, rfl⟩ := hrel
    go_wp2_with fail
    · have hn : (n / 2 ^ (8 * k - 1) != n / 9223372036854775808) = true := by assumption
      have hlt : k < W := by
        rcases Nat.lt_or_ge k W with h | h
        · exact h
        · obtain rfl : k = W := by omega
          rw [Hd.out] at hn
          cases hn
      go_round
      case rel => exact ⟨k + 1, by omega, by omega, by go_num⟩
      case measure => simp [intOf]; omega
    · have hn : (n / 2 ^ (8 * k - 1) != n / 9223372036854775808) = false := by assumption
      obtain rfl : k = W := by
        rcases Nat.lt_or_ge k W with h | h
        · rw [Hm.out k hk1 h] at hn
          cases hn
        · omega
      clear Hm Hd
      refine (high_int _ k _ hw1 hw8 (u64_nonneg n)).mono ?_
      rintro e w2 ⟨g, rfl, hown2, hb2⟩
      go_wp2
      go_ret
      exact ⟨g, rfl, hown2, hb2⟩

theorem int_any (n : Int) (w : World) (h0 : -9223372036854775808 ≤ n) (h1 : n ≤ 9223372036854775807) :
    Calls Try.prog 17 #[.int .i64 n] w fun e w' =>
      ∃ g, e = .returned (.slice (some ⟨g, 0, none⟩) (intOfs n).length (intOfs n).length) ∧ w'.ownsRow w.heap.size 5 1 (.slice (some ⟨g, 0, none⟩) (intOfs n).length (intOfs n).length) (intOfs n).length (bys (intOfs n)) ∧ Below w.heap.size w w' := by
  have hi := isize_le n
  have := int_of n (isize n) w hi.1 hi.2 (hide fun k hk1 hk => bne_iff_ne.2 (isize_more n k h0 h1 hk1 hk)) (hide (bne_eq_false_iff_eq.2 (isize_done n h0 h1)))
  rw [show (intOfs n).length = isize n from be_length _ _]
  exact this

end Go.Proofs.Ytjannmoijoakcaa.Ber
