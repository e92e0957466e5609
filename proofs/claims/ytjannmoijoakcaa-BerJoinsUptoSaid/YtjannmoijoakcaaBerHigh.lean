/-
  The contract of ber's helper that lays out the lowest bytes of a number, the highest first.
-/
import Derived.Test.YtjannmoijoakcaaSeat
import Derived.Test.YtjannmoijoakcaaBerMath
namespace Go.Proofs.Ytjannmoijoakcaa.Ber
open Go.RowKit


set_option maxHeartbeats 400000 in
theorem high_any (N n : Nat) (w : World) (h1 : 1 ≤ n) (h8 : n ≤ 8) :
    Calls Try.prog 30 #[.int .u64 N, .int .i64 n] w fun e w' =>
      ∃ g, e = .returned (.slice (some ⟨g, 0, none⟩) n n) ∧ w'.ownsRow w.heap.size 5 1 (.slice (some ⟨g, 0, none⟩) n n) n (bys (be n N)) ∧ Below w.heap.size w w' := by
  obtain ⟨i0, hi, hz0, hz1, hz2⟩ := info_parts info8
  go_enter Try.func30, Try.ntmps30
  go_wp2_with (at_make; refine wpList_make_full _ rfl _ _ 22 rfl w.heap.size 5 i0 _ 1 Try.underlying22 hi hz0 hz1 .i64 .i64 _ _ n rfl rfl rfl rfl ?b1 ?b2 (Nat.le_refl _) ?_)
  case b1 => rw [hz2]; omega
  case b2 => unfold maxLen; omega
  intro w1 hown hg
  have hb1 : Below w.heap.size w w1 := (Below.refl _ _).grown hg (Nat.le_refl _) (by simp)
  rw [toList_madeCells_one] at hown
  clear hg
  go_wp2
  go_loopw [11] (fun i wr => ∃ k : Nat, k ≤ n ∧ i = .int .i64 k ∧ wr.ownsRow w.heap.size 5 1 (.slice (some ⟨w.heap.size, 0, none⟩) n n) n (bys ((be n N).take k) ++ List.replicate (n - k) (.int .u8 0)) ∧ Below w.heap.size w wr)
    (fun i _ => n - (intOf i).toNat)
  case atStart => exact ⟨0, Nat.zero_le _, rfl, by simpa [bys] using hown, hb1⟩
  case round =>
    obtain ⟨k, hk, rfl, hor, hbr⟩ := hrel
    clear hown
    by_cases hlt : k < n
    · have hc := hor.cellAt k (by omega)
      rw [filled_at _ _ _ _ (be_length n N) hlt] at hc
      have hf := hor.frozenAt k
      have hnew := hor.stored k (c8 (UInt8.ofNat (N / 2 ^ (8 * (n - 1 - k)))))
      rw [filled _ _ _ _ _ (be_length n N) hlt (be_get n N k hlt), c8_shr] at hnew
      have hbn := hbr.setCell (p := ⟨w.heap.size, k, none⟩) (Nat.le_refl _) (.int .u8 ((N : Int) / 2 ^ (8 * (n - 1 - k)) % 256))
      have H1 := hide hnew.1
      have H2 := hide hbn
      clear hnew hbn hor hbr
      go_wp2
      go_roundw
      case rel => exact ⟨k + 1, by omega, by go_num, H1.out, H2.out⟩
      case measure => simp [intOf]; omega
    · have hkn : k = n := by omega
      subst hkn
      go_wp2
      go_ret
      refine ⟨_, rfl, ?_, hbr⟩
      rw [List.take_of_length_le (by rw [be_length]; exact Nat.le_refl _)] at hor
      simpa using hor

theorem high_int (x : Int) (n : Nat) (w : World) (h1 : 1 ≤ n) (h8 : n ≤ 8) (hx : 0 ≤ x) :
    Calls Try.prog 30 #[.int .u64 x, .int .i64 n] w fun e w' =>
      ∃ g, e = .returned (.slice (some ⟨g, 0, none⟩) n n) ∧ w'.ownsRow w.heap.size 5 1 (.slice (some ⟨g, 0, none⟩) n n) n (bys (be n x.toNat)) ∧ Below w.heap.size w w' := by
  obtain ⟨N, rfl⟩ := Int.eq_ofNat_of_zero_le hx
  rw [Int.toNat_natCast]
  exact high_any N n w h1 h8

end Go.Proofs.Ytjannmoijoakcaa.Ber
