/-
  The contract of the document's own integer content.
-/
import Derived.Test.YtjannmoijoakcaaBerInt
namespace Go.Proofs.Ytjannmoijoakcaa.Ber
open Go.RowKit

/-- A byte of an integer, by shifting the integer itself or its unsigned form. -/
theorem c8_int (n : Int) (t : Nat) (ht : t ≤ 7) :
    c8 (UInt8.ofNat ((IntKind.u64.wrap n).toNat / 2 ^ (8 * t))) = .int .u8 (n / 2 ^ (8 * t) % 256) := by
  rw [c8_ofNat]
  congr 1
  have hw : IntKind.u64.wrap n = n % 18446744073709551616 := by simp [IntKind.wrap, IntKind.bits, IntKind.signed]
  have hnn := u64_nonneg n
  rw [Int.natCast_ediv, Int.toNat_of_nonneg hnn, hw]
  have hc : t = 0 ∨ t = 1 ∨ t = 2 ∨ t = 3 ∨ t = 4 ∨ t = 5 ∨ t = 6 ∨ t = 7 := by omega
  rcases hc with rfl | rfl | rfl | rfl | rfl | rfl | rfl | rfl <;> simp only [Nat.reduceMul, Nat.reducePow, Int.reducePow] <;> omega

theorem be_snoc (l : List UInt8) (j : Nat) (b : UInt8) (hb : l[j]? = some b) : bys (l.take j ++ [b]) = bys (l.take (j + 1)) := by
  rw [show l.take (j + 1) = l.take j ++ [b] by rw [List.take_add_one, hb]; rfl]

set_option maxRecDepth 100000 in
set_option maxHeartbeats 800000 in
theorem rint_of (n : Int) (W : Nat) (w : World) (hw1 : 1 ≤ W) (hw8 : W ≤ 8)
    (Hm : Hid (∀ k : Nat, 1 ≤ k → k < W → n / 2 ^ (8 * k - 1) ≠ 0 ∧ n / 2 ^ (8 * k - 1) ≠ -1)) (Hd : Hid (W < 8 → n / 2 ^ (8 * W - 1) = 0 ∨ n / 2 ^ (8 * W - 1) = -1)) :
    Calls Try.prog 19 #[.int .i64 n] w fun e w' =>
      ∃ v, e = .returned v ∧ w'.ownsRow w.heap.size 5 1 v W (bys (be W (IntKind.u64.wrap n).toNat)) ∧ Below w.heap.size w w' := by
  go_enter Try.func19, Try.ntmps19
  go_wp2
  go_loop [3] (fun s => ∃ k : Nat, 1 ≤ k ∧ k ≤ W ∧ s = .int .i64 k) (fun s => W - (intOf s).toNat)
  case atStart => exact ⟨1, Nat.le_refl _, hw1, rfl⟩
  case round =>
    obtain ⟨k, hk1, hk, rfl⟩ := hrel
    go_wp2_with fail
    case roundEnd =>
      have hn : (n / 2 ^ (8 * k - 1) != 0) = true ∧ (n / 2 ^ (8 * k - 1) != -1) = true := by assumption
      have hlt : k < W := by
        rcases Nat.lt_or_ge k W with h | h
        · exact h
        · obtain rfl : k = W := by omega
          rcases Hd.out (by omega) with e | e <;> simp [e] at hn
      go_round
      case rel => exact ⟨k + 1, by omega, by omega, by go_num⟩
      case measure => simp [intOf]; omega
    all_goals
      have hkW : k = W := by
        rcases Nat.lt_or_ge k W with h | h
        · exfalso
          have hm := Hm.out k hk1 h
          first
            | exact hm.1 (by assumption)
            | (have h2 : (n / 2 ^ (8 * k - 1) != 0) = false ∨ (n / 2 ^ (8 * k - 1) != -1) = false := by assumption
               simp [hm.1, hm.2] at h2)
            | omega
        · omega
      subst hkW
      clear Hm Hd
      have hb0 : Below w.heap.size w w := Below.refl _ _
      have hn0 := World.ownsRow_nil w w.heap.size 5 1
      go_loopw [4, 5] (fun v i wr => ∃ j : Nat, j ≤ k ∧ i = .int .i64 ((k : Int) - 1 - j) ∧ wr.ownsRow w.heap.size 5 1 v j (bys ((be k (IntKind.u64.wrap n).toNat).take j)) ∧ Below w.heap.size w wr)
        (fun _ i _ => (intOf i + 1).toNat)
      case atStart => exact ⟨0, Nat.zero_le _, by simp, by simpa [bys] using hn0, hb0⟩
      case round =>
        obtain ⟨j, hj, rfl, hor, hbr⟩ := hrel
        clear hn0 hb0
        by_cases hjk : j < k
        · have hone := one8 wr (UInt8.ofNat ((IntKind.u64.wrap n).toNat / 2 ^ (8 * (k - 1 - j))))
          rw [c8_int n _ (by omega)] at hone
          have hH := Has.own hone
          have hor1 := hor.alloc (.cells #[.int .u8 (n / 2 ^ (8 * (k - 1 - j)) % 256)] 5)
          have hbr1 := hbr.alloc hbr.size (.cells #[.int .u8 (n / 2 ^ (8 * (k - 1 - j)) % 256)] 5)
          have hs1 := hbr1.size
          have hbe := be_get k (IntKind.u64.wrap n).toNat j hjk
          have HBE := hide hbe
          clear hor hbr hone hbe
          go_wp2_with (at_builtin; go_must (refine app8 _ rfl (.tmp 34) (.tmp 41) rfl w.heap.size _ j _ rfl hor1 _ _ 1 1 _ rfl hH (by omega) hs1 ?_))
          intro v' w3 hown3 hb3 _
          have hb4 := hbr1.trans hb3
          rw [be_snoc _ _ _ HBE.out] at hown3
          clear hor1 hbr1 hs1 hH hb3 HBE
          go_wp2
          go_roundw
          case rel => exact ⟨j + 1, by omega, by go_num, hown3, hb4⟩
          case measure => simp [intOf]; omega
        · obtain rfl : j = k := by omega
          go_wp2
          go_ret
          rw [List.take_of_length_le (by rw [be_length]; exact Nat.le_refl _)] at hor
          exact ⟨_, rfl, hor, hbr⟩

theorem rint_any (n : Int) (w : World) :
    Calls Try.prog 19 #[.int .i64 n] w fun e w' =>
      ∃ v, e = .returned v ∧ w'.ownsRow w.heap.size 5 1 v (intOfs n).length (bys (intOfs n)) ∧ Below w.heap.size w w' := by
  have hi := isize_le n
  rw [show (intOfs n).length = isize n from be_length _ _]
  exact rint_of n (isize n) w hi.1 hi.2 (hide fun k hk1 hk => isize_low n k hk1 hk) (hide (isize_end n))

end Go.Proofs.Ytjannmoijoakcaa.Ber
