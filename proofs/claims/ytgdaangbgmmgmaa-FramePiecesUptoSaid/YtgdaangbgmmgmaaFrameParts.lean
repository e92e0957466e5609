/-
  The cutter's small functions: new, end, waiting, over, a length's first byte, too long.
-/
import Derived.Test.YtgdaangbgmmgmaaFrameHold
import Derived.BigQuiet
namespace Go.Proofs.Ytgdaangbgmmgmaa.Frame
open Go.RowKit

/-- How long a message may be. -/
def mostOf (m : Int) : Int := min (max m 2) 16384

theorem Near.drewN (g : Nat) (w : World) (n : Nat) : Near g w (w.drewN n) := ⟨rfl, rfl, rfl, Nat.le_refl _, fun _ _ _ => rfl⟩

theorem zero_run : ∃ Z0 : Array Value, Z0 = (cutRow 0 0 [] Zs 0 0 0).toArray ∧ Z0.size = 16389 ∧ ∀ w, (zeroValue 29).run Try.prog w = .ok (.agg Z0) w := by
  refine ⟨_, rfl, ?_, (zero_of_info (n := 16389) ?_).1⟩
  · have := cutRow_length 0 0 [] Zs 0 0 0
    rw [Zs_length] at this
    simpa using this
  · rw [info_cut, Option.map_some, zero_cut, size_cut]

set_option maxRecDepth 100000 in
theorem new_any (m : Int) (w : World) :
    Calls Try.prog 9 #[.int .i64 m] w fun e w' => e = .returned (.pointer (some ⟨w.heap.size, 0, none⟩)) ∧
      Cut w' w.heap.size (mostOf m) 0 [] 0 0 0 ∧ Below w.heap.size w w' := by
  obtain ⟨Z0, hZ, hs, hz⟩ := zero_run
  have hn : Z0 ≠ #[] := fun h => by rw [h] at hs; cases hs
  have HZ := hide hZ
  clear hZ hs
  obtain ⟨M, hM⟩ : ∃ M, M = mostOf m := ⟨_, rfl⟩
  rw [← hM]
  have HM := hide hM
  clear hM
  go_enter Try.func9, Try.ntmps9
  go_wp2
  all_goals go_ret
  all_goals
    refine ⟨rfl, ?_, (Below.refl _ _).alloc (Nat.le_refl _) _⟩
    rw [HZ.out]
    first | rw [HM.out, mostOf] | rw [mostOf]
  · have e : min (max m 2) 16384 = 2 := by omega
    rw [e]
    exact Cut.laid w 2 0
  · have e : min (max m 2) 16384 = 16384 := by omega
    rw [e]
    exact Cut.laid w 16384 0
  · have e : min (max m 2) 16384 = m := by omega
    rw [e]
    exact Cut.laid w m 0

set_option maxRecDepth 100000 in
theorem end_any (w : World) (g : Nat) (m st ll cl cnt : Int) (H : List UInt8) (hc : Cut w g m st H cnt ll cl) :
    Calls Try.prog 21 #[.pointer (some ⟨g, 0, none⟩)] w fun e w' => e = .returned (.tuple #[]) ∧
      Cut w' g 0 4 [] 0 0 0 ∧ Near g w w' := by
  obtain ⟨Z0, hZ, hs, hz⟩ := zero_run
  have hn : ¬ Z0.size < 2 := by omega
  obtain ⟨E, hE⟩ : ∃ E, E = Z0.toList.set 1 (.int .u8 4) := ⟨_, rfl⟩
  have hEr : E = cutRow 0 4 [] Zs 0 0 0 := by rw [hE, hZ]; rfl
  have hst : (storeCells ⟨g, 0, none⟩ E 0).run Try.prog w = .ok () (w.setRow g E.toArray) := by
    obtain ⟨Z, hl, hg⟩ := hc
    have hrl := cutRow_length m st (bys H) Z cnt ll cl
    have hEl : E.length = 16389 := by rw [hEr, cutRow_length, Zs_length]; rfl
    have := run_storeCells_at Try.prog g 0 29 E 0 _ w hg (by rw [hEl, List.size_toArray, hrl, bys_length]; omega) (by
      intro v hv
      rw [hEr] at hv
      simp only [cutRow, Zs, List.mem_cons, List.mem_append, List.mem_replicate, List.not_mem_nil, or_false, false_or] at hv
      rcases hv with rfl | rfl | ⟨_, rfl⟩ | rfl | rfl | rfl <;> rfl)
    rw [this, List.take_zero, List.nil_append, List.drop_eq_nil_of_le (by rw [hEl]; simp [hrl, bys_length]; omega), List.append_nil]
  rw [hE] at hst
  have hcc := hc.setRow 0 4
  rw [← hEr, hE] at hcc
  clear hE hEr hZ E
  go_enter Try.func21, Try.ntmps21
  go_wp2
  go_end0
  exact ⟨rfl, hcc, Near.setRow _ _ _⟩

set_option maxRecDepth 100000 in
theorem waiting_nil (w : World) : Calls Try.prog 15 #[.pointer none] w fun e w' => e = .returned (.int .i64 0) ∧ w' = w := by
  go_enter Try.func15, Try.ntmps15
  go_wp2
  go_ret
  exact ⟨rfl, rfl⟩

set_option maxRecDepth 100000 in
theorem waiting_any (w : World) (g : Nat) (m st ll cl cnt : Int) (H : List UInt8) (hc : Cut w g m st H cnt ll cl) :
    Calls Try.prog 15 #[.pointer (some ⟨g, 0, none⟩)] w fun e w' => e = .returned (.int .i64 cnt) ∧ w' = w := by
  have h1 := hc.count
  go_enter Try.func15, Try.ntmps15
  go_wp2
  go_ret
  exact ⟨rfl, rfl⟩

set_option maxRecDepth 100000 in
theorem over_nil (w : World) : Calls Try.prog 16 #[.pointer none] w fun e w' => e = .returned (.bool false) ∧ w' = w := by
  go_enter Try.func16, Try.ntmps16
  go_wp2
  go_ret
  exact ⟨rfl, rfl⟩

set_option maxRecDepth 100000 in
theorem over_any (w : World) (g : Nat) (m st ll cl cnt : Int) (H : List UInt8) (hc : Cut w g m st H cnt ll cl) :
    Calls Try.prog 16 #[.pointer (some ⟨g, 0, none⟩)] w fun e w' => e = .returned (.bool (st == 4)) ∧ w' = w := by
  have h1 := hc.state
  go_enter Try.func16, Try.ntmps16
  go_wp2
  go_ret
  exact ⟨rfl, rfl⟩

set_option maxRecDepth 100000 in
theorem begin_short (w : World) (g : Nat) (m st ll cl cnt : Int) (H : List UInt8) (hc : Cut w g m st H cnt ll cl) (x : Nat) (hx : x ≤ 127) :
    Calls Try.prog 23 #[.pointer (some ⟨g, 0, none⟩), .int .u8 (x : Int)] w fun e w' => e = .returned (.bool true) ∧
      Cut w' g m st H cnt ll (x : Int) ∧ Near g w w' := by
  have hcc := hc.setWant (x : Int)
  have h1 := hc.want
  have h2 := hc.frozen 16388
  go_enter Try.func23, Try.ntmps23
  go_wp2
  go_ret
  exact ⟨rfl, hcc, Near.setCell _ _ _ _⟩

set_option maxRecDepth 100000 in
theorem begin_long (w : World) (g : Nat) (m st ll cl cnt : Int) (H : List UInt8) (hc : Cut w g m st H cnt ll cl) (x : Nat) (hx : 127 < x) (hx2 : x ≤ 255) :
    Calls Try.prog 23 #[.pointer (some ⟨g, 0, none⟩), .int .u8 (x : Int)] w fun e w' => e = .returned (.bool (decide (129 ≤ x ∧ x ≤ 132))) ∧
      Cut w' g m st H cnt ((x : Int) - 128) cl ∧ Near g w w' := by
  obtain ⟨y, hy⟩ : ∃ y, y = decide (129 ≤ x ∧ x ≤ 132) := ⟨_, rfl⟩
  rw [← hy]
  have HY := hide hy
  clear hy
  have hcc := hc.setLeft ((x : Int) - 128)
  have h1 := hc.left
  have h2 := hc.frozen 16387
  go_enter Try.func23, Try.ntmps23
  go_wp2
  all_goals go_ret
  all_goals refine ⟨?_, hcc, Near.setCell _ _ _ _⟩
  all_goals
    have e : y = decide ((x : Int) - 128 ≥ 1 ∧ (x : Int) - 128 ≤ 4) := by rw [HY.out]; exact decide_eq_decide.2 (by omega)
  all_goals clear HY
  · have e2 : decide ((x : Int) - 128 ≤ 4) = y := by rw [e]; exact decide_eq_decide.2 (by omega)
    show Ending.returned (.bool (decide ((x : Int) - 128 ≤ 4))) = _
    rw [e2]
  · have e2 : false = y := by rw [e]; exact (decide_eq_false (by omega)).symm
    show Ending.returned (.bool false) = _
    rw [e2]

set_option maxRecDepth 100000 in
theorem long_any (w : World) (g : Nat) (m st ll cl cnt : Int) (H : List UInt8) (hc : Cut w g m st H cnt ll cl) (h0 : 0 ≤ cnt) (h1 : cnt ≤ 16384) (h2 : 0 ≤ cl) (h3 : cl ≤ 4294967296) :
    Calls Try.prog 25 #[.pointer (some ⟨g, 0, none⟩)] w fun e w' => e = .returned (.bool (decide ((if m = 0 then 16384 else m) < cnt + cl))) ∧
      Cut w' g m st H cnt ll cl ∧ Near g w w' := by
  obtain ⟨M, hM⟩ : ∃ M, M = if m = 0 then (16384 : Int) else m := ⟨_, rfl⟩
  rw [← hM]
  have c0 := hc.most
  have c1 := hc.count
  have c2 := hc.want
  by_cases hm : m = 0
  · rw [if_pos hm] at hM
    subst hm
    have HM := hide hM
    clear hM
    go_enter Try.func25, Try.ntmps25
    go_wp2_with fail
    go_quiet (fail)
    go_wp2
    go_ret
    exact ⟨by rw [HM.out]; rfl, hc, Near.drewN g w _⟩
  · rw [if_neg hm] at hM
    have HM := hide hM
    clear hM
    go_enter Try.func25, Try.ntmps25
    go_wp2_with fail
    go_quiet (fail)
    go_wp2
    go_ret
    exact ⟨by rw [HM.out]; rfl, hc, Near.drewN g w _⟩

/-- What reading a piece's beginning answers, and what it makes of the cutter. -/
def Reads (f : Nat) (w : World) (g : Nat) (m st : Int) (H : List UInt8) (A : Option Addr) (n c : Nat) (l : List UInt8) (k : Nat) (ll cl : Int) : Prop :=
  Calls Try.prog f #[.pointer (some ⟨g, 0, none⟩), .slice A n c] w fun e w' => ∃ A', e = .returned (.slice A' (n - k) (c - k)) ∧
    (∀ W, Off W g A n (bys l) → Off W g A' (n - k) (bys (l.drop k))) ∧ Cut w' g m st (H ++ l.take k) ((H.length + k : Nat) : Int) ll cl ∧ Near g w w'

set_option maxRecDepth 100000 in
theorem content_any (w : World) (g : Nat) (m st ll : Int) (cl : Nat) (H : List UInt8) (hc : Cut w g m st H (H.length : Int) ll (cl : Int)) (A : Option Addr) (n c : Nat) (l : List UInt8)
    (hp : Off w g A n (bys l)) (hnc : n ≤ c) (hcm : c ≤ maxLen) (hcl : cl ≤ 4294967296) (hfit : H.length + cl ≤ 16384) (hH : H.length < 16384) :
    Reads 26 w g m st H A n c l (min cl n) ll ((cl - min cl n : Nat) : Int) := by
  obtain ⟨k, hk⟩ : ∃ k, k = min cl n := ⟨_, rfl⟩
  rw [← hk]
  have hkn : k ≤ n := by omega
  have hkc : k ≤ cl := by omega
  unfold Reads
  have hln : l.length = n := by simpa [bys] using hp.1
  have c1 := hc.want
  have f1 := hc.frozen 16388
  have hcm' : c ≤ 9223372036854775807 := hcm
  obtain ⟨D, hD⟩ : ∃ D, D = cl - k := ⟨_, rfl⟩
  obtain ⟨N', hN⟩ : ∃ N', N' = n - k := ⟨_, rfl⟩
  obtain ⟨C', hC⟩ : ∃ C', C' = c - k := ⟨_, rfl⟩
  rw [← hD, ← hN, ← hC]
  have hsub : (cl : Int) - (k : Int) = (D : Int) := by omega
  have hcc := hc.setWant (D : Int)
  have hn := Near.setCell g 16388 w (.int .i64 (D : Int))
  have hh := hold_any _ g m st ll (D : Int) H hcc A n c l k (hp.near hn) hkn hnc hcm (by omega) hH
  unfold Held at hh
  rw [← hN, ← hC] at hh
  have HH := hide hh
  clear hh hcc hp hc hN hC
  rcases Nat.lt_or_ge n cl with hc | hc
  · obtain rfl : k = n := by omega
    have h1 : (k : Int) < (cl : Int) := by omega
    clear hk hD
    go_enter Try.func26, Try.ntmps26
    go_wp2_with fail
    refine HH.out.mono ?_
    rintro e w2 ⟨A', rfl, o1, o2, o3⟩
    go_wp2
    go_ret
    exact ⟨_, rfl, o1, o2, hn.trans o3⟩
  · obtain rfl : k = cl := by omega
    have h1 : (k : Int) ≤ (n : Int) := by omega
    clear hk hD
    go_enter Try.func26, Try.ntmps26
    go_wp2_with fail
    refine HH.out.mono ?_
    rintro e w2 ⟨A', rfl, o1, o2, o3⟩
    go_wp2
    go_ret
    exact ⟨_, rfl, o1, o2, hn.trans o3⟩

end Go.Proofs.Ytgdaangbgmmgmaa.Frame
