/-
  The document's own reading of a tag and a length.
-/
import Derived.Test.YtjannmoijoakcaaBerTake
import Derived.Test.YtjannmoijoakcaaBerToInt
namespace Go.Proofs.Ytjannmoijoakcaa.Ber
open Go.RowKit

/-- The tag's and the length's size, the length, the error. -/
def headOf : List UInt8 → Nat × Nat × Int
  | [] => (0, 0, 5)
  | t :: r => if t.toNat % 32 = 31 then (0, 0, 2) else if (cutLen r).2.2 ≠ 0 then (0, 0, (cutLen r).2.2) else (1 + (cutLen r).2.1, (cutLen r).1, 0)

set_option maxRecDepth 100000 in
set_option maxHeartbeats 800000 in
theorem head_nil (w : World) (A : Option Addr) (c : Nat) :
    Calls Try.prog 34 #[.slice A 0 c] w fun e w' => e = .returned (.tuple #[.int .i64 0, .int .i64 0, .int .i64 5]) ∧ Below w.heap.size w w' := by
  go_enter Try.func34, Try.ntmps34
  go_wp2
  go_ret3
  exact ⟨rfl, Below.refl _ _⟩

set_option maxRecDepth 100000 in
set_option maxHeartbeats 800000 in
theorem head_many (w : World) (g o n c x : Nat) (h1 : 1 ≤ n) (_hc : n ≤ c) (_hm : c ≤ maxLen) (hx : (bits .and .u8 (x : Int) 31 == 31) = true) (c0 : w.cell? ⟨g, o, none⟩ = some (.int .u8 (x : Int))) :
    Calls Try.prog 34 #[.slice (some ⟨g, o, none⟩) n c] w fun e w' => e = .returned (.tuple #[.int .i64 0, .int .i64 0, .int .i64 2]) ∧ Below w.heap.size w w' := by
  unfold maxLen at _hm
  go_enter Try.func34, Try.ntmps34
  go_wp2
  go_ret3
  exact ⟨rfl, Below.refl _ _⟩

set_option maxRecDepth 100000 in
set_option maxHeartbeats 800000 in
theorem head_one (w : World) (g o c x : Nat) (hx : (bits .and .u8 (x : Int) 31 == 31) = false) (c0 : w.cell? ⟨g, o, none⟩ = some (.int .u8 (x : Int))) :
    Calls Try.prog 34 #[.slice (some ⟨g, o, none⟩) 1 c] w fun e w' => e = .returned (.tuple #[.int .i64 0, .int .i64 0, .int .i64 5]) ∧ Below w.heap.size w w' := by
  go_enter Try.func34, Try.ntmps34
  go_wp2
  go_ret3
  exact ⟨rfl, Below.refl _ _⟩

set_option maxRecDepth 100000 in
set_option maxHeartbeats 800000 in
theorem head_short (w : World) (g o n c x y : Nat) (h1 : 2 ≤ n) (_hc : n ≤ c) (_hm : c ≤ maxLen) (hx : (bits .and .u8 (x : Int) 31 == 31) = false) (c0 : w.cell? ⟨g, o, none⟩ = some (.int .u8 (x : Int)))
    (hy : y < 128) (c1 : w.cell? ⟨g, o + 1, none⟩ = some (.int .u8 (y : Int))) :
    Calls Try.prog 34 #[.slice (some ⟨g, o, none⟩) n c] w fun e w' => e = .returned (.tuple #[.int .i64 2, .int .i64 y, .int .i64 0]) ∧ Below w.heap.size w w' := by
  unfold maxLen at _hm
  go_enter Try.func34, Try.ntmps34
  go_wp2
  go_quiet (fail)
  go_wp2
  go_ret3
  exact ⟨rfl, Below.drewN (Below.refl _ _) _⟩

set_option maxRecDepth 100000 in
set_option maxHeartbeats 800000 in
theorem head_bad (w : World) (g o n c x y : Nat) (h1 : 2 ≤ n) (_hc : n ≤ c) (_hm : c ≤ maxLen) (hx : (bits .and .u8 (x : Int) 31 == 31) = false) (c0 : w.cell? ⟨g, o, none⟩ = some (.int .u8 (x : Int)))
    (hy : 128 ≤ y) (hy8 : y < 256) (hb : y = 128 ∨ 132 < y) (c1 : w.cell? ⟨g, o + 1, none⟩ = some (.int .u8 (y : Int))) :
    Calls Try.prog 34 #[.slice (some ⟨g, o, none⟩) n c] w fun e w' => e = .returned (.tuple #[.int .i64 0, .int .i64 0, .int .i64 2]) ∧ Below w.heap.size w w' := by
  unfold maxLen at _hm
  rcases hb with h | h
  · subst h
    go_enter Try.func34, Try.ntmps34
    go_wp2
    go_ret3
    exact ⟨rfl, Below.refl _ _⟩
  · go_enter Try.func34, Try.ntmps34
    go_wp2
    go_ret3
    exact ⟨rfl, Below.refl _ _⟩

set_option maxRecDepth 100000 in
set_option maxHeartbeats 800000 in
theorem head_lacks (w : World) (g o n c x k : Nat) (h1 : 2 ≤ n) (_hc : n ≤ c) (_hm : c ≤ maxLen) (hx : (bits .and .u8 (x : Int) 31 == 31) = false) (c0 : w.cell? ⟨g, o, none⟩ = some (.int .u8 (x : Int)))
    (hk1 : 1 ≤ k) (hk4 : k ≤ 4) (hn : n < 2 + k) (c1 : w.cell? ⟨g, o + 1, none⟩ = some (.int .u8 (128 + k : Int))) :
    Calls Try.prog 34 #[.slice (some ⟨g, o, none⟩) n c] w fun e w' => e = .returned (.tuple #[.int .i64 0, .int .i64 0, .int .i64 5]) ∧ Below w.heap.size w w' := by
  unfold maxLen at _hm
  have ek : 128 + (k : Int) - 128 = (k : Int) := by omega
  go_enter Try.func34, Try.ntmps34
  go_wp2
  go_ret3
  exact ⟨rfl, Below.refl _ _⟩

set_option maxRecDepth 100000 in
set_option maxHeartbeats 1600000 in
theorem head_wide (w : World) (g o n c x k : Nat) (U : Nat → Nat) (v : Nat) (h1 : 2 ≤ n) (_hc : n ≤ c) (_hm : c ≤ maxLen) (hx : (bits .and .u8 (x : Int) 31 == 31) = false) (c0 : w.cell? ⟨g, o, none⟩ = some (.int .u8 (x : Int)))
    (hk1 : 1 ≤ k) (hk4 : k ≤ 4) (hn : 2 + k ≤ n) (c1 : w.cell? ⟨g, o + 1, none⟩ = some (.int .u8 (128 + k : Int)))
    (HU : Hid (U 0 = 0)) (HV : Hid (U k = v))
    (HC : Hid (∀ j, j < k → ∃ y : Nat, y < 256 ∧ w.cell? ⟨g, o + (2 + j), none⟩ = some (.int .u8 (y : Int)) ∧ U (j + 1) = U j * 256 + y ∧ U j < 16777216)) :
    Calls Try.prog 34 #[.slice (some ⟨g, o, none⟩) n c] w fun e w' => e = .returned (.tuple #[.int .i64 (2 + k : Int), .int .i64 v, .int .i64 0]) ∧ Below w.heap.size w w' := by
  unfold maxLen at _hm
  have ek : 128 + (k : Int) - 128 = (k : Int) := by omega
  go_enter Try.func34, Try.ntmps34
  go_wp2
  go_loop [6, 44] (fun a i => ∃ j : Nat, j ≤ k ∧ i = .int .i64 j ∧ a = .int .i64 (U j)) (fun _ i => k - (intOf i).toNat)
  case atStart => exact ⟨0, Nat.zero_le _, rfl, by rw [HU.out]; rfl⟩
  case round =>
    obtain ⟨j, hj, rfl, rfl⟩ := hrel
    by_cases hlt : j < k
    · obtain ⟨y, hy, hcell, hsv, hs0⟩ := HC.out j hlt
      have HSV := hide hsv
      clear hsv
      generalize U j = s at *
      go_wp2
      go_round
      case rel => exact ⟨j + 1, by omega, by go_num, by rw [HSV.out, or_low s y (by omega) (by omega) (by omega) (by omega)]; simp⟩
      case measure => simp [intOf]; omega
    · obtain rfl : j = k := by omega
      have hv := HV.out
      subst hv
      go_wp2
      go_ret3
      exact ⟨rfl, Below.refl _ _⟩

theorem head_any (w : World) (B : Nat) (A : Option Addr) (n c : Nat) (l : List UInt8) (h : Has w B 1 A n (bys l)) (hc : n ≤ c) (hm : c ≤ maxLen) :
    Calls Try.prog 34 #[.slice A n c] w fun e w' => e = .returned (.tuple #[.int .i64 ((headOf l).1 : Int), .int .i64 ((headOf l).2.1 : Int), .int .i64 (headOf l).2.2]) ∧ Below w.heap.size w w' := by
  have hn : l.length = n := by simpa [bys] using h.1
  match l, hn with
  | [], hn =>
    simp only [List.length_nil] at hn
    subst hn
    exact head_nil w A c
  | [t], hn =>
    simp only [List.length_cons, List.length_nil] at hn
    subst hn
    obtain ⟨g, o, rfl, hg, hcell⟩ := h.lies (by rw [bys_length]; simp)
    have ht := t.toNat_lt
    have c0 := hcell 0 (c8 t) rfl
    simp only [c8, Nat.add_zero] at c0
    have ha := and_31 t.toNat ht
    by_cases h1 : t.toNat % 32 = 31
    · rw [headOf, if_pos h1]
      exact head_many w g o _ c t.toNat (by omega) hc hm (by rw [ha, h1]; rfl) c0
    · rw [headOf, if_neg h1]
      exact head_one w g o c t.toNat (by rw [ha, beq_eq_false_iff_ne]; omega) c0
  | t :: f :: r, hn =>
    obtain ⟨g, o, rfl, hg, hcell⟩ := h.lies (by rw [bys_length]; simp)
    have ht := t.toNat_lt
    have hf := f.toNat_lt
    have c0 := hcell 0 (c8 t) rfl
    have c1 := hcell 1 (c8 f) rfl
    simp only [c8, Nat.add_zero] at c0 c1
    simp only [List.length_cons] at hn
    have ha := and_31 t.toNat ht
    by_cases h1 : t.toNat % 32 = 31
    · rw [headOf, if_pos h1]
      exact head_many w g o _ c t.toNat (by omega) hc hm (by rw [ha, h1]; rfl) c0
    · have hx : (bits .and .u8 (t.toNat : Int) 31 == 31) = false := by
        rw [ha, beq_eq_false_iff_ne]
        omega
      rw [headOf, if_neg h1]
      by_cases h2 : f.toNat < 128
      · have e1 : cutLen (f :: r) = (f.toNat, 1, 0) := by rw [cutLen, if_pos h2]
        rw [e1, if_neg (by simp)]
        exact head_short w g o n c t.toNat f.toNat (by omega) hc hm hx c0 h2 c1
      · by_cases h3 : f.toNat - 128 < 1 ∨ 4 < f.toNat - 128
        · have e1 : cutLen (f :: r) = (0, 0, 2) := by rw [cutLen, if_neg h2, if_pos h3]
          rw [e1, if_pos (by simp)]
          exact head_bad w g o n c t.toNat f.toNat (by omega) hc hm hx c0 (by omega) hf (by omega) c1
        · obtain ⟨k, hk⟩ : ∃ k, f.toNat = 128 + k := ⟨f.toNat - 128, by omega⟩
          have c2 : w.cell? ⟨g, o + 1, none⟩ = some (.int .u8 (128 + k : Int)) := by rw [c1, hk]; simp
          by_cases h4 : r.length < f.toNat - 128
          · have e1 : cutLen (f :: r) = (0, 0, 5) := by rw [cutLen, if_neg h2, if_neg h3, if_pos h4]
            rw [e1, if_pos (by simp)]
            exact head_lacks w g o n c t.toNat k (by omega) hc hm hx c0 (by omega) (by omega) (by omega) c2
          · have e1 : cutLen (f :: r) = (un (r.take k), 1 + k, 0) := by
              rw [cutLen, if_neg h2, if_neg h3, if_neg h4, show f.toNat - 128 = k by omega]
            rw [e1, if_neg (by simp)]
            have := head_wide w g o n c t.toNat k (fun j => un (r.take j)) (un (r.take k)) (by omega) hc hm hx c0 (by omega) (by omega) (by omega) c2 (hide rfl) (hide rfl) (hide fun j hj => ?_)
            · rw [show (((1 + (1 + k) : Nat)) : Int) = 2 + (k : Int) by omega]
              exact this
            · have hb : r[j]? = some (r[j]'(by omega)) := List.getElem?_eq_getElem (by omega)
              have hr := un_range (r.take j) j (by rw [List.length_take]; omega)
              have hp : 256 ^ j ≤ 256 ^ 3 := Nat.pow_le_pow_right (by omega) (by omega)
              refine ⟨(r[j]'(by omega)).toNat, UInt8.toNat_lt _, ?_, un_snoc r j _ hb, by omega⟩
              have := hcell (j + 2) (c8 (r[j]'(by omega))) (by rw [bys, List.getElem?_map, List.getElem?_cons_succ, List.getElem?_cons_succ, hb]; rfl)
              rwa [show o + (2 + j) = o + (j + 2) by omega]

end Go.Proofs.Ytjannmoijoakcaa.Ber
