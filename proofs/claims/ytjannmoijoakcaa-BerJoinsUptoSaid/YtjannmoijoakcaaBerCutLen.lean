/-
  The contract of the helper that reads a length: the length, what stands behind it, or the error.
-/
import Derived.Test.YtjannmoijoakcaaSeat
import Derived.Deep.QuietTactic
import Derived.BigQuiet
namespace Go.Proofs.Ytjannmoijoakcaa.Ber
open Go.RowKit

def un (l : List UInt8) : Nat := l.foldl (fun n c => n * 256 + c.toNat) 0

/-- A length at the beginning: the length, how many bytes it takes, the error. -/
def cutLen : List UInt8 → Nat × Nat × Int
  | [] => (0, 0, 5)
  | f :: r => if f.toNat < 128 then (f.toNat, 1, 0) else if f.toNat - 128 < 1 ∨ 4 < f.toNat - 128 then (0, 0, 2) else
      if r.length < f.toNat - 128 then (0, 0, 5) else (un (r.take (f.toNat - 128)), 1 + (f.toNat - 128), 0)

theorem or_u64 (s y : Nat) (h0 : y < 256) (h1 : s < 72057594037927936) : bits .or .u64 ((s : Int) * 256) (y : Int) = ((s * 256 + y : Nat) : Int) := by
  show IntKind.u64.wrap ((BitVec.ofInt 64 ((s : Int) * 256) ||| BitVec.ofInt 64 (y : Int)).toNat : Int) = _
  have hz : BitVec.ofInt 64 ((s : Int) * 256) &&& BitVec.ofInt 64 (y : Int) = 0#64 := by
    have e1 : BitVec.ofInt 64 ((s : Int) * 256) = BitVec.ofInt 64 (s : Int) <<< 8 := by
      rw [BitVec.ofInt_mul, BitVec.shiftLeft_eq_mul_twoPow]
      rfl
    rw [e1, BitVec.ofInt_natCast, BitVec.ofInt_natCast]
    apply BitVec.eq_of_getLsbD_eq
    intro i hi
    rw [BitVec.getLsbD_and, BitVec.getLsbD_shiftLeft]
    simp only [BitVec.getLsbD_ofNat]
    by_cases h8 : i < 8
    · simp [h8]
    · have : y.testBit i = false := Nat.testBit_lt_two_pow (Nat.lt_of_lt_of_le (by omega : y < 2 ^ 8) (Nat.pow_le_pow_right (by omega) (by omega)))
      simp [this]
  rw [← BitVec.add_eq_or_of_and_eq_zero _ _ hz, ← BitVec.ofInt_add]
  simp only [IntKind.wrap, IntKind.bits, IntKind.signed, BitVec.toNat_ofInt]
  simp
  omega

set_option maxRecDepth 100000 in
set_option maxHeartbeats 800000 in
theorem cutlen_nil (w : World) (A : Option Addr) (c : Nat) :
    Calls Try.prog 35 #[.slice A 0 c] w fun e w' => e = .returned (.tuple #[.int .u64 0, .slice none 0 0, .int .i64 5]) ∧ w = w' := by
  go_enter Try.func35, Try.ntmps35
  go_wp2
  go_ret3
  exact ⟨rfl, rfl⟩

set_option maxRecDepth 100000 in
set_option maxHeartbeats 800000 in
theorem cutlen_short (w : World) (g o n c x : Nat) (h1 : 1 ≤ n) (_hc : n ≤ c) (_hm : c ≤ maxLen) (hx : x < 128) (c0 : w.cell? ⟨g, o, none⟩ = some (.int .u8 (x : Int))) :
    Calls Try.prog 35 #[.slice (some ⟨g, o, none⟩) n c] w fun e w' =>
      e = .returned (.tuple #[.int .u64 x, .slice (if c = 1 then some ⟨g, o, none⟩ else some ⟨g, o + 1, none⟩) (n - 1) (c - 1), .int .i64 0]) ∧ Below w.heap.size w w' := by
  unfold maxLen at _hm
  go_enter Try.func35, Try.ntmps35
  go_wp2
  go_quiet (fail)
  go_wp2
  all_goals go_ret3
  all_goals exact ⟨rfl, Below.drewN (Below.refl _ _) _⟩

set_option maxRecDepth 100000 in
set_option maxHeartbeats 800000 in
theorem cutlen_bad (w : World) (g o n c x : Nat) (h1 : 1 ≤ n) (_hc : n ≤ c) (_hm : c ≤ maxLen) (hx : 128 ≤ x) (hx2 : x = 128 ∨ 132 < x) (hx8 : x < 256) (c0 : w.cell? ⟨g, o, none⟩ = some (.int .u8 (x : Int))) :
    Calls Try.prog 35 #[.slice (some ⟨g, o, none⟩) n c] w fun e w' => e = .returned (.tuple #[.int .u64 0, .slice none 0 0, .int .i64 2]) ∧ Below w.heap.size w w' := by
  unfold maxLen at _hm
  rcases hx2 with h | h
  · subst h
    go_enter Try.func35, Try.ntmps35
    go_wp2
    go_quiet (fail)
    go_wp2
    all_goals go_ret3
    all_goals exact ⟨rfl, Below.drewN (Below.refl _ _) _⟩
  · go_enter Try.func35, Try.ntmps35
    go_wp2
    go_quiet (fail)
    go_wp2
    all_goals go_ret3
    all_goals exact ⟨rfl, Below.drewN (Below.refl _ _) _⟩

set_option maxRecDepth 100000 in
set_option maxHeartbeats 800000 in
theorem cutlen_lacks (w : World) (g o n c k : Nat) (h1 : 1 ≤ n) (_hc : n ≤ c) (_hm : c ≤ maxLen) (hk1 : 1 ≤ k) (hk4 : k ≤ 4) (hn : n - 1 < k) (c0 : w.cell? ⟨g, o, none⟩ = some (.int .u8 (128 + k : Int))) :
    Calls Try.prog 35 #[.slice (some ⟨g, o, none⟩) n c] w fun e w' => e = .returned (.tuple #[.int .u64 0, .slice none 0 0, .int .i64 5]) ∧ Below w.heap.size w w' := by
  unfold maxLen at _hm
  have h2 : ((n - 1 : Nat) : Int) < (k : Int) := by omega
  go_enter Try.func35, Try.ntmps35
  go_wp2
  go_quiet (fail)
  go_wp2
  all_goals go_ret3
  all_goals exact ⟨rfl, Below.drewN (Below.refl _ _) _⟩

set_option maxRecDepth 100000 in
set_option maxHeartbeats 1600000 in
theorem cutlen_wide (w : World) (g o n c k : Nat) (U : Nat → Nat) (v : Nat) (h1 : 1 ≤ n) (_hc : n ≤ c) (_hm : c ≤ maxLen) (hk1 : 1 ≤ k) (hk4 : k ≤ 4) (hn : k ≤ n - 1) (c0 : w.cell? ⟨g, o, none⟩ = some (.int .u8 (128 + k : Int)))
    (HU : Hid (U 0 = 0)) (HV : Hid (U k = v))
    (HC : Hid (∀ j, j < k → ∃ y : Nat, y < 256 ∧ w.cell? ⟨g, o + 1 + j, none⟩ = some (.int .u8 (y : Int)) ∧ U (j + 1) = U j * 256 + y ∧ U j < 16777216)) :
    Calls Try.prog 35 #[.slice (some ⟨g, o, none⟩) n c] w fun e w' =>
      e = .returned (.tuple #[.int .u64 v, .slice (if c - 1 = k then some ⟨g, o + 1, none⟩ else some ⟨g, o + 1 + k, none⟩) (n - 1 - k) (c - 1 - k), .int .i64 0]) ∧ Below w.heap.size w w' := by
  unfold maxLen at _hm
  have hc1 : ¬ c = 1 := by omega
  have ek : 128 + (k : Int) - 128 = (k : Int) := by omega
  have h2 : (k : Int) ≤ ((n - 1 : Nat) : Int) := by omega
  have h3 : k ≤ c - 1 := by omega
  go_enter Try.func35, Try.ntmps35
  go_wp2
  go_quiet (fail)
  go_wp2
  go_loop [8, 41] (fun a i => ∃ j : Nat, j ≤ k ∧ i = .int .i64 j ∧ a = .int .u64 (U j)) (fun _ i => k - (intOf i).toNat)
  case atStart => exact ⟨0, Nat.zero_le _, rfl, by rw [HU.out]; rfl⟩
  case round =>
    obtain ⟨j, hj, rfl, rfl⟩ := hrel
    by_cases hlt : j < k
    · obtain ⟨y, hy, hcell, hsv, hs0⟩ := HC.out j hlt
      have HSV := hide hsv
      clear hsv
      generalize U j = s at *
      go_wp2
      go_round
      case rel => exact ⟨j + 1, by omega, by go_num, by rw [HSV.out, or_u64 s y hy (by omega)]⟩
      case measure => simp [intOf]; omega
    · obtain rfl : j = k := by omega
      go_wp2
      have hv := HV.out
      subst hv
      go_quiet (fail)
      go_wp2
      all_goals go_ret3
      all_goals exact ⟨rfl, Below.drewN (Below.refl _ _) _⟩

theorem un_snoc (l : List UInt8) (j : Nat) (b : UInt8) (hb : l[j]? = some b) : un (l.take (j + 1)) = un (l.take j) * 256 + b.toNat := by
  rw [show l.take (j + 1) = l.take j ++ [b] by rw [List.take_add_one, hb]; rfl]
  simp [un, List.foldl_append]

theorem un_range (l : List UInt8) : ∀ k, l.length = k → un l < 256 ^ k := by
  suffices h : ∀ (l : List UInt8) (n m : Nat), n < 256 ^ m → l.foldl (fun n c => n * 256 + c.toNat) n < 256 ^ (m + l.length) by
    intro k hk
    have := h l 0 0 (by simp)
    rwa [Nat.zero_add, hk] at this
  intro l
  induction l with
  | nil => intro n m h; simpa using h
  | cons c r ih =>
    intro n m h
    rw [List.foldl_cons, List.length_cons, show m + (r.length + 1) = (m + 1) + r.length by omega]
    apply ih
    have hc := c.toNat_lt
    rw [Nat.pow_succ]
    omega

/-- What stands behind the length. -/
def cutRest (l : List UInt8) : List UInt8 := if (cutLen l).2.2 = 0 then l.drop (cutLen l).2.1 else []

theorem cutlen_any (w : World) (B : Nat) (A : Option Addr) (n c : Nat) (l : List UInt8) (h : Has w B 1 A n (bys l)) (hB : B ≤ w.heap.size) (hc : n ≤ c) (hm : c ≤ maxLen) :
    Calls Try.prog 35 #[.slice A n c] w fun e w' =>
      ∃ A' c', e = .returned (.tuple #[.int .u64 ((cutLen l).1 : Int), .slice A' (cutRest l).length c', .int .i64 (cutLen l).2.2]) ∧ Has w' B 1 A' (cutRest l).length (bys (cutRest l)) ∧ (cutRest l).length ≤ c' ∧ c' ≤ maxLen ∧ Below w.heap.size w w' := by
  have hn : l.length = n := by simpa [bys] using h.1
  cases l with
  | nil =>
    simp only [List.length_nil] at hn
    subst hn
    refine (cutlen_nil w A c).mono ?_
    rintro e w' ⟨rfl, rfl⟩
    exact ⟨none, 0, rfl, Has.nil, Nat.le_refl _, Nat.zero_le _, Below.refl _ _⟩
  | cons f r =>
    obtain ⟨g, o, rfl, hg, hcell⟩ := h.lies (by rw [bys_length]; simp)
    have hf := f.toNat_lt
    have c0 := hcell 0 (c8 f) rfl
    simp only [c8, Nat.add_zero] at c0
    simp only [List.length_cons] at hn
    by_cases h1 : f.toNat < 128
    · have e1 : cutLen (f :: r) = (f.toNat, 1, 0) := by rw [cutLen, if_pos h1]
      have e2 : cutRest (f :: r) = r := by rw [cutRest, e1]; rfl
      rw [e1, e2]
      refine (cutlen_short w g o n c f.toNat (by omega) hc hm h1 c0).mono ?_
      rintro e w' ⟨rfl, hb⟩
      have hr : r.length = n - 1 := by omega
      have hfr := h.from_ (k := 1) (cap := c) (by omega) hc
      refine ⟨_, c - 1, by rw [hr], ?_, by omega, by omega, hb⟩
      rw [hr]
      have h2 : Has w B 1 (if c = 1 then some ⟨g, o, none⟩ else some ⟨g, o + 1, none⟩) (n - 1) (bys r) := by simpa [bys, Addr.add_lit] using hfr
      exact h2.below (hb.mono hB)
    · by_cases h2 : f.toNat - 128 < 1 ∨ 4 < f.toNat - 128
      · have e1 : cutLen (f :: r) = (0, 0, 2) := by rw [cutLen, if_neg h1, if_pos h2]
        have e2 : cutRest (f :: r) = [] := by rw [cutRest, e1]; rfl
        rw [e1, e2]
        refine (cutlen_bad w g o n c f.toNat (by omega) hc hm (by omega) (by omega) hf c0).mono ?_
        rintro e w' ⟨rfl, hb⟩
        exact ⟨none, 0, rfl, Has.nil, Nat.le_refl _, Nat.zero_le _, hb⟩
      · obtain ⟨k, hk⟩ : ∃ k, f.toNat = 128 + k := ⟨f.toNat - 128, by omega⟩
        have c1 : w.cell? ⟨g, o, none⟩ = some (.int .u8 (128 + k : Int)) := by rw [c0, hk]; simp
        by_cases h3 : r.length < f.toNat - 128
        · have e1 : cutLen (f :: r) = (0, 0, 5) := by rw [cutLen, if_neg h1, if_neg h2, if_pos h3]
          have e2 : cutRest (f :: r) = [] := by rw [cutRest, e1]; rfl
          rw [e1, e2]
          refine (cutlen_lacks w g o n c k (by omega) hc hm (by omega) (by omega) (by omega) c1).mono ?_
          rintro e w' ⟨rfl, hb⟩
          exact ⟨none, 0, rfl, Has.nil, Nat.le_refl _, Nat.zero_le _, hb⟩
        · have e1 : cutLen (f :: r) = (un (r.take k), 1 + k, 0) := by
            rw [cutLen, if_neg h1, if_neg h2, if_neg h3, show f.toNat - 128 = k by omega]
          have e2 : cutRest (f :: r) = r.drop k := by
            rw [cutRest, e1, if_pos rfl, Nat.add_comm]
            rfl
          rw [e1, e2]
          refine (cutlen_wide w g o n c k (fun j => un (r.take j)) (un (r.take k)) (by omega) hc hm (by omega) (by omega) (by omega) c1 (hide rfl) (hide rfl) (hide fun j hj => ?_)).mono ?_
          · have hb : r[j]? = some (r[j]'(by omega)) := List.getElem?_eq_getElem (by omega)
            have hr := un_range (r.take j) j (by rw [List.length_take]; omega)
            have hp : 256 ^ j ≤ 256 ^ 3 := Nat.pow_le_pow_right (by omega) (by omega)
            refine ⟨(r[j]'(by omega)).toNat, UInt8.toNat_lt _, ?_, un_snoc r j _ hb, by omega⟩
            have := hcell (j + 1) (c8 (r[j]'(by omega))) (by rw [bys, List.getElem?_map, List.getElem?_cons_succ, hb]; rfl)
            rwa [show o + 1 + j = o + (j + 1) by omega]
          · rintro e w' ⟨rfl, hb⟩
            have hlen : (r.drop k).length = n - 1 - k := by rw [List.length_drop]; omega
            have hfr := h.from_ (k := 1 + k) (cap := c) (by omega) hc
            refine ⟨_, c - 1 - k, by rw [hlen], ?_, by omega, by omega, hb⟩
            rw [hlen]
            have h4 : Has w B 1 (if c - 1 = k then some ⟨g, o + 1, none⟩ else some ⟨g, o + 1 + k, none⟩) (n - 1 - k) (bys (r.drop k)) := by
              by_cases h5 : c - 1 = k
              · have h6 : r.drop k = [] := List.drop_eq_nil_of_le (by omega)
                rw [h6]
                exact ⟨by simp [bys]; omega, .inl rfl⟩
              · rw [if_neg h5]
                rw [if_neg (by omega)] at hfr
                have e3 : (bys (f :: r)).drop ((1 + k) * 1) = bys (r.drop k) := by
                  rw [Nat.mul_one, bys_drop, Nat.add_comm]
                  rfl
                rw [e3] at hfr
                simpa [Addr.add_lit, Nat.add_assoc, Nat.sub_sub] using hfr
            exact h4.below (hb.mono hB)

end Go.Proofs.Ytjannmoijoakcaa.Ber
