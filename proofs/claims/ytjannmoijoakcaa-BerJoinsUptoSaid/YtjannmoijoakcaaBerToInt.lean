/-
  The contracts that read an integer's content: the program's.
-/
import Derived.Test.YtjannmoijoakcaaBerIntMath
namespace Go.Proofs.Ytjannmoijoakcaa.Ber
open Go.RowKit

set_option maxRecDepth 100000 in
set_option maxHeartbeats 800000 in
theorem lng_any (w : World) (B : Nat) (A : Option Addr) (n c : Nat) (l : List UInt8) (h : Has w B 1 A n (bys l)) (_hc : n ≤ c) (_hm : c ≤ maxLen) :
    Calls Try.prog 31 #[.slice A n c] w fun e w' => e = .returned (.bool (longer l)) ∧ w = w' := by
  have hn : l.length = n := by simpa [bys] using h.1
  unfold maxLen at _hm
  by_cases h2 : n < 2
  · have e : longer l = false := by
      match l, hn with
      | [], _ => rfl
      | [a], _ => rfl
      | a :: b :: r, hn => simp at hn; omega
    rw [e]
    clear e h hn
    go_enter Try.func31, Try.ntmps31
    go_wp2
    go_ret
    exact ⟨rfl, rfl⟩
  · obtain ⟨g, o, rfl, _, hcell⟩ := h.lies (by rw [bys_length]; omega)
    obtain ⟨a, b, r, rfl⟩ : ∃ a b r, l = a :: b :: r := by
      match l, hn with
      | [], hn => simp at hn; omega
      | [a], hn => simp at hn; omega
      | a :: b :: r, _ => exact ⟨a, b, r, rfl⟩
    · have c0 := hcell 0 (c8 a) rfl
      have c1 := hcell 1 (c8 b) rfl
      simp only [c8, Nat.add_zero] at c0 c1
      have ha := a.toNat_lt
      have hb := b.toNat_lt
      have e : longer (a :: b :: r) = ((a.toNat == 0 && decide (b.toNat < 128)) || (a.toNat == 255 && decide (128 ≤ b.toNat))) := rfl
      rw [e]
      clear e h hcell hn
      generalize a.toNat = x at *
      generalize b.toNat = y at *
      by_cases h0 : x = 0
      · subst h0
        by_cases hy : y < 128
        all_goals
          go_enter Try.func31, Try.ntmps31
          go_wp2
          go_ret
          refine ⟨?_, rfl⟩
          first | (simp; done) | (simp; omega)
      · have h0' : ((x : Int) == 0) = false := by simp; omega
        by_cases h9 : x = 255
        · subst h9
          by_cases hy : y < 128
          all_goals
            go_enter Try.func31, Try.ntmps31
            go_wp2
            go_ret
            refine ⟨?_, rfl⟩
            first | (simp; done) | (simp; omega)
        · have h9' : ((x : Int) == 255) = false := by simp; omega
          go_enter Try.func31, Try.ntmps31
          go_wp2
          go_ret
          refine ⟨?_, rfl⟩
          simp [h0, h9]

theorem or_low (s y : Int) (h0 : 0 ≤ y) (h1 : y < 256) (h2 : -36028797018963968 ≤ s) (h3 : s < 36028797018963968) : bits .or .i64 (s * 256) y = s * 256 + y := by
  show IntKind.i64.wrap ((BitVec.ofInt 64 (s * 256) ||| BitVec.ofInt 64 y).toNat : Int) = _
  have hz : BitVec.ofInt 64 (s * 256) &&& BitVec.ofInt 64 y = 0#64 := by
    have e1 : BitVec.ofInt 64 (s * 256) = BitVec.ofInt 64 s <<< 8 := by
      rw [BitVec.ofInt_mul, BitVec.shiftLeft_eq_mul_twoPow]
      rfl
    obtain ⟨m, rfl⟩ := Int.eq_ofNat_of_zero_le h0
    rw [e1, BitVec.ofInt_natCast]
    apply BitVec.eq_of_getLsbD_eq
    intro i hi
    rw [BitVec.getLsbD_and, BitVec.getLsbD_shiftLeft, BitVec.getLsbD_ofNat]
    by_cases h8 : i < 8
    · simp [h8]
    · have : m.testBit i = false := Nat.testBit_lt_two_pow (Nat.lt_of_lt_of_le (by omega : m < 2 ^ 8) (Nat.pow_le_pow_right (by omega) (by omega)))
      simp [this]
  rw [← BitVec.add_eq_or_of_and_eq_zero _ _ hz, ← BitVec.ofInt_add]
  simp only [IntKind.wrap, IntKind.bits, IntKind.signed, BitVec.toNat_ofInt]
  simp
  omega
theorem i8_high (x : Nat) (h : ¬ x < 128) (h2 : x < 256) : wrap64 (IntKind.i8.wrap (x : Int)) = (x : Int) - 256 := by
  have e : IntKind.i8.wrap (x : Int) = (x : Int) - 256 := by
    simp [IntKind.wrap, IntKind.bits, IntKind.signed]
    omega
  rw [e]
  exact IntWalk.wrap64_in _ ⟨by omega, by omega⟩

set_option maxRecDepth 100000 in
set_option maxHeartbeats 1600000 in
theorem toint_loop (w : World) (g o n c : Nat) (l : List UInt8) (x : Nat) (hx8 : x < 256) (h1 : 1 ≤ n) (h8 : n ≤ 8) (hc : n ≤ c) (_hm : c ≤ maxLen)
    (HL : Hid (∀ W : World, W = w → Calls Try.prog 31 #[.slice (some ⟨g, o, none⟩) n c] W fun e w' => e = .returned (.bool false) ∧ w = w'))
    (HS : Hid (sv (l.take 1) = if x < 128 then (x : Int) else (x : Int) - 256))
    (HC : Hid (∀ k, k + 1 < n → ∃ y : Nat, y < 256 ∧ w.cell? ⟨g, o + 1 + k, none⟩ = some (.int .u8 (y : Int)) ∧ sv (l.take (k + 1 + 1)) = sv (l.take (k + 1)) * 256 + (y : Int) ∧ -36028797018963968 ≤ sv (l.take (k + 1)) ∧ sv (l.take (k + 1)) < 36028797018963968))
    (HE : Hid (sv (l.take n) = sv l))
    (c0 : w.cell? ⟨g, o, none⟩ = some (.int .u8 (x : Int))) :
    Calls Try.prog 18 #[.slice (some ⟨g, o, none⟩) n c] w fun e w' => e = .returned (.tuple #[.int .i64 (sv l), .int .i64 0]) ∧ w = w' := by
  unfold maxLen at _hm
  by_cases hx : x < 128
  all_goals
    by_cases hc1 : c = 1
    all_goals
      try subst hc1
      go_enter Try.func18, Try.ntmps18
      go_wp2_with (go_at_call 31; go_must (refine (HL.out _ rfl).mono ?_; rintro e w' ⟨rfl, rfl⟩))
      go_loop [4, 27] (fun a i => ∃ k : Nat, k + 1 ≤ n ∧ i = .int .i64 k ∧ a = .int .i64 (sv (l.take (k + 1)))) (fun _ i => n - (intOf i).toNat)
      case atStart =>
        refine ⟨0, h1, rfl, ?_⟩
        rw [Nat.zero_add, HS.out]
        first | rw [if_pos hx] | rw [if_neg hx, i8_high x hx hx8]
      case round =>
        obtain ⟨k, hk, rfl, rfl⟩ := hrel
        by_cases hlt : k + 1 < n
        · obtain ⟨y, hy, hcell, hsv, hs0, hs1⟩ := HC.out k hlt
          have HSV := hide hsv
          clear hsv
          generalize hs : sv (l.take (k + 1)) = s at *
          have hk2 : (k : Int) < ((n - 1 : Nat) : Int) := by omega
          try (exfalso; omega)
          all_goals go_wp2
          all_goals go_round
          all_goals first
            | exact ⟨k + 1, by omega, by go_num, by rw [HSV.out, or_low s y (by omega) (by omega) hs0 hs1]⟩
            | (simp [intOf]; omega)
        · obtain rfl : k + 1 = n := by omega
          have e := HE.out
          go_wp2
          go_ret2
          exact ⟨rfl, rfl⟩

/-- What a byte more does. -/
theorem sv_more (l : List UInt8) (k : Nat) (b : UInt8) (hb : l[k + 1]? = some b) : sv (l.take (k + 1 + 1)) = sv (l.take (k + 1)) * 256 + (b.toNat : Int) := by
  rw [List.take_add_one, hb]
  have hk : k + 1 < l.length := (List.getElem?_eq_some_iff.1 hb).1
  exact sv_snoc _ b (by
    intro e
    have h2 : (l.take (k + 1)).length = k + 1 := by rw [List.length_take]; omega
    rw [e] at h2
    simp at h2)

theorem sv_small (l : List UInt8) (k : Nat) (h : k + 1 < l.length) (h8 : l.length ≤ 8) : -36028797018963968 ≤ sv (l.take (k + 1)) ∧ sv (l.take (k + 1)) < 36028797018963968 := by
  have hlen : (l.take (k + 1)).length = k + 1 := by rw [List.length_take]; omega
  have hr := sv_range (l.take (k + 1)) (by intro e; rw [e] at hlen; simp at hlen)
  rw [hlen, Nat.add_sub_cancel] at hr
  have hp := pow_grows k (6 - k)
  rw [show k + (6 - k) = 6 by omega] at hp
  simp only [Int.reducePow] at hp
  omega

theorem sv_first (a : UInt8) (r : List UInt8) : sv ((a :: r).take 1) = if a.toNat < 128 then (a.toNat : Int) else (a.toNat : Int) - 256 := by
  simp [sv, signed]

/-- What the loops over a content ask of its cells. -/
theorem sv_cells (w : World) (g o n : Nat) (l : List UInt8) (hn : l.length = n) (h8 : n ≤ 8) (hcell : ∀ j u, (bys l)[j]? = some u → w.cell? ⟨g, o + j, none⟩ = some u) :
    ∀ k, k + 1 < n → ∃ y : Nat, y < 256 ∧ w.cell? ⟨g, o + 1 + k, none⟩ = some (.int .u8 (y : Int)) ∧ sv (l.take (k + 1 + 1)) = sv (l.take (k + 1)) * 256 + (y : Int) ∧ -36028797018963968 ≤ sv (l.take (k + 1)) ∧ sv (l.take (k + 1)) < 36028797018963968 := by
  intro k hk
  have hb : l[k + 1]? = some (l[k + 1]'(by omega)) := List.getElem?_eq_getElem (by omega)
  have hs := sv_small l k (by omega) (by omega)
  refine ⟨(l[k + 1]'(by omega)).toNat, UInt8.toNat_lt _, ?_, sv_more l k _ hb, hs.1, hs.2⟩
  have := hcell (k + 1) (c8 (l[k + 1]'(by omega))) (by rw [bys, List.getElem?_map, hb]; rfl)
  rwa [show o + 1 + k = o + (k + 1) by omega]

set_option maxRecDepth 100000 in
set_option maxHeartbeats 800000 in
theorem toint_no (w : World) (A : Option Addr) (n c : Nat) (hn : n < 1 ∨ 8 < n) (_hm : n ≤ c) (_hc : c ≤ maxLen) :
    Calls Try.prog 18 #[.slice A n c] w fun e w' => e = .returned (.tuple #[.int .i64 0, .int .i64 2]) ∧ w = w' := by
  unfold maxLen at _hc
  by_cases h1 : n < 1
  · go_enter Try.func18, Try.ntmps18
    go_wp2
    go_ret2
    exact ⟨rfl, rfl⟩
  · have h8 : 8 < n := by omega
    go_enter Try.func18, Try.ntmps18
    go_wp2
    go_ret2
    exact ⟨rfl, rfl⟩

set_option maxRecDepth 100000 in
set_option maxHeartbeats 800000 in
theorem toint_long (w : World) (A : Option Addr) (n c : Nat) (h1 : 1 ≤ n) (h8 : n ≤ 8)
    (HL : Hid (∀ W : World, W = w → Calls Try.prog 31 #[.slice A n c] W fun e w' => e = .returned (.bool true) ∧ w = w')) :
    Calls Try.prog 18 #[.slice A n c] w fun e w' => e = .returned (.tuple #[.int .i64 0, .int .i64 2]) ∧ w = w' := by
  go_enter Try.func18, Try.ntmps18
  go_wp2_with (go_at_call 31; go_must (refine (HL.out _ rfl).mono ?_; rintro e w' ⟨rfl, rfl⟩))
  go_ret2
  exact ⟨rfl, rfl⟩

theorem toint_any (w : World) (B : Nat) (A : Option Addr) (n c : Nat) (l : List UInt8) (h : Has w B 1 A n (bys l)) (hc : n ≤ c) (hm : c ≤ maxLen) :
    Calls Try.prog 18 #[.slice A n c] w fun e w' => e = .returned (.tuple #[.int .i64 (toInt l).1, .int .i64 (toInt l).2]) ∧ w = w' := by
  have hn : l.length = n := by simpa [bys] using h.1
  by_cases hs : n < 1 ∨ 8 < n
  · rw [show toInt l = (0, 2) by rw [toInt, if_neg (by omega)]]
    exact toint_no w A n c hs hc hm
  · have hlng := lng_any w B A n c l h hc hm
    cases hl : longer l with
    | true =>
      rw [show toInt l = (0, 2) by rw [toInt, if_neg (by rw [hl]; simp)]]
      rw [hl] at hlng
      exact toint_long w A n c (by omega) (by omega) (hide fun W hW => by subst hW; exact hlng)
    | false =>
      rw [show toInt l = (sv l, 0) by rw [toInt, if_pos ⟨by omega, by omega, hl⟩]]
      rw [hl] at hlng
      obtain ⟨g, o, rfl, _, hcell⟩ := h.lies (by rw [bys_length]; omega)
      obtain ⟨a, r, rfl⟩ : ∃ a r, l = a :: r := by
        cases l with
        | nil => simp at hn; omega
        | cons a r => exact ⟨a, r, rfl⟩
      have c0 := hcell 0 (c8 a) rfl
      simp only [c8, Nat.add_zero] at c0
      exact toint_loop w g o n c (a :: r) a.toNat a.toNat_lt (by omega) (by omega) hc hm (hide fun W hW => by subst hW; exact hlng) (hide (sv_first a r))
        (hide (sv_cells w g o n _ hn (by omega) hcell)) (hide (by rw [List.take_of_length_le (by omega)])) c0

end Go.Proofs.Ytjannmoijoakcaa.Ber
