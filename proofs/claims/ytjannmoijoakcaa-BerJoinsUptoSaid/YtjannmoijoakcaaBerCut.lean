/-
  The contract of the helper that takes one field off, without copies.
-/
import Derived.Test.YtjannmoijoakcaaBerCutLen
namespace Go.Proofs.Ytjannmoijoakcaa.Ber
open Go.RowKit

/-- A field taken off: the tag, the content, what stands behind it, the error. -/
def takeOf : List UInt8 → Nat × List UInt8 × List UInt8 × Int
  | [] => (0, [], [], 5)
  | t :: r => if t.toNat % 32 = 31 then (0, [], [], 2) else if (cutLen r).2.2 ≠ 0 then (0, [], [], (cutLen r).2.2) else
      if (cutRest r).length < (cutLen r).1 then (0, [], [], 5) else (t.toNat, (cutRest r).take (cutLen r).1, (cutRest r).drop (cutLen r).1, 0)

theorem and_31 (x : Nat) (h0 : x < 256) : bits .and .u8 (x : Int) 31 = ((x % 32 : Nat) : Int) := by
  have h : ∀ x : Fin 256, bits .and .u8 ((x.val : Nat) : Int) 31 = ((x.val % 32 : Nat) : Int) := by decide +kernel
  exact h ⟨x, h0⟩

set_option maxRecDepth 100000 in
set_option maxHeartbeats 800000 in
theorem cut_nil (w : World) (A : Option Addr) (c : Nat) :
    Calls Try.prog 32 #[.slice A 0 c] w fun e w' => e = .returned (.tuple #[.int .u8 0, .slice none 0 0, .slice none 0 0, .int .i64 5]) ∧ w = w' := by
  go_enter Try.func32, Try.ntmps32
  go_wp2
  exact bodyPost_ret (results4 rfl _ _ _) rfl ⟨rfl, rfl⟩

set_option maxRecDepth 100000 in
set_option maxHeartbeats 800000 in
theorem cut_many (w : World) (g o n c x : Nat) (h1 : 1 ≤ n) (_hc : n ≤ c) (_hm : c ≤ maxLen) (hx : (bits .and .u8 (x : Int) 31 == 31) = true) (c0 : w.cell? ⟨g, o, none⟩ = some (.int .u8 (x : Int))) :
    Calls Try.prog 32 #[.slice (some ⟨g, o, none⟩) n c] w fun e w' => e = .returned (.tuple #[.int .u8 0, .slice none 0 0, .slice none 0 0, .int .i64 2]) ∧ w = w' := by
  unfold maxLen at _hm
  go_enter Try.func32, Try.ntmps32
  go_wp2
  exact bodyPost_ret (results4 rfl _ _ _) rfl ⟨rfl, rfl⟩

/-- What cutLength answers, told of the slice behind the tag. -/
def CL (w : World) (B : Nat) (A : Option Addr) (n c : Nat) (L : Nat) (rest : List UInt8) (err : Int) : Prop :=
  Calls Try.prog 35 #[.slice A n c] w fun e w' =>
      ∃ A' c', e = .returned (.tuple #[.int .u64 (L : Int), .slice A' rest.length c', .int .i64 err]) ∧ Has w' B 1 A' rest.length (bys rest) ∧ rest.length ≤ c' ∧ c' ≤ maxLen ∧ Below w.heap.size w w'

set_option maxRecDepth 100000 in
set_option maxHeartbeats 400000 in
theorem cut_err (w : World) (B g o n c x L : Nat) (rest : List UInt8) (err : Int) (h1 : 1 ≤ n) (_hc : n ≤ c) (_hm : c ≤ maxLen) (hx : (bits .and .u8 (x : Int) 31 == 31) = false) (c0 : w.cell? ⟨g, o, none⟩ = some (.int .u8 (x : Int)))
    (HL : Hid (∀ (A' : Option Addr) (c' : Nat), (c = 1 → A' = some ⟨g, o, none⟩) → (¬ c = 1 → A' = some ⟨g, o + 1, none⟩) → c' = c - 1 → CL w B A' (n - 1) c' L rest err)) (he : (err != 0) = true) :
    Calls Try.prog 32 #[.slice (some ⟨g, o, none⟩) n c] w fun e w' => e = .returned (.tuple #[.int .u8 0, .slice none 0 0, .slice none 0 0, .int .i64 err]) ∧ Below w.heap.size w w' := by
  unfold maxLen at _hm
  by_cases hc1 : c = 1
  all_goals
    try (subst hc1; obtain rfl : n = 1 := by omega)
    go_enter Try.func32, Try.ntmps32
    go_wp2_with fail
    first
      | (have hcl := HL.out (some ⟨g, o, none⟩) 0 (fun _ => rfl) (fun h => by simp at h) rfl
         unfold CL at hcl
         refine hcl.mono ?_)
      | (have hcl := HL.out (some ⟨g, o + 1, none⟩) (c - 1) (fun h => absurd h hc1) (fun _ => rfl) rfl
         unfold CL at hcl
         refine hcl.mono ?_)
    clear hcl
    rintro e w1 ⟨A2, c2, rfl, hH, hc2, hm2, hb⟩
    clear HL
    go_wp2
    exact bodyPost_ret (results4 rfl _ _ _) rfl ⟨rfl, hb⟩

set_option maxRecDepth 100000 in
set_option maxHeartbeats 400000 in
theorem cut_lacks (w : World) (B g o n c x L : Nat) (rest : List UInt8) (err : Int) (h1 : 1 ≤ n) (_hc : n ≤ c) (_hm : c ≤ maxLen) (hx : (bits .and .u8 (x : Int) 31 == 31) = false) (c0 : w.cell? ⟨g, o, none⟩ = some (.int .u8 (x : Int)))
    (HL : Hid (∀ (A' : Option Addr) (c' : Nat), (c = 1 → A' = some ⟨g, o, none⟩) → (¬ c = 1 → A' = some ⟨g, o + 1, none⟩) → c' = c - 1 → CL w B A' (n - 1) c' L rest err)) (he : err = 0) (hL : rest.length < L) :
    Calls Try.prog 32 #[.slice (some ⟨g, o, none⟩) n c] w fun e w' => e = .returned (.tuple #[.int .u8 0, .slice none 0 0, .slice none 0 0, .int .i64 5]) ∧ Below w.heap.size w w' := by
  subst he
  unfold maxLen at _hm
  by_cases hc1 : c = 1
  all_goals
    try (subst hc1; obtain rfl : n = 1 := by omega)
    go_enter Try.func32, Try.ntmps32
    go_wp2_with fail
    first
      | (have hcl := HL.out (some ⟨g, o, none⟩) 0 (fun _ => rfl) (fun h => by simp at h) rfl
         unfold CL at hcl
         refine hcl.mono ?_)
      | (have hcl := HL.out (some ⟨g, o + 1, none⟩) (c - 1) (fun h => absurd h hc1) (fun _ => rfl) rfl
         unfold CL at hcl
         refine hcl.mono ?_)
    clear hcl
    rintro e w1 ⟨A2, c2, rfl, hH, hc2, hm2, hb⟩
    clear HL
    unfold maxLen at hm2
    go_wp2
    exact bodyPost_ret (results4 rfl _ _ _) rfl ⟨rfl, hb⟩

set_option maxRecDepth 100000 in
set_option maxHeartbeats 400000 in
theorem cut_ok (w : World) (B g o n c x L : Nat) (rest : List UInt8) (err : Int) (hgw : g < w.heap.size) (h1 : 1 ≤ n) (_hc : n ≤ c) (_hm : c ≤ maxLen) (hx : (bits .and .u8 (x : Int) 31 == 31) = false) (c0 : w.cell? ⟨g, o, none⟩ = some (.int .u8 (x : Int)))
    (HL : Hid (∀ (A' : Option Addr) (c' : Nat), (c = 1 → A' = some ⟨g, o, none⟩) → (¬ c = 1 → A' = some ⟨g, o + 1, none⟩) → c' = c - 1 → CL w B A' (n - 1) c' L rest err)) (he : err = 0) (hL : L ≤ rest.length) :
    Calls Try.prog 32 #[.slice (some ⟨g, o, none⟩) n c] w fun e w' => ∃ A1 c1 A2 c2, e = .returned (.tuple #[.int .u8 (x : Int), .slice A1 L c1, .slice A2 (rest.length - L) c2, .int .i64 0]) ∧
      Has w' B 1 A1 L (bys (rest.take L)) ∧ L ≤ c1 ∧ c1 ≤ maxLen ∧ Has w' B 1 A2 (rest.length - L) (bys (rest.drop L)) ∧ rest.length - L ≤ c2 ∧ c2 ≤ maxLen ∧ Below w.heap.size w w' := by
  subst he
  unfold maxLen at _hm
  by_cases hc1 : c = 1
  all_goals
    try (subst hc1; obtain rfl : n = 1 := by omega)
    go_enter Try.func32, Try.ntmps32
    go_wp2_with fail
    first
      | (have hcl := HL.out (some ⟨g, o, none⟩) 0 (fun _ => rfl) (fun h => by simp at h) rfl
         unfold CL at hcl
         refine hcl.mono ?_)
      | (have hcl := HL.out (some ⟨g, o + 1, none⟩) (c - 1) (fun h => absurd h hc1) (fun _ => rfl) rfl
         unfold CL at hcl
         refine hcl.mono ?_)
    clear hcl
    rintro e w1 ⟨A2, c2, rfl, hH, hc2, hm2, hb⟩
    clear HL
    have c1 : w1.cell? ⟨g, o, none⟩ = some (.int .u8 (x : Int)) := (hb.cell (p := ⟨g, o, none⟩) hgw).trans c0
    unfold maxLen at hm2
    go_wp2
    go_quiet (fail)
    go_wp2
    · have hcL : c2 = L := by assumption
      subst hcL
      have hL2 : c2 = rest.length := by omega
      refine bodyPost_ret (results4 rfl _ _ _) rfl ⟨_, _, _, _, rfl, ?_, Nat.le_refl _, hm2, ?_, by omega, Nat.zero_le _, Below.drewN hb _⟩
      · have := hH.first (k := c2) (by omega)
        rw [Nat.mul_one, bys_take] at this
        exact this
      · rw [List.drop_eq_nil_of_le (by omega)]
        exact ⟨by simp [bys]; omega, .inl rfl⟩
    · have hcL : ¬ c2 = L := by assumption
      refine bodyPost_ret (results4 rfl _ _ _) rfl ⟨_, _, _, _, rfl, ?_, by omega, hm2, ?_, by omega, by unfold maxLen; omega, Below.drewN hb _⟩
      · have := hH.first (k := L) hL
        rw [Nat.mul_one, bys_take] at this
        exact this
      · have := hH.from_ (k := L) (cap := c2) hL hc2
        rw [if_neg hcL, Nat.mul_one, bys_drop] at this
        exact this

theorem cut_any (w : World) (B : Nat) (A : Option Addr) (n c : Nat) (l : List UInt8) (h : Has w B 1 A n (bys l)) (hB : B ≤ w.heap.size) (hc : n ≤ c) (hm : c ≤ maxLen) :
    Calls Try.prog 32 #[.slice A n c] w fun e w' => ∃ A1 c1 A2 c2, e = .returned (.tuple #[.int .u8 ((takeOf l).1 : Int), .slice A1 (takeOf l).2.1.length c1, .slice A2 (takeOf l).2.2.1.length c2, .int .i64 (takeOf l).2.2.2]) ∧
      Has w' B 1 A1 (takeOf l).2.1.length (bys (takeOf l).2.1) ∧ (takeOf l).2.1.length ≤ c1 ∧ c1 ≤ maxLen ∧ Has w' B 1 A2 (takeOf l).2.2.1.length (bys (takeOf l).2.2.1) ∧ (takeOf l).2.2.1.length ≤ c2 ∧ c2 ≤ maxLen ∧ Below w.heap.size w w' := by
  have hn : l.length = n := by simpa [bys] using h.1
  have fail_ : ∀ (err : Int) (w' : World), takeOf l = (0, [], [], err) → Below w.heap.size w w' → ∃ A1 c1 A2 c2, Ending.returned (.tuple #[.int .u8 0, .slice none 0 0, .slice none 0 0, .int .i64 err]) =
      Ending.returned (.tuple #[.int .u8 ((takeOf l).1 : Int), .slice A1 (takeOf l).2.1.length c1, .slice A2 (takeOf l).2.2.1.length c2, .int .i64 (takeOf l).2.2.2]) ∧
      Has w' B 1 A1 (takeOf l).2.1.length (bys (takeOf l).2.1) ∧ (takeOf l).2.1.length ≤ c1 ∧ c1 ≤ maxLen ∧ Has w' B 1 A2 (takeOf l).2.2.1.length (bys (takeOf l).2.2.1) ∧ (takeOf l).2.2.1.length ≤ c2 ∧ c2 ≤ maxLen ∧ Below w.heap.size w w' := by
    intro err w' ht hb
    rw [ht]
    exact ⟨none, 0, none, 0, rfl, Has.nil, Nat.le_refl _, Nat.zero_le _, Has.nil, Nat.le_refl _, Nat.zero_le _, hb⟩
  cases l with
  | nil =>
    simp only [List.length_nil] at hn
    subst hn
    refine (cut_nil w A c).mono ?_
    rintro e w' ⟨rfl, rfl⟩
    exact fail_ 5 _ rfl (Below.refl _ _)
  | cons t r =>
    obtain ⟨g, o, rfl, hg, hcell⟩ := h.lies (by rw [bys_length]; simp)
    have ht := t.toNat_lt
    have c0 := hcell 0 (c8 t) rfl
    simp only [c8, Nat.add_zero] at c0
    simp only [List.length_cons] at hn
    have ha := and_31 t.toNat ht
    by_cases h1 : t.toNat % 32 = 31
    · refine (cut_many w g o n c t.toNat (by omega) hc hm (by rw [ha, h1]; rfl) c0).mono ?_
      rintro e w' ⟨rfl, rfl⟩
      exact fail_ 2 _ (by rw [takeOf, if_pos h1]) (Below.refl _ _)
    · have hx : (bits .and .u8 (t.toNat : Int) 31 == 31) = false := by
        rw [ha, beq_eq_false_iff_ne]
        omega
      have HL : Hid (∀ (A' : Option Addr) (c' : Nat), (c = 1 → A' = some ⟨g, o, none⟩) → (¬ c = 1 → A' = some ⟨g, o + 1, none⟩) → c' = c - 1 → CL w B A' (n - 1) c' (cutLen r).1 (cutRest r) (cutLen r).2.2) := by
        refine hide fun A' c' e1 e2 e3 => ?_
        subst e3
        have hfr := h.from_ (k := 1) (cap := c) (by omega) hc
        have hA : Has w B 1 A' (n - 1) (bys r) := by
          by_cases hc1 : c = 1
          · rw [e1 hc1]
            rw [if_pos hc1] at hfr
            simpa [bys] using hfr
          · rw [e2 hc1]
            rw [if_neg hc1] at hfr
            simpa [bys, Addr.add_lit] using hfr
        exact cutlen_any w B A' (n - 1) (c - 1) r hA hB (by omega) (by omega)
      by_cases h2 : (cutLen r).2.2 = 0
      · by_cases h3 : (cutRest r).length < (cutLen r).1
        · refine (cut_lacks w B g o n c t.toNat _ _ _ (by omega) hc hm hx c0 HL h2 h3).mono ?_
          rintro e w' ⟨rfl, hb⟩
          exact fail_ 5 _ (by rw [takeOf, if_neg h1, if_neg (by simpa using h2), if_pos h3]) hb
        · have e1 : takeOf (t :: r) = (t.toNat, (cutRest r).take (cutLen r).1, (cutRest r).drop (cutLen r).1, 0) := by
            rw [takeOf, if_neg h1, if_neg (by simpa using h2), if_neg h3]
          rw [e1]
          refine (cut_ok w B g o n c t.toNat _ _ _ (by omega) (by omega) hc hm hx c0 HL h2 (by omega)).mono ?_
          rintro e w' ⟨A1, c1, A2, c2, rfl, q1, q2, q3, q4, q5, q6, q7⟩
          have l1 : ((cutRest r).take (cutLen r).1).length = (cutLen r).1 := by rw [List.length_take]; omega
          have l2 : ((cutRest r).drop (cutLen r).1).length = (cutRest r).length - (cutLen r).1 := List.length_drop
          simp only [l1, l2]
          exact ⟨A1, c1, A2, c2, rfl, q1, q2, q3, q4, q5, q6, q7⟩
      · refine (cut_err w B g o n c t.toNat _ _ _ (by omega) hc hm hx c0 HL (by rw [bne_iff_ne]; exact h2)).mono ?_
        rintro e w' ⟨rfl, hb⟩
        exact fail_ _ _ (by rw [takeOf, if_neg h1, if_pos h2]) hb

end Go.Proofs.Ytjannmoijoakcaa.Ber
