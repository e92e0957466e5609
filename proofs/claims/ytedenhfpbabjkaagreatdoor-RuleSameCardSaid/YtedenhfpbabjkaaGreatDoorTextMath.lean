/-
  HOW A NUMBER's TEXT IS TAKEN APART: its last sign, the integers ahead of it and behind it. No program in it. By an AI agent.
-/
import Derived.Test.YtedenhfpbabjkaaGreatDoorText
import Derived.Test.YtedenhfpbabjkaaGreatDoorLia
import Derived.Lib.AtoiTie
import Derived.Lib.AtoiAllCases
namespace Go.Proofs.YtedenhfpbabjkaaGreatDoor
open Go.Lib

def IsDig (b : UInt8) : Prop := 48 ≤ b.toNat ∧ b.toNat ≤ 57

theorem digitVal_of (k : Nat) (hk : k < 10) : digitVal (UInt8.ofNat (48 + k)) = some k := by
  have h : (UInt8.ofNat (48 + k)).toNat = 48 + k := by simp [UInt8.toNat_ofNat']; omega
  unfold digitVal
  rw [h, if_pos (by omega)]
  congr 1; omega

theorem decFrom_app (x y : List UInt8) : ∀ (acc n : Nat), decFrom acc x = some n → decFrom acc (x ++ y) = decFrom n y := by
  induction x with
  | nil => intro acc n h; simp [decFrom] at h; subst h; rfl
  | cons b r ih =>
    intro acc n h
    simp only [List.cons_append, decFrom] at h ⊢
    cases hb : digitVal b with
    | none => rw [hb] at h; cases h
    | some d => rw [hb] at h; simp only at h ⊢; exact ih _ _ h

theorem dec_val (u : Nat) : decFrom 0 (decDigits u) = some u := by
  induction u using Nat.strongRecOn with
  | _ u ih =>
    by_cases h : u < 10
    · rw [decDigits, dif_pos h]
      simp only [decFrom, digitVal_of u h]
      congr 1; omega
    · rw [decDigits, dif_neg h, decFrom_app _ _ _ _ (ih (u / 10) (by omega))]
      simp only [decFrom, digitVal_of (u % 10) (by omega)]
      congr 1; omega

theorem dec_dig (u : Nat) : ∀ b ∈ decDigits u, IsDig b := by
  induction u using Nat.strongRecOn with
  | _ u ih =>
    intro b hb
    by_cases h : u < 10
    · rw [decDigits, dif_pos h] at hb
      simp only [List.mem_singleton] at hb
      subst hb
      unfold IsDig
      simp [UInt8.toNat_ofNat']; omega
    · rw [decDigits, dif_neg h, List.mem_append] at hb
      rcases hb with hb | hb
      · exact ih (u / 10) (by omega) b hb
      · simp only [List.mem_singleton] at hb
        subst hb
        unfold IsDig
        simp [UInt8.toNat_ofNat']; omega

theorem dec_cons (u : Nat) : ∃ x r, decDigits u = x :: r ∧ IsDig x := by
  have hl : 0 < (decDigits u).length := by rw [decDigits_length]; have := nDigits_pos u; omega
  cases h : decDigits u with
  | nil => rw [h] at hl; simp at hl
  | cons x r => exact ⟨x, r, rfl, dec_dig u x (by rw [h]; simp)⟩

theorem dec_nat (u : Nat) : decNat (decDigits u) = some u := by
  obtain ⟨x, r, h, _⟩ := dec_cons u
  unfold decNat
  rw [h]
  simp only [List.isEmpty_cons, Bool.false_eq_true, if_false]
  rw [← h, dec_val]

theorem nDigits_le : ∀ (k u : Nat), u < 10 ^ (k + 1) → nDigits u ≤ k + 1
  | 0, u, h => by rw [nDigits_small (by simpa using h)]; omega
  | k + 1, u, h => by
    by_cases h10 : u < 10
    · rw [nDigits_small h10]; omega
    · rw [nDigits_big h10]
      have := nDigits_le k (u / 10) (by rw [Nat.pow_succ] at h; omega)
      omega

theorem dec_len (u : Nat) (h : u ≤ 1000000) : (decDigits u).length ≤ 7 := by
  rw [decDigits_length]
  exact nDigits_le 6 u (by omega)

theorem ne_of_dig {x : UInt8} (h : IsDig x) (k : UInt8) (hk : k.toNat < 48 ∨ 57 < k.toNat) : x ≠ k := by
  rintro rfl
  unfold IsDig at h
  omega

theorem atoi_dec (u : Nat) : atoi (decDigits u) = some (u : Int) := by
  obtain ⟨x, r, h, hx⟩ := dec_cons u
  have h45 : (x == 45) = false := beq_false_of_ne (ne_of_dig hx 45 (by decide))
  have h43 : (x == 43) = false := beq_false_of_ne (ne_of_dig hx 43 (by decide))
  rw [h]
  simp only [atoi, h45, h43, Bool.false_eq_true, if_false]
  rw [← h, dec_nat]; rfl

/-- Bounds of the parts. -/
structure Small (a : Int) : Prop where
  lo : -1000000 ≤ a
  hi : a ≤ 1000000

theorem itoa_pos {a : Int} (h : 0 ≤ a) : itoa a = decDigits a.toNat := by unfold itoa; rw [if_neg (by omega)]
theorem itoa_neg' {a : Int} (h : a < 0) : itoa a = 45 :: decDigits a.natAbs := by unfold itoa; rw [if_pos h]

theorem itoa_len {a : Int} (h : Small a) : (itoa a).length ≤ 8 := by
  by_cases h0 : 0 ≤ a
  · rw [itoa_pos h0]; have := dec_len a.toNat (by have := h.hi; omega); omega
  · rw [itoa_neg' (by omega)]; have := dec_len a.natAbs (by have := h.lo; omega); simp; omega

theorem atoi_itoa {a : Int} (h : Small a) : atoiAll (itoa a) = .ok a := by
  rw [atoiAll_short _ (by have := itoa_len h; omega)]
  have : atoi (itoa a) = some a := by
    by_cases h0 : 0 ≤ a
    · rw [itoa_pos h0, atoi_dec]; congr 1; omega
    · rw [itoa_neg' (by omega)]
      simp only [atoi, BEq.rfl, if_true, dec_nat, Option.map_some]
      congr 1; omega
  rw [this]; rfl

theorem atoi_plus {b : Int} (h : Small b) (h0 : 0 ≤ b) : atoiAll (43 :: itoa b) = .ok b := by
  rw [atoiAll_short _ (by have := itoa_len h; simp; omega)]
  have : atoi (43 :: itoa b) = some b := by
    rw [itoa_pos h0]
    have e : ((43 : UInt8) == 45) = false := by decide
    simp only [atoi, e, Bool.false_eq_true, if_false, BEq.rfl, if_true, dec_nat, Option.map_some]
    congr 1; omega
  rw [this]; rfl

/-- What stands ahead of the i. -/
def pre (b : Int) : List UInt8 := if b = 1 then [] else if b = -1 then [45] else itoa b
theorem sec_pre (b : Int) : sec b = pre b ++ [105] := by
  unfold sec pre
  split
  · rfl
  · split
    · rfl
    · rfl

/-- The integer of what stands ahead of the i. -/
def rim (l : List UInt8) : Option Int := if l = [] ∨ l = [43] then some 1 else if l = [45] then some (-1) else match atoiAll l with
  | .ok v => some v
  | _ => none

theorem dec_ne (u : Nat) : decDigits u ≠ [] ∧ decDigits u ≠ [43] ∧ decDigits u ≠ [45] := by
  obtain ⟨x, r, h, hx⟩ := dec_cons u
  rw [h]
  refine ⟨by simp, ?_, ?_⟩
  · intro e; injection e with e1 e2; exact ne_of_dig hx 43 (by decide) e1
  · intro e; injection e with e1 e2; exact ne_of_dig hx 45 (by decide) e1

theorem itoa_ne (b : Int) : itoa b ≠ [] ∧ itoa b ≠ [43] ∧ itoa b ≠ [45] := by
  by_cases h : 0 ≤ b
  · rw [itoa_pos h]; exact dec_ne _
  · rw [itoa_neg' (by omega)]
    have := dec_ne b.natAbs
    refine ⟨by simp, ?_, ?_⟩
    · intro e; injection e with e1 e2; exact absurd e1 (by decide)
    · intro e; injection e with e1 e2; exact this.1 e2

theorem rim_pre {b : Int} (h : Small b) : rim (pre b) = some b := by
  unfold pre
  split
  · rename_i h1; subst h1; rfl
  · split
    · rename_i h1; subst h1; rfl
    · unfold rim
      have hn := itoa_ne b
      rw [if_neg (by rintro (e | e); exact hn.1 e; exact hn.2.1 e), if_neg hn.2.2, atoi_itoa h]

theorem rim_plus {b : Int} (h : Small b) (h0 : 0 < b) : rim (43 :: pre b) = some b := by
  unfold pre
  split
  · rename_i h1; subst h1; rfl
  · rw [if_neg (by omega)]
    unfold rim
    have hn := itoa_ne b
    rw [if_neg, if_neg, atoi_plus h (by omega)]
    · intro e; injection e with e1 e2; exact absurd e1 (by decide)
    · rintro (e | e)
      · cases e
      · injection e with e1 e2; exact hn.1 e2

/-- No sign in a list. -/
def NoSign (l : List UInt8) : Prop := ∀ x ∈ l, x ≠ 43 ∧ x ≠ 45
theorem dec_nosign (u : Nat) : NoSign (decDigits u) := fun x hx => ⟨ne_of_dig (dec_dig u x hx) 43 (by decide), ne_of_dig (dec_dig u x hx) 45 (by decide)⟩
theorem dec_low (u : Nat) : ∀ x ∈ decDigits u, x.toNat < 128 := fun x hx => by have := (dec_dig u x hx).2; omega
theorem itoa_low (a : Int) : ∀ x ∈ itoa a, x.toNat < 128 := by
  by_cases h : 0 ≤ a
  · rw [itoa_pos h]; exact dec_low _
  · rw [itoa_neg' (by omega)]
    intro x hx
    rcases List.mem_cons.1 hx with rfl | hx
    · decide
    · exact dec_low _ x hx
theorem pre_low (b : Int) : ∀ x ∈ pre b, x.toNat < 128 := by
  unfold pre
  split
  · simp
  · split
    · intro x hx; simp at hx; subst hx; decide
    · exact itoa_low b

/-- What stands ahead of the i: no sign but perhaps the first. -/
theorem pre_shape (b : Int) : (0 ≤ b ∧ NoSign (pre b)) ∨ (b < 0 ∧ ∃ r, pre b = 45 :: r ∧ NoSign r) := by
  unfold pre
  split
  · rename_i h1; subst h1; exact Or.inl ⟨by omega, fun x hx => by cases hx⟩
  · split
    · rename_i h1; subst h1; exact Or.inr ⟨by omega, [], rfl, fun x hx => by cases hx⟩
    · by_cases h : 0 ≤ b
      · rw [itoa_pos h]; exact Or.inl ⟨h, dec_nosign _⟩
      · rw [itoa_neg' (by omega)]; exact Or.inr ⟨by omega, _, rfl, dec_nosign _⟩

theorem ascii_of {l : List UInt8} (h : ∀ x ∈ l, x.toNat < 128) : Ascii l := fun _ x hx => h x (List.mem_of_getElem? hx)

theorem last_none {l : List UInt8} (h : NoSign l) {v : Int} (hv : LastOf l v) : v = -1 := by
  rcases hv with ⟨h1, _⟩ | ⟨i, x, _, hx, hs, _⟩
  · exact h1
  · have := h x (List.mem_of_getElem? hx)
    rcases hs with rfl | rfl
    · exact absurd rfl this.1
    · exact absurd rfl this.2

theorem last_at {u t : List UInt8} {c : UInt8} (hc : c = 43 ∨ c = 45) (ht : NoSign t) {v : Int} (hv : LastOf (u ++ c :: t) v) : v = u.length := by
  have hcu : (u ++ c :: t)[u.length]? = some c := by simp
  have hns : ¬ (c ≠ 43 ∧ c ≠ 45) := by rintro ⟨h1, h2⟩; rcases hc with h | h; exact h1 h; exact h2 h
  rcases hv with ⟨_, h⟩ | ⟨i, x, rfl, hx, hs, hn⟩
  · exact absurd (h u.length c (by omega) hcu) hns
  · rcases Nat.lt_trichotomy i u.length with h | h | h
    · exact absurd (hn u.length c (by omega) hcu) hns
    · rw [h]
    · exfalso
      rw [List.getElem?_append_right (by omega)] at hx
      obtain ⟨j, hj⟩ : ∃ j, i - u.length = j + 1 := ⟨i - u.length - 1, by omega⟩
      rw [hj, List.getElem?_cons_succ] at hx
      have := ht x (List.mem_of_getElem? hx)
      rcases hs with rfl | rfl
      · exact this.1 rfl
      · exact this.2 rfl

/-- The text ahead of the i. -/
def body (a b : Int) : List UInt8 := if a = 0 then pre b else if 0 < b then itoa a ++ 43 :: pre b else itoa a ++ pre b

theorem text_body {a b : Int} (hb : b ≠ 0) : text a b = body a b ++ [105] := by
  unfold text body
  rw [if_neg hb, sec_pre]
  split
  · rfl
  · split <;> simp

theorem body_ascii (a b : Int) : Ascii (body a b) := by
  refine ascii_of ?_
  unfold body
  split
  · exact pre_low b
  · split
    · intro x hx
      rcases List.mem_append.1 hx with hx | hx
      · exact itoa_low a x hx
      · rcases List.mem_cons.1 hx with rfl | hx
        · decide
        · exact pre_low b x hx
    · intro x hx
      rcases List.mem_append.1 hx with hx | hx
      · exact itoa_low a x hx
      · exact pre_low b x hx

/-- Where the second part begins, and what both parts are. -/
theorem body_last {a b : Int} (hb : Small b) (hb0 : b ≠ 0) {v : Int} (hv : LastOf (body a b) v) :
    (a = 0 ∧ v ≤ 0 ∧ rim (body a b) = some b) ∨ (a ≠ 0 ∧ 0 < v ∧ v = (itoa a).length ∧ (body a b).take v.toNat = itoa a ∧ rim ((body a b).drop v.toNat) = some b) := by
  by_cases ha : a = 0
  · left
    refine ⟨ha, ?_, by unfold body; rw [if_pos ha]; exact rim_pre hb⟩
    unfold body at hv
    rw [if_pos ha] at hv
    rcases pre_shape b with ⟨_, h⟩ | ⟨_, r, h, hr⟩
    · have := last_none h hv; omega
    · rw [h] at hv
      have := last_at (u := []) (Or.inr rfl) hr hv
      simp at this; omega
  · right
    have hl : 0 < (itoa a).length := List.length_pos_iff.2 (itoa_ne a).1
    have key : v = (itoa a).length ∧ ∃ z, body a b = itoa a ++ z ∧ rim z = some b := by
      unfold body at hv ⊢
      rw [if_neg ha] at hv ⊢
      by_cases hp : 0 < b
      · rw [if_pos hp] at hv ⊢
        rcases pre_shape b with ⟨_, h⟩ | ⟨h0, _⟩
        · exact ⟨last_at (Or.inl rfl) h hv, _, rfl, rim_plus hb hp⟩
        · omega
      · rw [if_neg hp] at hv ⊢
        rcases pre_shape b with ⟨h0, _⟩ | ⟨_, r, h, hr⟩
        · omega
        · refine ⟨?_, _, rfl, rim_pre hb⟩
          rw [h] at hv
          exact last_at (Or.inr rfl) hr hv
    obtain ⟨h1, z, h2, h3⟩ := key
    subst h1
    refine ⟨ha, by omega, rfl, ?_, ?_⟩
    · rw [h2]; simp
    · rw [h2]; simpa using h3

theorem suffix_app (l : List UInt8) : hasSuffix (l ++ [105]) [105] = true ∧ trimSuffix (l ++ [105]) [105] = l := by
  have h : hasSuffix (l ++ [105]) [105] = true := by unfold hasSuffix; rw [List.isSuffixOf_iff_suffix]; exact List.suffix_append _ _
  exact ⟨h, by unfold trimSuffix; rw [if_pos h]; simp⟩

theorem suffix_of {l : List UInt8} (h : hasSuffix l [105] = true) : ∃ r, l = r ++ [105] := by
  unfold hasSuffix at h
  rw [List.isSuffixOf_iff_suffix] at h
  obtain ⟨r, h⟩ := h
  exact ⟨r, h.symm⟩

theorem itoa_suffix (a : Int) : hasSuffix (itoa a) [105] = false := by
  cases h : hasSuffix (itoa a) [105] with
  | false => rfl
  | true =>
    exfalso
    obtain ⟨r, e⟩ := suffix_of h
    have hm : (105 : UInt8) ∈ itoa a := by rw [e]; simp
    by_cases h0 : 0 ≤ a
    · rw [itoa_pos h0] at hm
      exact ne_of_dig (dec_dig _ _ hm) 105 (by decide) rfl
    · rw [itoa_neg' (by omega)] at hm
      rcases List.mem_cons.1 hm with hm | hm
      · exact absurd hm (by decide)
      · exact ne_of_dig (dec_dig _ _ hm) 105 (by decide) rfl

end Go.Proofs.YtedenhfpbabjkaaGreatDoor
