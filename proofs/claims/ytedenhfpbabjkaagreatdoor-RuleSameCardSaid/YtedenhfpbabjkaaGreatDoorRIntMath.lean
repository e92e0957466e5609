/-
  Integers' texts: which bytes are one's. By an AI agent.
-/
import Derived.Test.YtedenhfpbabjkaaGreatDoorRMath
import Derived.Test.YtedenhfpbabjkaaGreatDoorTextMath
namespace Go.Proofs.YtedenhfpbabjkaaGreatDoor
open Go.RowKit Go.Lib

theorem dec_head (u : Nat) (hu : 1 ≤ u) : ∀ x r, decDigits u = x :: r → x ≠ 48 := by
  induction u using Nat.strongRecOn with
  | _ u ih =>
    intro x r h
    by_cases h10 : u < 10
    · rw [decDigits, dif_pos h10] at h
      injection h with h _
      subst h
      intro e
      have := congrArg UInt8.toNat e
      simp [UInt8.toNat_ofNat'] at this
      omega
    · rw [decDigits, dif_neg h10] at h
      obtain ⟨y, t, hy, _⟩ := dec_cons (u / 10)
      rw [hy] at h
      injection h with h _
      subst h
      exact ih (u / 10) (by omega) (by omega) y t hy

theorem dec_zero : decDigits 0 = [48] := by rw [decDigits, dif_pos (by omega)]; rfl

/-- The digits of a number are its own. -/
theorem dec_unique (d : List UInt8) : ∀ (m : Nat), d ≠ [] → decFrom 0 d = some m → (∀ r, d = 48 :: r → r = []) → decDigits m = d := by
  induction d using snoc_ind with
  | h0 => intro m h; exact absurd rfl h
  | h1 d b ih =>
    intro m _ hd hz
    by_cases hd0 : d = []
    · subst hd0
      simp only [List.nil_append, decFrom] at hd
      cases hb : digitVal b with
      | none => rw [hb] at hd; cases hd
      | some v =>
        rw [hb] at hd
        simp only [Nat.zero_mul, Nat.zero_add, Option.some.injEq] at hd
        subst hd
        obtain ⟨h1, h2, h3⟩ := digitVal_eq hb
        have hv : v < 10 := by omega
        rw [decDigits, dif_pos hv]
        have : UInt8.ofNat (48 + v) = b := by
          apply u8_ext
          simp [UInt8.toNat_ofNat']
          omega
        rw [this]; rfl
    · obtain ⟨m', hm'⟩ : ∃ m', decFrom 0 d = some m' := by
        have := decFrom_prefix (d ++ [b]) 0 m hd d.length
        simpa using this
      rw [decFrom_app _ _ _ _ hm'] at hd
      simp only [decFrom] at hd
      cases hb : digitVal b with
      | none => rw [hb] at hd; cases hd
      | some v =>
        rw [hb] at hd
        simp only [Option.some.injEq] at hd
        obtain ⟨h1, h2, h3⟩ := digitVal_eq hb
        have hz' : ∀ r, d = 48 :: r → r = [] := by
          intro r hr
          have := hz (r ++ [b]) (by rw [hr]; rfl)
          simp at this
        have hI := ih m' hd0 hm' hz'
        have hm1 : 1 ≤ m' := by
          rcases Nat.eq_zero_or_pos m' with h | h
          · subst h
            rw [dec_zero] at hI
            have := hz [b] (by rw [← hI]; rfl)
            simp at this
          · exact h
        subst hd
        rw [decDigits, dif_neg (by omega)]
        have e1 : (m' * 10 + v) / 10 = m' := by omega
        have e2 : (m' * 10 + v) % 10 = v := by omega
        rw [e1, e2, hI]
        have : UInt8.ofNat (48 + v) = b := by
          apply u8_ext
          simp [UInt8.toNat_ofNat']
          omega
        rw [this]

/-- The reference's look at an integer's text. -/
def intR (l : List UInt8) : Option Int :=
  let neg := l.head? = some 45
  let d := if neg then l.tail else l
  if d.length < 1 ∨ 18 < d.length ∨ (d.head? = some 48 ∧ (1 < d.length ∨ neg)) then none
  else (decFrom 0 d).map fun (m : Nat) => if neg then -(m : Int) else (m : Int)

theorem dec_len18 (u : Nat) (h : u ≤ 999999999999999999) : (decDigits u).length ≤ 18 := by
  rw [decDigits_length]
  exact nDigits_le 17 u (by omega)

theorem intR_yes {l : List UInt8} {n : Int} (h : IsInt l n) : intR l = some n := by
  obtain ⟨⟨h0, h1⟩, rfl⟩ := h
  by_cases hn : 0 ≤ n
  · rw [itoa_pos hn]
    obtain ⟨x, r, hx, hd⟩ := dec_cons n.toNat
    have h45 : x ≠ 45 := ne_of_dig hd 45 (by decide)
    have hl := dec_len18 n.toNat (by omega)
    have hv := dec_val n.toNat
    unfold intR
    have e1 : ¬ (decDigits n.toNat).head? = some 45 := by rw [hx]; simpa using h45
    simp only [e1, if_false, or_false]
    rw [if_neg, hv]
    · simp only [Option.map_some, Option.some.injEq]
      omega
    · rintro (h | h | ⟨h, h'⟩)
      · rw [hx] at h; simp at h
      · omega
      · rcases Nat.eq_zero_or_pos n.toNat with hz | hz
        · rw [hz, dec_zero] at h'; simp at h'
        · rw [hx] at h
          simp only [List.head?_cons, Option.some.injEq] at h
          exact dec_head _ hz x r hx h
  · rw [itoa_neg' (by omega)]
    obtain ⟨x, r, hx, hd⟩ := dec_cons n.natAbs
    have hl := dec_len18 n.natAbs (by omega)
    have hv := dec_val n.natAbs
    unfold intR
    simp only [List.head?_cons, if_true, List.tail_cons, or_true, and_true]
    rw [if_neg, hv]
    · simp only [Option.map_some, Option.some.injEq]
      omega
    · rintro (h | h | h)
      · rw [hx] at h; simp at h
      · omega
      · rw [hx] at h
        simp only [List.head?_cons, Option.some.injEq] at h
        exact dec_head _ (by omega) x r hx h

theorem intR_is {l : List UInt8} {n : Int} (h : intR l = some n) : IsInt l n := by
  unfold intR at h
  by_cases h45 : l.head? = some 45
  · obtain ⟨r, rfl⟩ : ∃ r, l = 45 :: r := by
      cases l with
      | nil => simp at h45
      | cons x r => simp at h45; exact ⟨r, by rw [h45]⟩
    simp only [List.head?_cons, if_true, List.tail_cons, or_true, and_true] at h
    split at h
    · cases h
    · rename_i hc
      cases hm : decFrom 0 r with
      | none => rw [hm] at h; cases h
      | some m =>
        rw [hm] at h
        simp only [Option.map_some, Option.some.injEq] at h
        subst h
        have hne : r ≠ [] := by intro e; subst e; simp at hc
        have hz : ∀ t, r = 48 :: t → t = [] := by
          intro t ht; subst ht; simp at hc
        have hu := dec_unique r m hne hm hz
        have hlt := decFrom_lt18 hm (by omega)
        have hm1 : 1 ≤ m := by
          rcases Nat.eq_zero_or_pos m with h | h
          · subst h
            rw [dec_zero] at hu
            subst hu
            simp at hc
          · exact h
        refine ⟨by omega, ?_⟩
        rw [itoa_neg' (by omega)]
        have : (-(m : Int)).natAbs = m := by omega
        rw [this, hu]
  · simp only [h45, if_false, or_false] at h
    split at h
    · cases h
    · rename_i hc
      cases hm : decFrom 0 l with
      | none => rw [hm] at h; cases h
      | some m =>
        rw [hm] at h
        simp only [Option.map_some, Option.some.injEq] at h
        subst h
        have hne : l ≠ [] := by intro e; subst e; simp at hc
        have hz : ∀ t, l = 48 :: t → t = [] := by
          intro t ht
          subst ht
          have h1 : ¬ (1 < (48 :: t).length) := fun hh => hc (Or.inr (Or.inr ⟨rfl, hh⟩))
          exact List.length_eq_zero_iff.1 (by simp only [List.length_cons] at h1; omega)
        have hu := dec_unique l m hne hm hz
        have hlt := decFrom_lt18 hm (by omega)
        refine ⟨by omega, ?_⟩
        rw [itoa_pos (by omega)]
        have : ((m : Int)).toNat = m := by omega
        rw [this, hu]

theorem isInt_uniq {l : List UInt8} {n m : Int} (h : IsInt l n) (k : IsInt l m) : n = m :=
  Option.some.inj ((intR_yes h).symm.trans (intR_yes k))

theorem int_or (l : List UInt8) : (∃ n, IsInt l n) ∨ ∀ n, ¬ IsInt l n := by
  by_cases h : ∃ n, IsInt l n
  · exact Or.inl h
  · exact Or.inr fun n hn => h ⟨n, hn⟩

theorem parse_digits : ∀ (l : List UInt8) (acc m : Nat), decFrom acc l = some m → m < 1844674407370955161 → parseUint10 acc l = .ok m
  | [], acc, m, h, _ => by simp only [decFrom, Option.some.injEq] at h; subst h; rfl
  | b :: r, acc, m, h, hm => by
    simp only [decFrom] at h
    cases hb : digitVal b with
    | none => rw [hb] at h; cases h
    | some v =>
      rw [hb] at h
      obtain ⟨h1, h2, h3⟩ := digitVal_eq hb
      have hge : ∀ (l : List UInt8) (a m : Nat), decFrom a l = some m → a ≤ m := by
        intro l
        induction l with
        | nil => intro a m h; simp only [decFrom, Option.some.injEq] at h; omega
        | cons b r ih =>
          intro a m h
          simp only [decFrom] at h
          cases hb : digitVal b with
          | none => rw [hb] at h; cases h
          | some v => rw [hb] at h; have := ih _ _ h; omega
      have hle := hge _ _ _ h
      unfold parseUint10
      rw [if_pos ⟨h1, h2⟩, if_neg (by omega), if_neg (by omega), ← h3]
      exact parse_digits r _ m h hm

theorem parse_int {l : List UInt8} {n : Int} (h : IsInt l n) : parseIntB 64 l = .ok n := by
  obtain ⟨⟨h0, h1⟩, rfl⟩ := h
  rw [parseIntB_64]
  have key : ∀ u : Nat, u ≤ 999999999999999999 → parseMag (decDigits u) = .ok u := by
    intro u hu
    obtain ⟨x, r, hx, _⟩ := dec_cons u
    unfold parseMag
    rw [if_neg (by rw [hx]; simp)]
    exact parse_digits _ 0 u (dec_val u) (by omega)
  by_cases hn : 0 ≤ n
  · rw [itoa_pos hn]
    have hk := key n.toNat (by omega)
    obtain ⟨x, r, hx, hd⟩ := dec_cons n.toNat
    rw [hx] at hk ⊢
    rw [atoiAll_plain x r (by unfold IsDig at hd; omega) (by unfold IsDig at hd; omega), hk]
    simp only [signless]
    rw [if_neg (by omega)]
    congr 1
    omega
  · rw [itoa_neg' (by omega), atoiAll_minus, key n.natAbs (by omega)]
    simp only [signed]
    rw [if_neg (by omega)]
    congr 1
    omega

end Go.Proofs.YtedenhfpbabjkaaGreatDoor
