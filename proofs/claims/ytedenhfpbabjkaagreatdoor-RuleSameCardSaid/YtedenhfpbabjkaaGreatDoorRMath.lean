/-
  Types and normal forms as lists of bytes: of no program. By an AI agent.
-/
import Derived.Test.YtedenhfpbabjkaaGreatDoorWords
import Derived.Lib.AtoiAllCases
import Derived.Lib.ParseIntBTie
import Derived.Lib.ItoaNum
namespace Go.Proofs.YtedenhfpbabjkaaGreatDoor
open Go.RowKit

/-- A byte's small letter. -/
def low (b : UInt8) : UInt8 := if 65 ≤ b.toNat ∧ b.toNat ≤ 90 then b + 32 else b
def lows (l : List UInt8) : List UInt8 := l.map low

theorem low_toNat (b : UInt8) : (low b).toNat = if 65 ≤ b.toNat ∧ b.toNat ≤ 90 then b.toNat + 32 else b.toNat := by
  unfold low
  split
  · rw [UInt8.toNat_add]
    have : (32 : UInt8).toNat = 32 := rfl
    omega
  · rfl
theorem low_small (b : UInt8) : ¬ (65 ≤ (low b).toNat ∧ (low b).toNat ≤ 90) := by
  rw [low_toNat]; split <;> omega
theorem low_low (b : UInt8) : low (low b) = low b := by
  have := low_small b
  rw [show low (low b) = if 65 ≤ (low b).toNat ∧ (low b).toNat ≤ 90 then low b + 32 else low b from rfl, if_neg this]
theorem lows_lows (l : List UInt8) : lows (lows l) = lows l := by
  unfold lows; rw [List.map_map]; congr 1; funext b; exact low_low b
theorem lows_length (l : List UInt8) : (lows l).length = l.length := by simp [lows]
theorem u8_ext {a b : UInt8} (h : a.toNat = b.toNat) : a = b := UInt8.toNat_inj.1 h
theorem low_eq (b : UInt8) (k : UInt8) (hk : k.toNat < 65) : low b = k ↔ b = k := by
  constructor
  · intro h
    have h1 := low_toNat b
    rw [h] at h1
    split at h1
    · omega
    · exact u8_ext h1.symm
  · rintro rfl
    unfold low
    rw [if_neg (by omega)]

/-- The types, with their syntaxes. -/
def tab : List (List UInt8 × Int) :=
  [([111, 98, 106, 101, 99, 116, 67, 108, 97, 115, 115], 1), ([99, 110], 1), ([111, 117], 1), ([111], 1), ([100, 99], 1), ([117, 105, 100], 1),
   ([100, 101, 115, 99, 114, 105, 112, 116, 105, 111, 110], 1), ([109, 97, 105, 108], 1), ([117, 115, 101, 114, 80, 97, 115, 115, 119, 111, 114, 100], 2), ([114, 101, 102], 2),
   ([115, 101, 114, 105, 97, 108, 78, 117, 109, 98, 101, 114], 3), ([112, 111, 115, 105, 116, 105, 111, 110], 4),
   ([97, 108, 105, 97, 115, 101, 100, 79, 98, 106, 101, 99, 116, 78, 97, 109, 101], 5), ([109, 101, 109, 98, 101, 114], 5)]

/-- The type that a text names: 'typ' of the small letters. -/
def typL : List UInt8 → List (List UInt8 × Int) → List UInt8 × Int
  | _, [] => ([], 0)
  | l, e :: r => if lows e.1 = l then e else typL l r
def typ (n : List UInt8) : List UInt8 × Int := typL (lows n) tab
theorem typ_lows (n : List UInt8) : typ (lows n) = typ n := by unfold typ; rw [lows_lows]

theorem typL_range (l : List UInt8) : ∀ t : List (List UInt8 × Int), (∀ e ∈ t, 1 ≤ e.2 ∧ e.2 ≤ 5) → 0 ≤ (typL l t).2 ∧ (typL l t).2 ≤ 5
  | [], _ => by simp [typL]
  | e :: r, h => by
    unfold typL
    split
    · have := h e (by simp); omega
    · exact typL_range l r fun e he => h e (by simp [he])
theorem typ_range (n : List UInt8) : 0 ≤ (typ n).2 ∧ (typ n).2 ≤ 5 := typL_range _ tab (by decide)

/-! ### Texts -/

/-- The reference's step: whether a gap is open, and what came out. -/
def rtStep (s : Bool × List UInt8) (b : UInt8) : Bool × List UInt8 :=
  if b = 32 then (true, s.2) else (false, (if s.1 = true ∧ s.2 ≠ [] then s.2 ++ [32] else s.2) ++ [low b])
def rtAll (l : List UInt8) : Bool × List UInt8 := l.foldl rtStep (false, [])
/-- A text's normal form. -/
def nt (l : List UInt8) : List UInt8 := (rtAll l).2

theorem rtAll_snoc (l : List UInt8) (b : UInt8) : rtAll (l ++ [b]) = rtStep (rtAll l) b := by simp [rtAll]

/-- The program's step. -/
def ntStep (acc : List UInt8) (b : UInt8) : List UInt8 := if b = 32 ∧ (acc = [] ∨ acc.getLast? = some 32) then acc else acc ++ [low b]
def ntAll (l : List UInt8) : List UInt8 := l.foldl ntStep []
theorem ntAll_snoc (l : List UInt8) (b : UInt8) : ntAll (l ++ [b]) = ntStep (ntAll l) b := by simp [ntAll]

theorem snoc_ind {P : List UInt8 → Prop} (h0 : P []) (h1 : ∀ l b, P l → P (l ++ [b])) (l : List UInt8) : P l := by
  have h : ∀ n (l : List UInt8), l.length = n → P l := by
    intro n
    induction n with
    | zero => intro l h; rw [List.length_eq_zero_iff.1 h]; exact h0
    | succ n ih =>
      intro l h
      have hne : l ≠ [] := by intro e; subst e; simp at h
      rw [← List.dropLast_concat_getLast hne]
      exact h1 _ _ (ih _ (by simp [h]))
  exact h _ l rfl

theorem nt_inv (l : List UInt8) : ntAll l = (rtAll l).2 ++ (if (rtAll l).1 = true ∧ (rtAll l).2 ≠ [] then [32] else []) ∧ (rtAll l).2.getLast? ≠ some 32 := by
  induction l using snoc_ind with
  | h0 => simp [ntAll, rtAll]
  | h1 l b ih =>
    rw [ntAll_snoc, rtAll_snoc]
    generalize rtAll l = s at *
    obtain ⟨g, o⟩ := s
    obtain ⟨ih1, ih2⟩ := ih
    simp only at ih1 ih2
    rw [ih1]
    by_cases hb : b = 32
    · subst hb
      have e1 : rtStep (g, o) 32 = (true, o) := by simp [rtStep]
      have e32 : low 32 = 32 := by decide
      rw [e1]
      refine ⟨?_, ih2⟩
      unfold ntStep
      by_cases ho : o = []
      · subst ho; simp
      · cases g
        · simp [ho, ih2, e32]
        · simp [ho]
    · have e1 : rtStep (g, o) b = (false, (if g = true ∧ o ≠ [] then o ++ [32] else o) ++ [low b]) := by simp [rtStep, hb]
      rw [e1]
      have hl : low b ≠ 32 := fun h => hb ((low_eq b 32 (by decide)).1 h)
      refine ⟨?_, by simp [hl]⟩
      unfold ntStep
      rw [if_neg (by rintro ⟨h, _⟩; exact hb h)]
      split <;> simp_all

/-- What the program trims off. -/
theorem nt_trim (l : List UInt8) : nt l = if (ntAll l).getLast? = some 32 then (ntAll l).dropLast else ntAll l := by
  obtain ⟨h1, h2⟩ := nt_inv l
  unfold nt
  rw [h1]
  split
  · simp
  · simp [h2]

theorem nt_len (l : List UInt8) : (rtAll l).2.length + (if (rtAll l).1 = true ∧ (rtAll l).2 ≠ [] then 1 else 0) ≤ l.length := by
  induction l using snoc_ind with
  | h0 => simp [rtAll]
  | h1 l b ih =>
    rw [rtAll_snoc]
    generalize rtAll l = s at *
    obtain ⟨g, o⟩ := s
    simp only at ih
    by_cases hb : b = 32
    · subst hb
      have e1 : rtStep (g, o) 32 = (true, o) := by simp [rtStep]
      rw [e1]
      simp only [List.length_append, List.length_singleton]
      split <;> split at ih <;> omega
    · have e1 : rtStep (g, o) b = (false, (if g = true ∧ o ≠ [] then o ++ [32] else o) ++ [low b]) := by simp [rtStep, hb]
      rw [e1]
      simp only [List.length_append, List.length_singleton]
      split <;> simp_all <;> omega
theorem nt_le (l : List UInt8) : (nt l).length ≤ l.length := by have := nt_len l; unfold nt; omega
theorem ntAll_le (l : List UInt8) : (ntAll l).length ≤ l.length := by
  have h := nt_len l
  rw [(nt_inv l).1]
  simp only [List.length_append]
  split <;> split at h <;> simp_all

/-- It has a byte only if one was no blank. -/
theorem nt_nil (l : List UInt8) : nt l = [] ↔ ∀ b ∈ l, b = 32 := by
  unfold nt
  induction l using snoc_ind with
  | h0 => simp [rtAll]
  | h1 l b ih =>
    rw [rtAll_snoc]
    generalize rtAll l = s at *
    obtain ⟨g, o⟩ := s
    by_cases hb : b = 32
    · subst hb
      have e1 : rtStep (g, o) 32 = (true, o) := by simp [rtStep]
      rw [e1]
      simp only at ih ⊢
      rw [ih]
      simp only [List.mem_append, List.mem_singleton]
      constructor
      · rintro h x (hx | hx)
        · exact h x hx
        · exact hx
      · intro h x hx; exact h x (Or.inl hx)
    · have e1 : rtStep (g, o) b = (false, (if g = true ∧ o ≠ [] then o ++ [32] else o) ++ [low b]) := by simp [rtStep, hb]
      rw [e1]
      constructor
      · intro h; simp at h
      · intro h; exact absurd (h b (by simp)) hb

theorem nt_zero (l : List UInt8) (h : (0 : UInt8) ∉ l) : (0 : UInt8) ∉ nt l := by
  unfold nt
  induction l using snoc_ind with
  | h0 => simp [rtAll]
  | h1 l b ih =>
    rw [rtAll_snoc]
    have ih' := ih (fun hh => h (by simp [hh]))
    have hb0 : low b ≠ 0 := fun e => h (by simp [(low_eq b 0 (by decide)).1 e])
    generalize rtAll l = s at *
    obtain ⟨g, o⟩ := s
    unfold rtStep
    split
    · exact ih'
    · simp only [List.mem_append, List.mem_singleton, not_or]
      refine ⟨?_, fun e => hb0 e.symm⟩
      split
      · simp only [List.mem_append, List.mem_singleton, not_or]; exact ⟨ih', by decide⟩
      · exact ih'

/-- A normal form is its own. -/
theorem nt_own (l : List UInt8) : rtAll (nt l) = (false, nt l) := by
  unfold nt
  induction l using snoc_ind with
  | h0 => simp [rtAll]
  | h1 l b ih =>
    rw [rtAll_snoc]
    generalize rtAll l = s at *
    obtain ⟨g, o⟩ := s
    simp only at ih
    by_cases hb : b = 32
    · subst hb
      have e1 : rtStep (g, o) 32 = (true, o) := by simp [rtStep]
      rw [e1]; exact ih
    · have e1 : rtStep (g, o) b = (false, (if g = true ∧ o ≠ [] then o ++ [32] else o) ++ [low b]) := by simp [rtStep, hb]
      have hl : low b ≠ 32 := fun h => hb ((low_eq b 32 (by decide)).1 h)
      rw [e1]
      simp only
      rw [rtAll_snoc]
      split
      · rename_i hg
        rw [rtAll_snoc, ih]
        have e2 : rtStep (false, o) 32 = (true, o) := by simp [rtStep]
        rw [e2]
        simp [rtStep, hl, hg.2, low_low]
      · rw [ih]
        simp [rtStep, hl, low_low]
theorem nt_nt (l : List UInt8) : nt (nt l) = nt l := by
  have := nt_own l
  rw [nt, this]

/-! ### Integers -/

/-- An integer's text. -/
def IsInt (l : List UInt8) (n : Int) : Prop := (-999999999999999999 ≤ n ∧ n ≤ 999999999999999999) ∧ l = Lib.itoa n

end Go.Proofs.YtedenhfpbabjkaaGreatDoor
