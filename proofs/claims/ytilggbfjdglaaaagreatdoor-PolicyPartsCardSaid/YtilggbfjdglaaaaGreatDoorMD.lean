/-
  Several texts in one: RBoth, RSame, RCmpMath, RCompare, RRCompare, RNearMath, RBare, RNear. By an AI agent.
-/
import Derived.Test.YtilggbfjdglaaaaGreatDoorMC
import Derived.OwnWalk
import Derived.Test.YtilggbfjdglaaaaGreatDoorMB
import Derived.Lib.Bytealg
import Derived.Test.YtilggbfjdglaaaaGreatDoorWords
import Derived.Lib.Replace
import Derived.Lib.SplitLaws
import Derived.Lib.IndexBytes
import Derived.Lib.IndexLaws
/- The normal forms of two values. -/
namespace Go.Proofs.YtilggbfjdglaaaaGreatDoor
open Go.RowKit
set_option linter.unusedVariables false

/-- What is told of two values: both normal forms, or the first error. -/
inductive BothIs (n a b : List UInt8) : List UInt8 → List UInt8 → Int → Prop where
  | fst (h : (norm n a).2 ≠ 0) : BothIs n a b [] [] (norm n a).2
  | snd (h0 : (norm n a).2 = 0) (h : (norm n b).2 ≠ 0) : BothIs n a b [] [] (norm n b).2
  | ok (h0 : (norm n a).2 = 0) (h1 : (norm n b).2 = 0) : BothIs n a b (norm n a).1 (norm n b).1 0

theorem both_or (n a b : List UInt8) : ∃ x y f, BothIs n a b x y f := by
  by_cases h0 : (norm n a).2 = 0
  · by_cases h1 : (norm n b).2 = 0
    · exact ⟨_, _, _, .ok h0 h1⟩
    · exact ⟨_, _, _, .snd h0 h1⟩
  · exact ⟨_, _, _, .fst h0⟩

/-- What a normal form is. -/
theorem norm_is {n v : List UInt8} (h : (norm n v).2 = 0) : (1 ≤ (typ n).2 ∧ (typ n).2 ≤ 4) ∧ ((typ n).2 = 3 → ∃ p, IsInt (norm n v).1 p) ∧ ((typ n).2 = 4 → ∃ a b, Small a ∧ Small b ∧ (norm n v).1 = text a b) := by
  cases road n v with
  | none _ r => rw [r] at h; simp at h
  | name _ r => rw [r] at h; simp at h
  | short _ _ r => rw [r] at h; simp at h
  | long _ _ r => rw [r] at h; simp at h
  | form _ _ _ r => rw [r] at h; simp at h
  | text ht k f r => exact ⟨by omega, fun e => (by omega), fun e => (by omega)⟩
  | same hh k f r =>
    rw [r]
    exact ⟨by omega, fun e => f.nu e, fun e => f.pl e⟩

/-- An error stands beside nothing; no error beside normal forms. -/
theorem both_cases {n a b x y : List UInt8} {f : Int} (h : BothIs n a b x y f) : (f ≠ 0 ∧ x = [] ∧ y = [] ∧ ¬ ((norm n a).2 = 0 ∧ (norm n b).2 = 0)) ∨ (f = 0 ∧ (norm n a).2 = 0 ∧ (norm n b).2 = 0 ∧ x = (norm n a).1 ∧ y = (norm n b).1) := by
  cases h with
  | fst h => exact Or.inl ⟨h, rfl, rfl, fun k => h k.1⟩
  | snd _ h => exact Or.inl ⟨h, rfl, rfl, fun k => h k.2⟩
  | ok h0 h1 => exact Or.inr ⟨rfl, h0, h1, rfl, rfl⟩
theorem both_len {n a b x y : List UInt8} {f : Int} (h : BothIs n a b x y f) : x.length ≤ 200 ∧ y.length ≤ 200 := by
  rcases both_cases h with ⟨_, rfl, rfl, _⟩ | ⟨_, _, _, rfl, rfl⟩
  · simp
  · exact ⟨norm_len _ _, norm_len _ _⟩

end Go.Proofs.YtilggbfjdglaaaaGreatDoor

/- Two messages compared by the reference. -/
namespace Go.Proofs.YtilggbfjdglaaaaGreatDoor
open Go.RowKit
set_option linter.unusedVariables false

end Go.Proofs.YtilggbfjdglaaaaGreatDoor

/- How two texts stand, and two values. -/
namespace Go.Proofs.YtilggbfjdglaaaaGreatDoor
open Go.RowKit
set_option linter.unusedVariables false

theorem u8_lt {a b : UInt8} : a < b ↔ a.toNat < b.toNat := Iff.rfl

theorem bytes_cmp : ∀ (x y : List UInt8), Lib.compareBytes x y = if Op.bytesLess x y then -1 else if Op.bytesLess y x then 1 else 0
  | [], [] => by simp [Lib.compareBytes, Op.bytesLess]
  | [], _ :: _ => by simp [Lib.compareBytes, Op.bytesLess]
  | _ :: _, [] => by simp [Lib.compareBytes, Op.bytesLess]
  | a :: x, b :: y => by
    have ih := bytes_cmp x y
    unfold Lib.compareBytes Op.bytesLess
    by_cases h1 : a < b
    · simp [h1]
    · by_cases h2 : b < a
      · have : a ≠ b := by rintro rfl; exact h1 h2
        simp [h1, h2, this]
      · obtain rfl : a = b := u8_ext (by rw [u8_lt] at h1 h2; omega)
        simp [h1, ih]

theorem cb_swap : ∀ (x y : List UInt8), Lib.compareBytes y x = -Lib.compareBytes x y
  | [], [] => by simp [Lib.compareBytes]
  | [], _ :: _ => by simp [Lib.compareBytes]
  | _ :: _, [] => by simp [Lib.compareBytes]
  | a :: x, b :: y => by
    have ih := cb_swap x y
    unfold Lib.compareBytes
    by_cases h1 : a < b
    · have h2 : ¬ b < a := by rw [u8_lt] at h1 ⊢; omega
      simp [h1, h2]
    · by_cases h2 : b < a
      · simp [h1, h2]
      · simp [h1, h2, ih]

theorem cb_zero : ∀ (x y : List UInt8), Lib.compareBytes x y = 0 ↔ x = y
  | [], [] => by simp [Lib.compareBytes]
  | [], _ :: _ => by simp [Lib.compareBytes]
  | _ :: _, [] => by simp [Lib.compareBytes]
  | a :: x, b :: y => by
    have ih := cb_zero x y
    unfold Lib.compareBytes
    by_cases h1 : a < b
    · have : a ≠ b := by rintro rfl; rw [u8_lt] at h1; omega
      simp [h1, this]
    · by_cases h2 : b < a
      · have : a ≠ b := by rintro rfl; rw [u8_lt] at h2; omega
        simp [h1, h2, this]
      · obtain rfl : a = b := u8_ext (by rw [u8_lt] at h1 h2; omega)
        simp [h1, ih]

theorem bytes_cmp2 (x y : List UInt8) : Lib.compareBytes x y = if Op.bytesLess x y then -1 else if x == y then 0 else 1 := by
  have h := bytes_cmp x y
  have h0 := cb_zero x y
  by_cases h1 : Op.bytesLess x y = true
  · rw [h, if_pos h1, if_pos h1]
  · rw [if_neg h1] at h ⊢
    by_cases h2 : x = y
    · rw [if_pos (by simp [h2])]; exact h0.2 h2
    · rw [if_neg (by simp [h2])]
      split at h
      · exact h
      · exact absurd (h0.1 h) h2

/-- How two numbers of the plane stand. -/
def cmpQ (a b c d : Int) : Int := cmp3 (a * a + b * b) a b (c * c + d * d) c d
theorem cmpQ_swap (a b c d : Int) : cmpQ c d a b = -cmpQ a b c d := cmp3_swap _ _ _ _ _ _
theorem cmpQ_zero (a b c d : Int) : cmpQ a b c d = 0 ↔ a = c ∧ b = d := by
  constructor
  · intro h
    have h1 := (cmp3_le (a * a + b * b) a b (c * c + d * d) c d).1 (by unfold cmpQ at h; omega)
    have h2 := (cmp3_le (c * c + d * d) c d (a * a + b * b) a b).1 (by have := cmpQ_swap a b c d; unfold cmpQ at h this; omega)
    generalize a * a + b * b = n at *
    generalize c * c + d * d = m at *
    omega
  · rintro ⟨rfl, rfl⟩
    unfold cmpQ cmp3
    simp [cmpI_zero.2]

/-- How two values stand. -/
inductive CmpIs (n a b : List UInt8) : List UInt8 → List UInt8 → Int → Int → Prop where
  | err {f : Int} (h : BothIs n a b [] [] f) (hf : f ≠ 0) : CmpIs n a b [] [] 0 f
  | int {x y : List UInt8} {p q : Int} (ht : (typ n).2 = 3) (h : BothIs n a b x y 0) (hp : IsInt x p) (hq : IsInt y q) : CmpIs n a b x y (cmpI p q) 0
  | plane {x y : List UInt8} {p q r s : Int} (ht : (typ n).2 = 4) (h : BothIs n a b x y 0) (hp : Small p) (hq : Small q) (hr : Small r) (hs : Small s) (hx : x = text p q) (hy : y = text r s) : CmpIs n a b x y (cmpQ p q r s) 0
  | text {x y : List UInt8} (ht : (typ n).2 = 1 ∨ (typ n).2 = 2) (h : BothIs n a b x y 0) : CmpIs n a b x y (Lib.compareBytes x y) 0

theorem cmp_or (n a b : List UInt8) : ∃ x y c f, CmpIs n a b x y c f := by
  obtain ⟨x, y, f, h⟩ := both_or n a b
  rcases both_cases h with ⟨hf, rfl, rfl, _⟩ | ⟨rfl, h0, h1, hx, hy⟩
  · exact ⟨_, _, _, _, .err h hf⟩
  · obtain ⟨hr, h3, h4⟩ := norm_is h0
    obtain ⟨_, k3, k4⟩ := norm_is h1
    have : ((typ n).2 = 1 ∨ (typ n).2 = 2) ∨ (typ n).2 = 3 ∨ (typ n).2 = 4 := by omega
    rcases this with e | e | e
    · exact ⟨_, _, _, _, .text e h⟩
    · obtain ⟨p, hp⟩ := h3 e
      obtain ⟨q, hq⟩ := k3 e
      rw [← hx] at hp
      rw [← hy] at hq
      exact ⟨_, _, _, _, .int e h hp hq⟩
    · obtain ⟨p, q, hp, hq, ex⟩ := h4 e
      obtain ⟨r, s, hr', hs, ey⟩ := k4 e
      rw [← hx] at ex
      rw [← hy] at ey
      exact ⟨_, _, _, _, .plane e h hp hq hr' hs ex ey⟩

end Go.Proofs.YtilggbfjdglaaaaGreatDoor

/- The program's Compare. -/
namespace Go.Proofs.YtilggbfjdglaaaaGreatDoor
open Go.RowKit
set_option linter.unusedVariables false

end Go.Proofs.YtilggbfjdglaaaaGreatDoor

/- The reference's Compare. -/
namespace Go.Proofs.YtilggbfjdglaaaaGreatDoor
open Go.RowKit
set_option linter.unusedVariables false

end Go.Proofs.YtilggbfjdglaaaaGreatDoor

/- A text without its blanks. -/
namespace Go.Proofs.YtilggbfjdglaaaaGreatDoor
open Go.RowKit

/-- A text without its blanks. -/
def bareL (l : List UInt8) : List UInt8 := l.filter (fun b => b != 32)

theorem bare_app (a b : List UInt8) : bareL (a ++ b) = bareL a ++ bareL b := by simp [bareL]
theorem bare_none {l : List UInt8} (h : (32 : UInt8) ∉ l) : bareL l = l := by
  unfold bareL
  rw [List.filter_eq_self]
  intro b hb
  simp only [bne_iff_ne, ne_eq]
  rintro rfl
  exact h hb

theorem replaceK_bare : ∀ (k : Nat) (s : List UInt8), s.count 32 ≤ k → Lib.replaceK [32] [] k s = bareL s
  | 0, s, h => by
    have : (32 : UInt8) ∉ s := fun hm => by have := List.count_pos_iff.2 hm; omega
    rw [bare_none this]; rfl
  | k + 1, s, h => by
    by_cases hm : (32 : UInt8) ∈ s
    · have hge := Lib.indexByte_ge s 32
      have hne : Lib.indexByte s 32 ≠ -1 := fun e => by
        obtain ⟨j, hj, hj2⟩ := List.mem_iff_getElem.1 hm
        exact Lib.indexByte_none e j (by rw [List.getElem?_eq_getElem hj, hj2])
      obtain ⟨i, hi⟩ : ∃ i : Nat, Lib.indexByte s 32 = i := ⟨(Lib.indexByte s 32).toNat, by omega⟩
      obtain ⟨h1, h2⟩ := Lib.indexByte_some hi
      have hix : Lib.index s [32] = i := by rw [Lib.index_one, hi]
      have hlt := (List.getElem?_eq_some_iff.1 h1).1
      have hs : s = s.take i ++ 32 :: s.drop (i + 1) := by
        have e1 : s.drop i = 32 :: s.drop (i + 1) := by rw [List.drop_eq_getElem_cons hlt, (List.getElem?_eq_some_iff.1 h1).2]
        rw [← e1, List.take_append_drop]
      have hno : (32 : UInt8) ∉ s.take i := fun hmem => by
        obtain ⟨j, hj, hj2⟩ := List.mem_iff_getElem.1 hmem
        rw [List.length_take] at hj
        refine h2 j (by omega) ?_
        rw [List.getElem_take] at hj2
        rw [List.getElem?_eq_getElem (by omega), hj2]
      have hc : (s.drop (i + 1)).count 32 ≤ k := by
        have : s.count 32 = (s.take i ++ 32 :: s.drop (i + 1)).count 32 := by rw [← hs]
        rw [List.count_append, List.count_cons_self] at this
        omega
      rw [Lib.replaceK_hit [32] [] k s i hix]
      rw [show i + ([32] : List UInt8).length = i + 1 from rfl, replaceK_bare k _ hc]
      conv => rhs; rw [hs]
      rw [bare_app, bare_none hno]
      simp [bareL]
    · have hix : Lib.index s [32] = -1 := by
        rw [Lib.index_one]
        have hge := Lib.indexByte_ge s 32
        refine Classical.byContradiction fun hne => ?_
        have := (Lib.indexByte_some (o := (Lib.indexByte s 32).toNat) (by omega : Lib.indexByte s 32 = _)).1
        exact hm (List.mem_of_getElem? this)
      rw [Lib.replaceK, if_pos (by rw [hix]; rfl), bare_none hm]

theorem replace_bare (s : List UInt8) : Lib.replaceAll s [32] [] = bareL s := by
  unfold Lib.replaceAll Lib.replace
  rw [if_neg (by decide)]
  refine replaceK_bare _ s ?_
  unfold Lib.replaceNum
  rw [if_pos (Or.inl (by omega)), Lib.count_one]
  exact Nat.le_refl _

theorem bare_le (s : List UInt8) : (bareL s).length ≤ s.length := List.length_filter_le _ _

end Go.Proofs.YtilggbfjdglaaaaGreatDoor

/- withoutBlanks, bare: a text without its blanks. -/
namespace Go.Proofs.YtilggbfjdglaaaaGreatDoor
open Go.RowKit
set_option linter.unusedVariables false

/-- The library's own number holds some number. -/
structure Mx (w : World) : Prop where
  max : ∃ m, w.cell? ⟨1, 0, none⟩ = some (.int .i64 m)
theorem cell_lt {w : World} {g : Nat} {v : Value} (h : w.cell? ⟨g, 0, none⟩ = some v) : g < w.heap.size := by
  rcases Nat.lt_or_ge g w.heap.size with hlt | hge
  · exact hlt
  · exfalso
    have hn : w.heap[g]? = none := Array.getElem?_eq_none hge
    simp [World.cell?, hn] at h
theorem Mx.below {w w' : World} (h : Mx w) (hb : Below w.heap.size w w') : Mx w' := by
  obtain ⟨m, hm⟩ := h.max
  exact ⟨m, (hb.cell (p := ⟨1, 0, none⟩) (cell_lt hm)).trans hm⟩

theorem bare_take {l : List UInt8} {i : Nat} {x : UInt8} (h : l[i]? = some x) : bareL (l.take (i + 1)) = if x = 32 then bareL (l.take i) else bareL (l.take i) ++ [x] := by
  rw [List.take_add_one, h]
  simp only [Option.toList_some, bare_app]
  split
  · rename_i hx; subst hx; simp [bareL]
  · rename_i hx; simp [bareL, hx]

end Go.Proofs.YtilggbfjdglaaaaGreatDoor

/- Near. -/
namespace Go.Proofs.YtilggbfjdglaaaaGreatDoor
open Go.RowKit
set_option linter.unusedVariables false

/-- Whether two values are near one another. -/
inductive NearIs (n a b : List UInt8) : List UInt8 → List UInt8 → Bool → Int → Prop where
  | err {f : Int} (h : BothIs n a b [] [] f) (hf : f ≠ 0) : NearIs n a b [] [] false f
  | text {x y : List UInt8} (ht : (typ n).2 = 1) (h : BothIs n a b x y 0) : NearIs n a b x y (bareL x == bareL y) 0
  | plane {x y : List UInt8} {p q r s : Int} (ht : (typ n).2 = 4) (h : BothIs n a b x y 0) (hp : Small p) (hq : Small q) (hr : Small r) (hs : Small s) (hx : x = text p q) (hy : y = text r s) : NearIs n a b x y (p * p + q * q == r * r + s * s) 0
  | same {x y : List UInt8} (ht : (typ n).2 = 2 ∨ (typ n).2 = 3) (h : BothIs n a b x y 0) : NearIs n a b x y (x == y) 0

theorem near_or (n a b : List UInt8) : ∃ x y t f, NearIs n a b x y t f := by
  obtain ⟨x, y, f, h⟩ := both_or n a b
  rcases both_cases h with ⟨hf, rfl, rfl, _⟩ | ⟨rfl, h0, h1, hx, hy⟩
  · exact ⟨_, _, _, _, .err h hf⟩
  · obtain ⟨hr, h3, h4⟩ := norm_is h0
    obtain ⟨_, k3, k4⟩ := norm_is h1
    have : (typ n).2 = 1 ∨ ((typ n).2 = 2 ∨ (typ n).2 = 3) ∨ (typ n).2 = 4 := by omega
    rcases this with e | e | e
    · exact ⟨_, _, _, _, .text e h⟩
    · exact ⟨_, _, _, _, .same e h⟩
    · obtain ⟨p, q, hp, hq, ex⟩ := h4 e
      obtain ⟨r, s, hr', hs, ey⟩ := k4 e
      rw [← hx] at ex
      rw [← hy] at ey
      exact ⟨_, _, _, _, .plane e h hp hq hr' hs ex ey⟩

/-- Values that are alike are near one another. -/
theorem near_same {n a b x y : List UInt8} {t : Bool} {f : Int} (h : NearIs n a b x y t f) (hf : f = 0) (hxy : x = y) : t = true := by
  cases h with
  | err _ h => exact absurd hf h
  | text _ _ => simp [hxy]
  | plane _ _ hp hq hr hs hx hy =>
    rw [hx, hy] at hxy
    obtain ⟨rfl, rfl⟩ := text_inj hp hq hr hs hxy
    simp
  | same _ _ => simp [hxy]

theorem near_both {n a b x y : List UInt8} {t : Bool} {f : Int} (h : NearIs n a b x y t f) : BothIs n a b x y f := by
  cases h with
  | err h _ => exact h
  | text _ h => exact h
  | plane _ h _ _ _ _ _ _ => exact h
  | same _ h => exact h

end Go.Proofs.YtilggbfjdglaaaaGreatDoor
