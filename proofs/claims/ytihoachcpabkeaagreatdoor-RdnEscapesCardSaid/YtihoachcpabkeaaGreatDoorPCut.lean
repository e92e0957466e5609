/-
  How far a text has been cut: of no program. By an AI agent.
-/
import Derived.Test.YtihoachcpabkeaaGreatDoorNPairs
import Derived.Test.YtihoachcpabkeaaGreatDoorPRows
import Derived.Lib.Strings
namespace Go.Proofs.YtihoachcpabkeaaGreatDoor
open Go.RowKit
set_option linter.unusedVariables false

theorem ext_txt (s : ByteArray) (a b : Nat) : s.extract a b = txt ((s.data.toList.drop a).take (b - a)) := by
  have h := Lib.extract_data s a b
  generalize s.extract a b = X at *
  rw [← h]
  exact ByteArray.ext (Array.ext' (by simp [txt]))

/-- The pieces so far are P, the next one begins at st, and the look is at i. -/
structure CutAt (sep : UInt8) (l : List UInt8) (P : List (List UInt8)) (st i : Nat) : Prop where
  le : st ≤ i
  stl : st ≤ l.length
  few : P.length ≤ i
  out : cuts sep l = P ++ ((l.drop st).take (i - st) ++ (cutA sep (l.drop i)).1) :: (cutA sep (l.drop i)).2

theorem take_more (l : List UInt8) {st i k : Nat} (h : st ≤ i) : (l.drop st).take (i + k - st) = (l.drop st).take (i - st) ++ (l.drop i).take k := by
  have e : i + k - st = (i - st) + k := by omega
  rw [e, List.take_add, List.drop_drop]
  congr 3
  omega

theorem CutAt.start (sep : UInt8) (l : List UInt8) : CutAt sep l [] 0 0 := ⟨Nat.le_refl _, Nat.zero_le _, by simp, by simp [cuts]⟩
theorem CutAt.one {sep c : UInt8} {l : List UInt8} {P : List (List UInt8)} {st i : Nat} (h : CutAt sep l P st i) (hc : l[i]? = some c) (h92 : c ≠ 92) (hs : c ≠ sep) : CutAt sep l P st (i + 1) := by
  obtain ⟨hi, e⟩ := List.getElem?_eq_some_iff.1 hc
  have hd : l.drop i = c :: l.drop (i + 1) := by rw [List.drop_eq_getElem_cons hi, e]
  refine ⟨Nat.le_succ_of_le h.le, h.stl, Nat.le_succ_of_le h.few, ?_⟩
  have := h.out
  rw [hd, cutA_one _ h92 hs] at this
  rw [this, take_more l h.le, hd]
  simp
theorem CutAt.stroke {sep : UInt8} {l : List UInt8} {P : List (List UInt8)} {st i : Nat} (h : CutAt sep l P st i) (hc : l[i]? = some 92) : CutAt sep l P st (i + 2) := by
  obtain ⟨hi, e⟩ := List.getElem?_eq_some_iff.1 hc
  have hd : l.drop i = 92 :: l.drop (i + 1) := by rw [List.drop_eq_getElem_cons hi, e]
  refine ⟨Nat.le_trans h.le (by omega), h.stl, Nat.le_trans h.few (by omega), ?_⟩
  have := h.out
  rw [this, take_more l h.le, hd]
  by_cases h1 : i + 1 < l.length
  · have hd2 : l.drop (i + 1) = l[i + 1] :: l.drop (i + 2) := by rw [List.drop_eq_getElem_cons h1]
    rw [hd2, cutA_pair]
    simp only [List.take_succ_cons, List.take_zero, List.append_assoc, List.cons_append, List.nil_append]
  · have e1 : l.drop (i + 1) = [] := List.drop_eq_nil_of_le (by omega)
    have e2 : l.drop (i + 2) = [] := List.drop_eq_nil_of_le (by omega)
    rw [e1, e2]
    have : cutA sep [92] = ([92], []) := by rw [cutA.eq_def]; simp
    rw [this]
    simp [cutA]
theorem CutAt.sep {sep : UInt8} {l : List UInt8} {P : List (List UInt8)} {st i : Nat} (h : CutAt sep l P st i) (hc : l[i]? = some sep) (h92 : sep ≠ 92) : CutAt sep l (P ++ [(l.drop st).take (i - st)]) (i + 1) (i + 1) := by
  obtain ⟨hi, e⟩ := List.getElem?_eq_some_iff.1 hc
  have hd : l.drop i = sep :: l.drop (i + 1) := by rw [List.drop_eq_getElem_cons hi, e]
  refine ⟨Nat.le_refl _, by omega, by have := h.few; simp; omega, ?_⟩
  have := h.out
  rw [hd, cutA_sep _ h92] at this
  rw [this]
  simp
theorem CutAt.done {sep : UInt8} {l : List UInt8} {P : List (List UInt8)} {st i : Nat} (h : CutAt sep l P st i) (hi : l.length ≤ i) : cuts sep l = P ++ [l.drop st] := by
  have := h.out
  rw [List.drop_eq_nil_of_le hi] at this
  rw [this, List.take_of_length_le (by rw [List.length_drop]; omega)]
  simp [cutA]

theorem cuts_len (sep : UInt8) (l : List UInt8) (h92 : sep ≠ 92) : (cuts sep l).length ≤ l.length + 1 := by
  have key : ∀ (n : Nat) (l : List UInt8), l.length ≤ n → (cutA sep l).2.length ≤ l.length := by
    intro n
    induction n with
    | zero =>
      intro l h
      obtain rfl := List.eq_nil_of_length_eq_zero (Nat.le_zero.1 h)
      simp [cutA]
    | succ n ih =>
      intro l h
      cases l with
      | nil => simp [cutA]
      | cons c r =>
        by_cases hc : c = 92
        · subst hc
          cases r with
          | nil => rw [cutA.eq_def]; simp
          | cons d r =>
            rw [cutA_pair]
            have := ih r (by simp at h; omega)
            simp
            omega
        · by_cases hs : c = sep
          · subst hs
            rw [cutA_sep _ hc]
            have := ih r (by simpa using h)
            simpa using this
          · rw [cutA_one _ hc hs]
            have := ih r (by simpa using h)
            simp
            omega
  have := key _ l (Nat.le_refl _)
  simp [cuts]
  omega

theorem cutA_small (sep : UInt8) : ∀ (n : Nat) (l : List UInt8), l.length ≤ n → (cutA sep l).1.length ≤ l.length ∧ ∀ p ∈ (cutA sep l).2, p.length ≤ l.length := by
  intro n
  induction n with
  | zero =>
    intro l h
    obtain rfl := List.eq_nil_of_length_eq_zero (Nat.le_zero.1 h)
    simp [cutA]
  | succ n ih =>
    intro l h
    cases l with
    | nil => simp [cutA]
    | cons c r =>
      by_cases hc : c = 92
      · subst hc
        cases r with
        | nil => rw [cutA.eq_def]; simp
        | cons d r =>
          rw [cutA_pair]
          obtain ⟨h1, h2⟩ := ih r (by simp at h; omega)
          exact ⟨by simp; omega, fun p hp => by have := h2 p hp; simp; omega⟩
      · by_cases hs : c = sep
        · subst hs
          rw [cutA_sep _ hc]
          obtain ⟨h1, h2⟩ := ih r (by simpa using h)
          refine ⟨by simp, fun p hp => ?_⟩
          rcases List.mem_cons.1 hp with rfl | hp
          · simp; omega
          · have := h2 p hp; simp; omega
        · rw [cutA_one _ hc hs]
          obtain ⟨h1, h2⟩ := ih r (by simpa using h)
          exact ⟨by simp; omega, fun p hp => by have := h2 p hp; simp; omega⟩
/-- No piece is longer than the text. -/
theorem cuts_small {sep : UInt8} {l p : List UInt8} (h : p ∈ cuts sep l) : p.length ≤ l.length := by
  obtain ⟨h1, h2⟩ := cutA_small sep _ l (Nat.le_refl _)
  rcases List.mem_cons.1 h with rfl | h
  · exact h1
  · exact h2 p h

end Go.Proofs.YtihoachcpabkeaaGreatDoor
