/-
  A text without its blanks. By an AI agent.
-/
import Derived.Test.YtedenhfpbabjkaaGreatDoorWords
import Derived.Lib.Replace
import Derived.Lib.SplitLaws
import Derived.Lib.IndexBytes
import Derived.Lib.IndexLaws
namespace Go.Proofs.YtedenhfpbabjkaaGreatDoor
open Go.RowKit

/-- A text without its blanks. -/
def bareL (l : List UInt8) : List UInt8 := l.filter (fun b => b != 32)

theorem bare_app (a b : List UInt8) : bareL (a ++ b) = bareL a ++ bareL b := by simp [bareL]
theorem bare_none {l : List UInt8} (h : (32 : UInt8) ∉ l) : bareL l = l := by
  unfold bareL
  rw [List.filter_eq_self]
  intro b hb
  simp only [bne_iff_ne, ne_eq]
  rintro rfl
  exact h hb

theorem replaceK_bare : ∀ (k : Nat) (s : List UInt8), s.count 32 ≤ k → Lib.replaceK [32] [] k s = bareL s
  | 0, s, h => by
    have : (32 : UInt8) ∉ s := fun hm => by have := List.count_pos_iff.2 hm; omega
    rw [bare_none this]; rfl
  | k + 1, s, h => by
    by_cases hm : (32 : UInt8) ∈ s
    · have hge := Lib.indexByte_ge s 32
      have hne : Lib.indexByte s 32 ≠ -1 := fun e => by
        obtain ⟨j, hj, hj2⟩ := List.mem_iff_getElem.1 hm
        exact Lib.indexByte_none e j (by rw [List.getElem?_eq_getElem hj, hj2])
      obtain ⟨i, hi⟩ : ∃ i : Nat, Lib.indexByte s 32 = i := ⟨(Lib.indexByte s 32).toNat, by omega⟩
      obtain ⟨h1, h2⟩ := Lib.indexByte_some hi
      have hix : Lib.index s [32] = i := by rw [Lib.index_one, hi]
      have hlt := (List.getElem?_eq_some_iff.1 h1).1
      have hs : s = s.take i ++ 32 :: s.drop (i + 1) := by
        have e1 : s.drop i = 32 :: s.drop (i + 1) := by rw [List.drop_eq_getElem_cons hlt, (List.getElem?_eq_some_iff.1 h1).2]
        rw [← e1, List.take_append_drop]
      have hno : (32 : UInt8) ∉ s.take i := fun hmem => by
        obtain ⟨j, hj, hj2⟩ := List.mem_iff_getElem.1 hmem
        rw [List.length_take] at hj
        refine h2 j (by omega) ?_
        rw [List.getElem_take] at hj2
        rw [List.getElem?_eq_getElem (by omega), hj2]
      have hc : (s.drop (i + 1)).count 32 ≤ k := by
        have : s.count 32 = (s.take i ++ 32 :: s.drop (i + 1)).count 32 := by rw [← hs]
        rw [List.count_append, List.count_cons_self] at this
        omega
      rw [Lib.replaceK_hit [32] [] k s i hix]
      rw [show i + ([32] : List UInt8).length = i + 1 from rfl, replaceK_bare k _ hc]
      conv => rhs; rw [hs]
      rw [bare_app, bare_none hno]
      simp [bareL]
    · have hix : Lib.index s [32] = -1 := by
        rw [Lib.index_one]
        have hge := Lib.indexByte_ge s 32
        refine Classical.byContradiction fun hne => ?_
        have := (Lib.indexByte_some (o := (Lib.indexByte s 32).toNat) (by omega : Lib.indexByte s 32 = _)).1
        exact hm (List.mem_of_getElem? this)
      rw [Lib.replaceK, if_pos (by rw [hix]; rfl), bare_none hm]

theorem replace_bare (s : List UInt8) : Lib.replaceAll s [32] [] = bareL s := by
  unfold Lib.replaceAll Lib.replace
  rw [if_neg (by decide)]
  refine replaceK_bare _ s ?_
  unfold Lib.replaceNum
  rw [if_pos (Or.inl (by omega)), Lib.count_one]
  exact Nat.le_refl _

theorem bare_le (s : List UInt8) : (bareL s).length ≤ s.length := List.length_filter_le _ _

end Go.Proofs.YtedenhfpbabjkaaGreatDoor
