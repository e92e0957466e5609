/-
  A pair's text cut at its first '=': of no program; and the library's number. By an AI agent.
-/
import Derived.Test.YtihoachcpabkeaaGreatDoorPReadV
import Derived.Lib.CutLaws
namespace Go.Proofs.YtihoachcpabkeaaGreatDoor
open Go.RowKit
set_option linter.unusedVariables false

/-- The library's own number holds some number. -/
structure Mx (w : World) : Prop where
  max : ∃ m, w.cell? ⟨1, 0, none⟩ = some (.int .i64 m)
theorem cell_lt {w : World} {g : Nat} {v : Value} (h : w.cell? ⟨g, 0, none⟩ = some v) : g < w.heap.size := by
  rcases Nat.lt_or_ge g w.heap.size with hlt | hge
  · exact hlt
  · exfalso
    have hn : w.heap[g]? = none := Array.getElem?_eq_none hge
    simp [World.cell?, hn] at h
theorem Mx.below {w w' : World} (h : Mx w) (hb : Below w.heap.size w w') : Mx w' := by
  obtain ⟨m, hm⟩ := h.max
  exact ⟨m, (hb.cell (p := ⟨1, 0, none⟩) (cell_lt hm)).trans hm⟩

/-- All that the program's tables must hold. -/
structure TM (w : World) : Prop where
  tt : TT w
  mx : Mx w
theorem TM.below {w w' : World} (h : TM w) (hb : Below w.heap.size w w') : TM w' := ⟨h.tt.below hb, h.mx.below hb⟩

theorem idx_none : ∀ {l : List UInt8}, 61 ∉ l → Lib.index l [61] = -1
  | [], _ => by simp [Lib.index]
  | b :: r, h => by
    have h1 : b ≠ 61 := fun e => h (by rw [e]; exact List.mem_cons_self)
    have h2 := idx_none (l := r) fun hm => h (List.mem_cons_of_mem _ hm)
    have h3 : ([61] : List UInt8).isPrefixOf (b :: r) = false := by
      simp only [List.isPrefixOf, Bool.and_true, beq_eq_false_iff_ne]
      exact fun e => h1 e.symm
    unfold Lib.index
    rw [h3, h2]
    rfl
theorem idx_some : ∀ {a : List UInt8} (b : List UInt8), 61 ∉ a → Lib.index (a ++ 61 :: b) [61] = (a.length : Int)
  | [], b, _ => by simp [Lib.index, List.isPrefixOf]
  | c :: r, b, h => by
    have h1 : c ≠ 61 := fun e => h (by rw [e]; exact List.mem_cons_self)
    have h2 := idx_some (a := r) b fun hm => h (List.mem_cons_of_mem _ hm)
    have h3 : ([61] : List UInt8).isPrefixOf (c :: (r ++ 61 :: b)) = false := by
      simp only [List.isPrefixOf, Bool.and_true, beq_eq_false_iff_ne]
      exact fun e => h1 e.symm
    rw [List.cons_append]
    unfold Lib.index
    rw [h3, h2]
    have h4 : (((r.length : Nat) : Int) == -1) = false := beq_false_of_ne (by omega)
    rw [h4]
    simp

theorem eq_cases : ∀ (l : List UInt8), (eqCut l = none ∧ 61 ∉ l) ∨ ∃ a b, eqCut l = some (a, b) ∧ l = a ++ 61 :: b ∧ 61 ∉ a
  | [] => Or.inl ⟨rfl, by simp⟩
  | c :: r => by
    by_cases hc : c = 61
    · subst hc
      exact Or.inr ⟨[], r, by simp [eqCut], rfl, by simp⟩
    · have hn : (c != 61) = true := by simpa using hc
      rcases eq_cases r with ⟨h1, h2⟩ | ⟨a, b, h1, h2, h3⟩
      · refine Or.inl ⟨?_, ?_⟩
        · unfold eqCut at h1 ⊢
          rw [List.dropWhile_cons_of_pos (p := fun x => x != 61) hn]
          split at h1
          · rfl
          · cases h1
        · intro hm
          rcases List.mem_cons.1 hm with h | h
          · exact hc h.symm
          · exact h2 h
      · refine Or.inr ⟨c :: a, b, ?_, by rw [h2]; rfl, ?_⟩
        · unfold eqCut at h1 ⊢
          rw [List.dropWhile_cons_of_pos (p := fun x => x != 61) hn, List.takeWhile_cons_of_pos (p := fun x => x != 61) hn]
          split at h1
          · cases h1
          · simp only [Option.some.injEq, Prod.mk.injEq] at h1 ⊢
            exact ⟨by rw [h1.1], h1.2⟩
        · intro hm
          rcases List.mem_cons.1 hm with h | h
          · exact hc h.symm
          · exact h3 h

theorem cut_none {l : List UInt8} (h : 61 ∉ l) : Lib.cut l [61] = (l, [], false) := by
  unfold Lib.cut
  rw [idx_none h, if_neg (by omega)]
theorem cut_some {a : List UInt8} (b : List UInt8) (h : 61 ∉ a) : Lib.cut (a ++ 61 :: b) [61] = (a, b, true) := by
  unfold Lib.cut
  rw [idx_some b h, if_pos (by omega)]
  simp

end Go.Proofs.YtihoachcpabkeaaGreatDoor
