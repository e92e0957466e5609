/-
  An argument that is a slice of pairs of texts, opened. By an AI agent.
-/
import Derived.Test.YtihoachcpabkeaaGreatDoorPRows
import Derived.Test.YtihoachcpabkeaaGreatDoorOpens
import Derived.Deep.SlicePairs
namespace Go.Proofs.YtihoachcpabkeaaGreatDoor.Opens
open Go Go.ChangeShapes Go.WideShapes Go.ChangeAt Go.RowKit Go.Deep
set_option linter.unusedVariables false

theorem open_pairs {H : Type} {enc : TypeId × Value → H} {P : Program} {W : World} {r : Reach} {base base' : Nat} {sp : Nat → Bool} {held : Bool} {t e : TypeId} {v : Value} {d : DataW H} {p : List MemPlace} {f0 f1 : Field}
    (ht : P.underlying t = some (.slice e)) (he : P.underlying e = some (.struct #[f0, f1])) (ce : P.cellsOf e = 2) (o0 : f0.offset = 0) (o1 : f1.offset = 1) (c0 : P.cellsOf f0.type = 1) (c1 : P.cellsOf f1.type = 1)
    (s0 : P.underlying f0.type = some .string) (s1 : P.underlying f1.type = some .string) (hv : Value.okWide P W r base' t v) (h : DataW.Trod enc P W base sp held t v d p) :
    ∃ A n c l, v = .slice A n c ∧ Has W W.heap.size 2 A n (prs l) := by
  obtain ⟨A, n, c, rfl⟩ := okWide_slice ht hv
  obtain ⟨fuel, hf⟩ := h
  rcases open_slice_pairs ht he ce o0 o1 c0 c1 hf with ⟨hcs, hx⟩ | ⟨a, len, cap, m, k, V0, V1, D0, D1, P0, P1, hcs, hb, hl, hm, hmm, hx, hall⟩
  · simp [Value.cells] at hcs
    obtain ⟨rfl, rfl, rfl⟩ := hcs
    exact ⟨none, 0, 0, [], rfl, Has.nil⟩
  · simp [Value.cells] at hcs
    obtain ⟨rfl, rfl, rfl⟩ := hcs
    have hlm : n ≤ m := by rw [hmm]; split <;> omega
    have each : ∀ i, i < n → ∃ q : List UInt8 × List UInt8, W.cell? (a.add (i * 2)) = some (.string (txt q.1)) ∧ W.cell? (a.add (i * 2 + 1)) = some (.string (txt q.2)) := by
      intro i hi
      obtain ⟨h0, h1, h2, h3⟩ := hall i (by omega)
      obtain ⟨x, hx1, _, _⟩ := DataW.trod_string s0 h2
      obtain ⟨y, hy1, _, _⟩ := DataW.trod_string s1 h3
      simp only [List.cons.injEq, and_true] at hx1 hy1
      have hself : ∀ s : ByteArray, txt s.data.toList = s := fun s => ByteArray.ext (Array.ext' (by simp [txt]))
      exact ⟨(x.data.toList, y.data.toList), by simp only [hself]; rw [h0, hx1], by simp only [hself]; rw [h1, hy1]⟩
    obtain ⟨q, hq⟩ := choose_lt each
    refine ⟨some a, n, c, (List.range n).map q, rfl, by rw [prs_length]; simp, ?_⟩
    rcases Nat.eq_zero_or_pos n with h0 | h0
    · subst h0
      exact .inl rfl
    · refine .inr ⟨a, rfl, ?_, fun j u hu => ?_⟩
      · have hc := (hq 0 h0).1
        rcases Nat.lt_or_ge a.block W.heap.size with hlt | hge
        · exact hlt
        · exfalso
          have hn : W.heap[a.block]? = none := Array.getElem?_eq_none hge
          have e0 : a.add (0 * 2) = a := by simp [Addr.add]
          rw [e0] at hc
          simp [World.cell?, hn] at hc
      · have hj : j < n * 2 := by
          have := (List.getElem?_eq_some_iff.1 hu).1
          rw [prs_length] at this
          simpa using this
        have hi : j / 2 < n := by omega
        have hg : ((List.range n).map q)[j / 2]? = some (q (j / 2)) := by simp [hi]
        obtain ⟨p0, p1⟩ := prs_at _ _ _ hg
        rcases Nat.mod_two_eq_zero_or_one j with h2 | h2
        · have ej : j / 2 * 2 = j := by omega
          rw [ej] at p0
          rw [hu] at p0
          obtain rfl := Option.some.inj p0
          have := (hq (j / 2) hi).1
          rwa [ej] at this
        · have ej : j / 2 * 2 + 1 = j := by omega
          rw [ej] at p1
          rw [hu] at p1
          obtain rfl := Option.some.inj p1
          have := (hq (j / 2) hi).2
          rwa [ej] at this

end Go.Proofs.YtihoachcpabkeaaGreatDoor.Opens
