/-
  An argument that is a slice of slices of pairs of texts, opened. By an AI agent.
-/
import Derived.Test.YtkncdohghafeiaaGreatDoorQRows
import Derived.Test.YtkncdohghafeiaaGreatDoorOpens
import Derived.Deep.SlicePairs
namespace Go.Proofs.YtkncdohghafeiaaGreatDoor.Opens
open Go Go.ChangeShapes Go.WideShapes Go.ChangeAt Go.RowKit Go.Deep
set_option linter.unusedVariables false

theorem pairs_cells {H : Type} {enc : TypeId × Value → H} {P : Program} {W : World} {base fuel : Nat} {sp : Nat → Bool} {held : Bool} {t e : TypeId} {cs : List Value} {x : DataW H × List MemPlace} {f0 f1 : Field}
    (ht : P.underlying t = some (.slice e)) (he : P.underlying e = some (.struct #[f0, f1])) (ce : P.cellsOf e = 2) (o0 : f0.offset = 0) (o1 : f1.offset = 1) (c0 : P.cellsOf f0.type = 1) (c1 : P.cellsOf f1.type = 1)
    (s0 : P.underlying f0.type = some .string) (s1 : P.underlying f1.type = some .string) (h : DataW.trod enc P W base sp held fuel t cs = some x) :
    ∃ A n c l, cs = [.slice A n c] ∧ Has W W.heap.size 2 A n (prs l) := by
  rcases open_slice_pairs ht he ce o0 o1 c0 c1 h with ⟨rfl, hx⟩ | ⟨a, n, cap, m, k, V0, V1, D0, D1, P0, P1, rfl, hb, hl, hm, hmm, hx, hall⟩
  · exact ⟨none, 0, 0, [], rfl, Has.nil⟩
  · have hlm : n ≤ m := by rw [hmm]; split <;> omega
    have each : ∀ i, i < n → ∃ q : List UInt8 × List UInt8, W.cell? (a.add (i * 2)) = some (.string (txt q.1)) ∧ W.cell? (a.add (i * 2 + 1)) = some (.string (txt q.2)) := by
      intro i hi
      obtain ⟨h0, h1, h2, h3⟩ := hall i (by omega)
      obtain ⟨x, hx1, _, _⟩ := DataW.trod_string s0 h2
      obtain ⟨y, hy1, _, _⟩ := DataW.trod_string s1 h3
      simp only [List.cons.injEq, and_true] at hx1 hy1
      have hself : ∀ s : ByteArray, txt s.data.toList = s := fun s => ByteArray.ext (Array.ext' (by simp [txt]))
      exact ⟨(x.data.toList, y.data.toList), by simp only [hself]; rw [h0, hx1], by simp only [hself]; rw [h1, hy1]⟩
    obtain ⟨q, hq⟩ := choose_lt each
    refine ⟨some a, n, cap, (List.range n).map q, rfl, by rw [prs_length]; simp, ?_⟩
    rcases Nat.eq_zero_or_pos n with h0 | h0
    · subst h0
      exact .inl rfl
    · refine .inr ⟨a, rfl, ?_, fun j u hu => ?_⟩
      · have hc := (hq 0 h0).1
        rcases Nat.lt_or_ge a.block W.heap.size with hlt | hge
        · exact hlt
        · exfalso
          have hn : W.heap[a.block]? = none := Array.getElem?_eq_none hge
          have e0 : a.add (0 * 2) = a := by simp [Addr.add]
          rw [e0] at hc
          simp [World.cell?, hn] at hc
      · have hj : j < n * 2 := by
          have := (List.getElem?_eq_some_iff.1 hu).1
          rw [prs_length] at this
          simpa using this
        have hi : j / 2 < n := by omega
        have hg : ((List.range n).map q)[j / 2]? = some (q (j / 2)) := by simp [hi]
        obtain ⟨p0, p1⟩ := prs_at _ _ _ hg
        rcases Nat.mod_two_eq_zero_or_one j with h2 | h2
        · have ej : j / 2 * 2 = j := by omega
          rw [ej] at p0
          rw [hu] at p0
          obtain rfl := Option.some.inj p0
          have := (hq (j / 2) hi).1
          rwa [ej] at this
        · have ej : j / 2 * 2 + 1 = j := by omega
          rw [ej] at p1
          rw [hu] at p1
          obtain rfl := Option.some.inj p1
          have := (hq (j / 2) hi).2
          rwa [ej] at this

theorem open_parts {H : Type} {enc : TypeId × Value → H} {P : Program} {W : World} {r : Reach} {base base' : Nat} {sp : Nat → Bool} {held : Bool} {t0 t e : TypeId} {v : Value} {d : DataW H} {p : List MemPlace} {f0 f1 : Field}
    (ht0 : P.underlying t0 = some (.slice t)) (ct : P.cellsOf t = 1) (ht : P.underlying t = some (.slice e)) (he : P.underlying e = some (.struct #[f0, f1])) (ce : P.cellsOf e = 2) (o0 : f0.offset = 0) (o1 : f1.offset = 1) (c0 : P.cellsOf f0.type = 1) (c1 : P.cellsOf f1.type = 1)
    (s0 : P.underlying f0.type = some .string) (s1 : P.underlying f1.type = some .string) (hv : Value.okWide P W r base' t0 v) (h : DataW.Trod enc P W base sp held t0 v d p) :
    ∃ A n c vs L, v = .slice A n c ∧ Has W W.heap.size 1 A n vs ∧ Rows2 W W.heap.size vs L := by
  obtain ⟨A, n, c, rfl⟩ := okWide_slice ht0 hv
  obtain ⟨fuel, hf⟩ := h
  rcases open_slice1 ht0 ct hf with ⟨hcs, hx⟩ | ⟨a, len, cap, m, k, V, D, Pl, hcs, hb, hl, hm, hmm, hx, hall⟩
  · simp [Value.cells] at hcs
    obtain ⟨rfl, rfl, rfl⟩ := hcs
    exact ⟨none, 0, 0, [], [], rfl, Has.nil, Rows2.nil _ _⟩
  · simp [Value.cells] at hcs
    obtain ⟨rfl, rfl, rfl⟩ := hcs
    have hlm : n ≤ m := by rw [hmm]; split <;> omega
    have each : ∀ i, i < n → ∃ q : Value × List P2, W.cell? (a.add i) = some q.1 ∧ ∃ A c, q.1 = .slice A q.2.length c ∧ Has W W.heap.size 2 A q.2.length (prs q.2) := by
      intro i hi
      obtain ⟨h0, h1⟩ := hall i (by omega)
      obtain ⟨Ai, ni, ci, li, he1, hH⟩ := pairs_cells ht he ce o0 o1 c0 c1 s0 s1 h1
      have he2 : V i = .slice Ai ni ci := by simpa using he1
      obtain rfl := hH.pairs_n
      exact ⟨(V i, li), h0, Ai, ci, he2, hH⟩
    obtain ⟨q, hq⟩ := choose_lt each
    refine ⟨some a, n, c, (List.range n).map fun i => (q i).1, (List.range n).map fun i => (q i).2, rfl, ⟨by simp, ?_⟩, ⟨by simp, fun i x hx => ?_⟩⟩
    · rcases Nat.eq_zero_or_pos n with h0 | h0
      · subst h0
        exact .inl rfl
      · refine .inr ⟨a, rfl, ?_, fun j u hu => ?_⟩
        · have := World.block_lt_of_cell? W _ (hq 0 h0).1
          rwa [block_add] at this
        · have hj : j < n := by
            have := (List.getElem?_eq_some_iff.1 hu).1
            simpa using this
          rw [(hq j hj).1]
          simpa [List.getElem?_range hj] using hu
    · have hi : i < n := by
        have := (List.getElem?_eq_some_iff.1 hx).1
        simpa using this
      obtain rfl : (q i).2 = x := by simpa [List.getElem?_range hi] using hx
      obtain ⟨_, A', c', h1, h2⟩ := hq i hi
      exact ⟨A', c', by rw [← h1]; simp [List.getElem?_range hi], h2⟩

end Go.Proofs.YtkncdohghafeiaaGreatDoor.Opens
