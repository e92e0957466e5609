/-
  Pairs of types and values as lists: in order, laid into a text, and taken out of it: of no program. By an AI agent.
-/
import Derived.Test.YtihoachcpabkeaaGreatDoorNMath
namespace Go.Proofs.YtihoachcpabkeaaGreatDoor

/-- A pair. -/
abbrev P2 := List UInt8 × List UInt8

/-- A pair set into its place, by its type. -/
def insP (a : P2) (l : List P2) : List P2 := l.takeWhile (fun b => decide (b.1 < a.1)) ++ a :: l.dropWhile (fun b => decide (b.1 < a.1))
def sortP (l : List P2) : List P2 := l.foldl (fun o a => insP a o) []

theorem take_all {α : Type} {p : α → Bool} : ∀ {l : List α}, (∀ b ∈ l, p b = true) → l.takeWhile p = l ∧ l.dropWhile p = []
  | [], _ => ⟨rfl, rfl⟩
  | x :: r, h => by
    have ih := take_all (p := p) (l := r) fun b hb => h b (by simp [hb])
    simp [h x (by simp), ih.1, ih.2]

theorem ins_last {l : List P2} {a : P2} (h : ∀ b ∈ l, b.1 < a.1) : insP a l = l ++ [a] := by
  obtain ⟨h1, h2⟩ := take_all (p := fun b : P2 => decide (b.1 < a.1)) (l := l) fun b hb => decide_eq_true (h b hb)
  unfold insP
  rw [h1, h2]

theorem sort_app : ∀ (r l : List P2), (l ++ r).Pairwise (fun x y => x.1 < y.1) → r.foldl (fun o a => insP a o) l = l ++ r
  | [], l, _ => by simp
  | a :: r, l, h => by
    rw [List.foldl_cons, ins_last]
    · have := sort_app r (l ++ [a]) (by simpa using h)
      simpa using this
    · intro b hb
      rw [List.pairwise_append] at h
      exact h.2.2 b hb a (by simp)

/-- What is in order is left as it is. -/
theorem sort_own {l : List P2} (h : l.Pairwise (fun x y => x.1 < y.1)) : sortP l = l := by
  have := sort_app l [] (by simpa using h)
  simpa [sortP] using this

/-- One pair's text. -/
def onePr (a : P2) : List UInt8 := a.1 ++ 61 :: wrV a.2
/-- The pairs' text. -/
def prP : List P2 → List UInt8
  | [] => []
  | [a] => onePr a
  | a :: b :: r => onePr a ++ 43 :: prP (b :: r)

/-- A type's name holds no byte that cuts. -/
structure Plain (t : List UInt8) : Prop where
  out : ∀ c ∈ t, c ≠ 92 ∧ c ≠ 43 ∧ c ≠ 44 ∧ c ≠ 61

theorem Plain.whole {t : List UInt8} (h : Plain t) {sep : UInt8} (hs : sep = 43 ∨ sep = 44) : Whole sep t := by
  obtain ⟨h⟩ := h
  induction t with
  | nil => exact .nil
  | cons c r ih =>
    have hc := h c (by simp)
    refine .one hc.1 ?_ (ih fun c hc => h c (by simp [hc]))
    rcases hs with rfl | rfl
    · exact hc.2.1
    · exact hc.2.2.1

theorem onePr_whole {a : P2} (h : Plain a.1) {sep : UInt8} (hs : sep = 43 ∨ sep = 44) : Whole sep (onePr a) := by
  have hsp : isSpec sep = true := by rcases hs with rfl | rfl <;> decide
  have h61 : (61 : UInt8) ≠ sep := by rcases hs with rfl | rfl <;> decide
  exact (h.whole hs).app (.one (by decide) h61 (wr_whole sep hsp _))

theorem cuts_prP : ∀ (l : List P2), l ≠ [] → (∀ a ∈ l, Plain a.1) → cuts 43 (prP l) = l.map onePr
  | [], h, _ => absurd rfl h
  | [a], _, h => by
    rw [prP, cut_end (onePr_whole (h a (by simp)) (Or.inl rfl))]; rfl
  | a :: b :: r, _, h => by
    rw [prP, cut_sep (by decide) (onePr_whole (h a (by simp)) (Or.inl rfl)), cuts_prP (b :: r) (by simp) fun c hc => h c (by simp [hc])]
    rfl

theorem prP_whole : ∀ (l : List P2), (∀ a ∈ l, Plain a.1) → Whole 44 (prP l)
  | [], _ => .nil
  | [a], h => onePr_whole (h a (by simp)) (Or.inr rfl)
  | a :: b :: r, h => (onePr_whole (h a (by simp)) (Or.inr rfl)).app (.one (by decide) (by decide) (prP_whole (b :: r) fun c hc => h c (by simp [hc])))

/-- A text cut at its first '='. -/
def eqCut (l : List UInt8) : Option P2 :=
  match l.dropWhile (· != 61) with
  | [] => none
  | _ :: r => some (l.takeWhile (· != 61), r)

theorem eqCut_one {t : List UInt8} (h : Plain t) (v : List UInt8) : eqCut (t ++ 61 :: v) = some (t, v) := by
  have h1 : (t ++ 61 :: v).dropWhile (· != 61) = 61 :: v := by
    rw [List.dropWhile_append_of_pos]
    · simp
    · intro c hc
      simpa using (h.out c hc).2.2.2
  have h2 : (t ++ 61 :: v).takeWhile (· != 61) = t := by
    rw [List.takeWhile_append_of_pos]
    · simp
    · intro c hc
      simpa using (h.out c hc).2.2.2
  unfold eqCut
  rw [h1, h2]

/-- One pair, read. -/
def rdPair (l : List UInt8) : Option P2 := (eqCut l).bind fun p => (rd p.2).map fun v => (p.1, v)
theorem rdPair_one {a : P2} (h : Plain a.1) : rdPair (onePr a) = some a := by
  unfold rdPair onePr
  rw [eqCut_one h]
  simp [rd_wr]

end Go.Proofs.YtihoachcpabkeaaGreatDoor
