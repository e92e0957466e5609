/-
  Parts of names as lists of pairs: which lists are parts, what a text reads as, the part with normal values: of no program but in its words. By an AI agent.
-/
import Derived.Test.YtihoachcpabkeaaGreatDoorPMath
import Derived.Test.YtihoachcpabkeaaGreatDoorMC
namespace Go.Proofs.YtihoachcpabkeaaGreatDoor
set_option linter.unusedVariables false

/-- A pair that a part may hold. -/
structure PairOk (a : P2) : Prop where
  name : (typ a.1).1 = a.1
  syn : (typ a.1).2 = 1 ∨ (typ a.1).2 = 3
  val : (norm a.1 a.2).2 = 0
/-- A part. -/
structure PartOk (l : List P2) : Prop where
  pos : 1 ≤ l.length
  le : l.length ≤ 3
  each : ∀ a ∈ l, PairOk a
  order : l.Pairwise (fun x y => x.1 < y.1)

theorem part_iff (l : List P2) : PartOk l ↔ (1 ≤ l.length ∧ l.length ≤ 3) ∧ ∀ i a, l[i]? = some a → PairOk a ∧ (0 < i → ∀ b, l[i - 1]? = some b → b.1 < a.1) := by
  constructor
  · rintro ⟨h1, h2, h3, h4⟩
    refine ⟨⟨h1, h2⟩, fun i a ha => ⟨h3 a (List.mem_of_getElem? ha), fun hi b hb => ?_⟩⟩
    obtain ⟨h5, e5⟩ := List.getElem?_eq_some_iff.1 ha
    obtain ⟨h6, e6⟩ := List.getElem?_eq_some_iff.1 hb
    have := List.pairwise_iff_getElem.1 h4 (i - 1) i h6 h5 (by omega)
    rwa [e5, e6] at this
  · rintro ⟨⟨h1, h2⟩, h⟩
    refine ⟨h1, h2, fun a ha => ?_, ?_⟩
    · obtain ⟨i, hi, rfl⟩ := List.mem_iff_getElem.1 ha
      exact (h i _ (List.getElem?_eq_getElem hi)).1
    · match l, h1, h2 with
      | [x], _, _ => simp
      | [x, y], _, _ =>
        have a1 := (h 1 y rfl).2 (by omega) x rfl
        simp [a1]
      | [x, y, z], _, _ =>
        have a1 := (h 1 y rfl).2 (by omega) x rfl
        have a2 := (h 2 z rfl).2 (by omega) y rfl
        have a3 : x.1 < z.1 := List.lt_trans a1 a2
        simp [a1, a2, a3]

theorem typ_mem {n : List UInt8} (h : (typ n).2 ≠ 0) : ∃ e ∈ tab, typ n = e := by
  have key : ∀ (t : List (List UInt8 × Int)) (m : List UInt8), (typL m t).2 ≠ 0 → ∃ e ∈ t, typL m t = e := by
    intro t
    induction t with
    | nil => intro m h; exact absurd rfl h
    | cons e r ih =>
      intro m h
      unfold typL at h ⊢
      split
      · exact ⟨e, by simp, rfl⟩
      · rename_i hne
        rw [if_neg hne] at h
        obtain ⟨e', he, hq⟩ := ih m h
        exact ⟨e', by simp [he], hq⟩
  exact key tab _ h

theorem tab_plain : ∀ e ∈ tab, ∀ c ∈ e.1, c ≠ 92 ∧ c ≠ 43 ∧ c ≠ 44 ∧ c ≠ 61 := by decide
theorem tab_own : ∀ e ∈ tab, typ e.1 = e := by decide
theorem tab_print : ∀ e ∈ tab, ∀ c ∈ e.1, 32 ≤ c.toNat ∧ c.toNat ≤ 126 := by decide

theorem PairOk.nz {a : P2} (h : PairOk a) : (typ a.1).2 ≠ 0 := by have := h.syn; omega
theorem PairOk.plain {a : P2} (h : PairOk a) : Plain a.1 := by
  obtain ⟨e, he, hq⟩ := typ_mem h.nz
  have h1 : a.1 = e.1 := by rw [← hq]; exact h.name.symm
  exact ⟨fun c hc => tab_plain e he c (by rw [← h1]; exact hc)⟩
theorem PairOk.small {a : P2} (h : PairOk a) : a.1.length ≤ 20 ∧ a.2.length ≤ 200 := by
  obtain ⟨e, he, hq⟩ := typ_mem h.nz
  have h1 : a.1 = e.1 := by rw [← hq]; exact h.name.symm
  have hl : ∀ e ∈ tab, e.1.length ≤ 20 := by decide
  refine ⟨by rw [h1]; exact hl e he, ?_⟩
  have hv := h.val
  cases road a.1 a.2 with
  | none _ r => rw [r] at hv; simp at hv
  | name _ r => rw [r] at hv; simp at hv
  | short _ _ r => rw [r] at hv; simp at hv
  | long _ _ r => rw [r] at hv; simp at hv
  | form _ _ _ r => rw [r] at hv; simp at hv
  | same _ k _ r => exact k.2
  | text _ k _ r => exact k.2

theorem dec_nz (u : Nat) : (0 : UInt8) ∉ Lib.decDigits u := by
  induction u using Nat.strongRecOn with
  | _ u ih =>
    have key : ∀ k, k < 10 → (0 : UInt8) ≠ UInt8.ofNat (48 + k) := by decide
    rw [Lib.decDigits]
    split
    · rename_i h
      intro h0
      exact key u h (List.mem_singleton.1 h0)
    · rename_i h
      intro h0
      rcases List.mem_append.1 h0 with h0 | h0
      · exact ih (u / 10) (by omega) h0
      · exact key (u % 10) (by omega) (List.mem_singleton.1 h0)

theorem int_zero {l : List UInt8} {n : Int} (h : IsInt l n) : (0 : UInt8) ∉ l := by
  obtain ⟨_, rfl⟩ := h
  unfold Lib.itoa
  split
  · intro h0
    rcases List.mem_cons.1 h0 with h | h
    · cases h
    · exact dec_nz _ h
  · exact dec_nz _

/-- A value of a part's pair has no 0 byte. -/
theorem PairOk.zero {a : P2} (h : PairOk a) : (0 : UInt8) ∉ a.2 := by
  have hv := h.val
  have hs := h.syn
  have key : Formed (typ a.1).2 a.2 → (0 : UInt8) ∉ a.2 := by
    intro f
    rcases hs with h1 | h1
    · exact (f.tx h1).1
    · obtain ⟨n, hn⟩ := f.nu h1
      exact int_zero hn
  cases road a.1 a.2 with
  | none _ r => rw [r] at hv; simp at hv
  | name _ r => rw [r] at hv; simp at hv
  | short _ _ r => rw [r] at hv; simp at hv
  | long _ _ r => rw [r] at hv; simp at hv
  | form _ _ _ r => rw [r] at hv; simp at hv
  | same _ k f r => exact key f
  | text _ k f r => exact key f

/-- One pair as a text's piece writes it, and as the program reads it. -/
def rdPairT (l : List UInt8) : Option P2 := (eqCut l).bind fun p => (rd p.2).map fun v => ((typ p.1).1, v)
def rqPairT (l : List UInt8) : Option P2 := (eqCut l).bind fun p => (rqFrom true p.2).map fun v => ((typ p.1).1, v)

open Classical in
/-- What a text reads as. -/
noncomputable def parseP (s : List UInt8) : Option (List P2) :=
  if 3 < (cuts 43 s).length then none
  else match (cuts 43 s).mapM rdPairT with
    | none => none
    | some l => if PartOk (sortP l) then some (sortP l) else none

theorem parse_long {s : List UInt8} (h : 3 < (cuts 43 s).length) : parseP s = none := by unfold parseP; rw [if_pos h]
theorem parse_bad {s : List UInt8} (h : (cuts 43 s).mapM rdPairT = none) : parseP s = none := by
  unfold parseP
  split
  · rfl
  · rw [h]
open Classical in
theorem parse_some {s : List UInt8} {l : List P2} (h3 : (cuts 43 s).length ≤ 3) (h : (cuts 43 s).mapM rdPairT = some l) : parseP s = if PartOk (sortP l) then some (sortP l) else none := by
  unfold parseP
  rw [if_neg (by omega), h]
theorem parse_ok {s : List UInt8} {l : List P2} (h : parseP s = some l) : PartOk l := by
  unfold parseP at h
  split at h
  · cases h
  · split at h
    · cases h
    · split at h
      · rename_i hp
        obtain rfl := Option.some.inj h
        exact hp
      · cases h

/-- A text's part, printed, reads as the part. -/
theorem parse_pr {l : List P2} (h : PartOk l) : parseP (prP l) = some l := by
  have hne : l ≠ [] := by rintro rfl; have := h.pos; simp at this
  have hpl : ∀ a ∈ l, Plain a.1 := fun a ha => (h.each a ha).plain
  have hc := cuts_prP l hne hpl
  have hlen : (cuts 43 (prP l)).length ≤ 3 := by rw [hc, List.length_map]; exact h.le
  have hm : ∀ (m : List P2), (∀ a ∈ m, PairOk a) → (m.map onePr).mapM rdPairT = some m := by
    intro m
    induction m with
    | nil => intro _; rfl
    | cons a r ih =>
      intro hm
      have ha := hm a (by simp)
      have h1 : rdPairT (onePr a) = some a := by
        unfold rdPairT onePr
        rw [eqCut_one ha.plain]
        simp [rd_wr, ha.name]
      rw [List.map_cons, List.mapM_cons, h1, ih fun b hb => hm b (by simp [hb])]
      rfl
  have h2 : (cuts 43 (prP l)).mapM rdPairT = some l := by rw [hc]; exact hm l h.each
  rw [parse_some hlen h2, sort_own h.order, if_pos h]

/-- The part with its values' normal forms. -/
noncomputable def normP (l : List P2) : List P2 := l.map fun a => (a.1, (norm a.1 a.2).1)
theorem normP_ok {l : List P2} (h : PartOk l) : PartOk (normP l) ∧ normP (normP l) = normP l := by
  have own : ∀ a ∈ l, norm a.1 (norm a.1 a.2).1 = ((norm a.1 a.2).1, 0) := fun a ha => norm_own (h.each a ha).val
  constructor
  · refine ⟨by simpa [normP] using h.pos, by simpa [normP] using h.le, fun a ha => ?_, ?_⟩
    · obtain ⟨b, hb, rfl⟩ := List.mem_map.1 ha
      have := h.each b hb
      exact ⟨this.name, this.syn, by simp only; rw [own b hb]⟩
    · unfold normP
      rw [List.pairwise_map]
      exact h.order
  · unfold normP
    rw [List.map_map]
    refine List.map_congr_left fun a ha => ?_
    simp only [Function.comp]
    rw [own a ha]

end Go.Proofs.YtihoachcpabkeaaGreatDoor
