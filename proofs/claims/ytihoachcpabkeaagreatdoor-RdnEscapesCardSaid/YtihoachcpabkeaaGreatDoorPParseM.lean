/-
  What the program's and the reference's ways to read a part come to: of no program. By an AI agent.
-/
import Derived.Test.YtihoachcpabkeaaGreatDoorPSort
import Derived.Test.YtihoachcpabkeaaGreatDoorPRPair
namespace Go.Proofs.YtihoachcpabkeaaGreatDoor
set_option linter.unusedVariables false

section
variable {α β : Type} {f g : α → Option β}
theorem mapM_cons' (a : α) (r : List α) : (a :: r).mapM f = (f a).bind fun b => (r.mapM f).map fun c => b :: c := by
  rw [List.mapM_cons]
  cases f a with
  | none => rfl
  | some b => cases r.mapM f <;> rfl
theorem mapM_more : ∀ {ps : List α} {i : Nat} {p : α} {L : List β} {a : β}, ps[i]? = some p → (ps.take i).mapM f = some L → f p = some a → (ps.take (i + 1)).mapM f = some (L ++ [a])
  | [], i, p, L, a, h, _, _ => by simp at h
  | x :: r, 0, p, L, a, h, hL, ha => by
    simp only [List.getElem?_cons_zero, Option.some.injEq] at h
    subst h
    simp only [List.take_zero, List.mapM_nil] at hL
    obtain rfl := Option.some.inj hL
    rw [List.take_succ_cons, mapM_cons', ha]
    simp
  | x :: r, i + 1, p, L, a, h, hL, ha => by
    simp only [List.getElem?_cons_succ] at h
    rw [List.take_succ_cons, mapM_cons'] at hL ⊢
    cases hx : f x with
    | none => rw [hx] at hL; cases hL
    | some b =>
      rw [hx] at hL
      cases hr : (r.take i).mapM f with
      | none => rw [hr] at hL; cases hL
      | some M =>
        rw [hr] at hL
        obtain rfl := Option.some.inj hL
        rw [mapM_more h hr ha]
        rfl
theorem mapM_none : ∀ {ps : List α} {p : α}, p ∈ ps → f p = none → ps.mapM f = none
  | [], p, h, _ => by cases h
  | x :: r, p, h, hp => by
    rw [mapM_cons']
    rcases List.mem_cons.1 h with rfl | h
    · rw [hp]; rfl
    · rw [mapM_none h hp]
      cases f x <;> rfl
theorem mapM_congr' : ∀ {ps : List α} {L : List β}, ps.mapM f = some L → (∀ p a, p ∈ ps → a ∈ L → f p = some a → g p = some a) → ps.mapM g = some L
  | [], L, h, _ => h
  | x :: r, L, h, hg => by
    rw [mapM_cons'] at h ⊢
    cases hx : f x with
    | none => rw [hx] at h; cases h
    | some b =>
      rw [hx] at h
      cases hr : r.mapM f with
      | none => rw [hr] at h; cases h
      | some M =>
        rw [hr] at h
        obtain rfl := Option.some.inj h
        rw [hg x b (by simp) (by simp) hx, mapM_congr' hr fun p a hp ha hf => hg p a (by simp [hp]) (by simp [ha]) hf]
        rfl
theorem mapM_mem : ∀ {ps : List α} {L : List β} {p : α} {a : β}, ps.mapM f = some L → p ∈ ps → f p = some a → a ∈ L
  | [], L, p, a, _, h, _ => by cases h
  | x :: r, L, p, a, h, hp, ha => by
    rw [mapM_cons'] at h
    cases hx : f x with
    | none => rw [hx] at h; cases h
    | some b =>
      rw [hx] at h
      cases hr : r.mapM f with
      | none => rw [hr] at h; cases h
      | some M =>
        rw [hr] at h
        obtain rfl := Option.some.inj h
        rcases List.mem_cons.1 hp with rfl | hp
        · rw [hx] at ha
          obtain rfl := Option.some.inj ha
          simp
        · exact List.mem_cons_of_mem _ (mapM_mem hr hp ha)
theorem mapM_len : ∀ {ps : List α} {L : List β}, ps.mapM f = some L → L.length = ps.length
  | [], L, h => by obtain rfl := Option.some.inj h; rfl
  | x :: r, L, h => by
    rw [mapM_cons'] at h
    cases hx : f x with
    | none => rw [hx] at h; cases h
    | some b =>
      rw [hx] at h
      cases hr : r.mapM f with
      | none => rw [hr] at h; cases h
      | some M =>
        rw [hr] at h
        obtain rfl := Option.some.inj h
        have := mapM_len hr
        simp [this]
end

theorem mem_ins {a x : P2} {l : List P2} : x ∈ insP a l ↔ x = a ∨ x ∈ l := by
  have h := List.takeWhile_append_dropWhile (p := fun b : P2 => decide (b.1 < a.1)) (l := l)
  unfold insP
  constructor
  · intro hx
    rw [← h]
    simp only [List.mem_append, List.mem_cons] at hx ⊢
    rcases hx with h1 | h1 | h1
    · exact Or.inr (Or.inl h1)
    · exact Or.inl h1
    · exact Or.inr (Or.inr h1)
  · rintro (rfl | hx)
    · simp
    · rw [← h] at hx
      simp only [List.mem_append, List.mem_cons] at hx ⊢
      rcases hx with h1 | h1
      · exact Or.inl h1
      · exact Or.inr (Or.inr h1)
theorem mem_sort {x : P2} {l : List P2} : x ∈ sortP l ↔ x ∈ l := by
  have key : ∀ (r o : List P2), x ∈ r.foldl (fun o a => insP a o) o ↔ x ∈ o ∨ x ∈ r := by
    intro r
    induction r with
    | nil => intro o; simp
    | cons a r ih =>
      intro o
      rw [List.foldl_cons, ih, mem_ins, List.mem_cons]
      constructor
      · rintro ((h | h) | h)
        · exact Or.inr (Or.inl h)
        · exact Or.inl h
        · exact Or.inr (Or.inr h)
      · rintro (h | h | h)
        · exact Or.inl (Or.inr h)
        · exact Or.inl (Or.inl h)
        · exact Or.inr h
  have := key l []
  simpa [sortP] using this

theorem t_of_q {p : List UInt8} {a : P2} (h : rqPairT p = some a) (h0 : (0 : UInt8) ∉ a.2) : rdPairT p = some a := by
  unfold rqPairT at h
  unfold rdPairT
  cases he : eqCut p with
  | none => rw [he] at h; cases h
  | some q =>
    rw [he] at h
    simp only [Option.bind_some] at h ⊢
    cases hq : rqFrom true q.2 with
    | none => rw [hq] at h; cases h
    | some v =>
      rw [hq] at h
      obtain rfl := Option.some.inj h
      cases hr : rd q.2 with
      | none => exact absurd (rq_zero hr hq) h0
      | some u =>
        have := rq_of_rd hr
        rw [hq] at this
        obtain rfl := Option.some.inj this
        rfl
theorem q_of_t {p : List UInt8} {a : P2} (h : rdPairT p = some a) : rqPairT p = some a := by
  unfold rdPairT at h
  unfold rqPairT
  cases he : eqCut p with
  | none => rw [he] at h; cases h
  | some q =>
    rw [he] at h
    simp only [Option.bind_some] at h ⊢
    cases hr : rd q.2 with
    | none => rw [hr] at h; cases h
    | some u =>
      rw [hr] at h
      rw [rq_of_rd hr]
      exact h
theorem t_of_s {p : List UInt8} {a : P2} (h : rdPairS p = some a) : rdPairT p = some a := by
  unfold rdPairS at h
  unfold rdPairT
  cases he : eqCut p with
  | none => rw [he] at h; cases h
  | some q =>
    rw [he] at h
    simp only [Option.bind_some] at h ⊢
    split at h
    · cases h
    · exact h
theorem typ_zero {n : List UInt8} (h : (typ n).2 = 0) : (typ n).1 = [] := by
  have key : ∀ (t : List (List UInt8 × Int)) (m : List UInt8), (∀ e ∈ t, e.2 ≠ 0) → (typL m t).2 = 0 → (typL m t).1 = [] := by
    intro t
    induction t with
    | nil => intro m _ _; rfl
    | cons e r ih =>
      intro m hne h
      unfold typL at h ⊢
      split
      · rename_i he
        rw [if_pos he] at h
        exact absurd h (hne e (by simp))
      · rename_i he
        rw [if_neg he] at h
        exact ih m (fun e' h' => hne e' (by simp [h'])) h
  exact key tab _ (by decide) h
theorem typ_nil : (typ []).2 = 0 := by decide

theorem parse_prog_bad {s p : List UInt8} (hp : p ∈ cuts 43 s) (h : rqPairT p = none) : parseP s = none := by
  refine parse_bad (mapM_none hp ?_)
  cases hr : rdPairT p with
  | none => rfl
  | some a => rw [q_of_t hr] at h; cases h
open Classical in
theorem parse_prog {s : List UInt8} {L : List P2} (h3 : (cuts 43 s).length ≤ 3) (h : (cuts 43 s).mapM rqPairT = some L) : parseP s = if PartOk (goSort L) then some (goSort L) else none := by
  have hl := mapM_len h
  have h1 : 1 ≤ L.length := by rw [hl]; simp [cuts]
  by_cases hp : PartOk (goSort L)
  · rw [if_pos hp]
    have hs := sorts_same h1 (by omega) (Or.inl hp.order)
    have hT : (cuts 43 s).mapM rdPairT = some L := mapM_congr' h fun p a _ ha hf => t_of_q hf (hp.each a (by rw [hs]; exact mem_sort.2 ha)).zero
    rw [parse_some h3 hT, ← hs, if_pos hp]
  · rw [if_neg hp]
    cases hT : (cuts 43 s).mapM rdPairT with
    | none => exact parse_bad hT
    | some M =>
      have hq := mapM_congr' (g := rqPairT) hT fun p a _ _ hf => q_of_t hf
      rw [h] at hq
      obtain rfl := Option.some.inj hq
      rw [parse_some h3 hT, if_neg]
      intro hp2
      exact hp (by rw [sorts_same h1 (by omega) (Or.inr hp2.order)]; exact hp2)

theorem parse_ref_bad {s p : List UInt8} (h3 : (cuts 43 s).length ≤ 3) (hp : p ∈ cuts 43 s) (h : rdPairS p = none) : parseP s = none := by
  cases hT : (cuts 43 s).mapM rdPairT with
  | none => exact parse_bad hT
  | some M =>
    cases hr : rdPairT p with
    | none => rw [mapM_none hp hr] at hT; cases hT
    | some a =>
      have ha := mapM_mem hT hp hr
      have hno : ¬ PairOk a := by
        intro hok
        unfold rdPairS at h
        unfold rdPairT at hr
        cases he : eqCut p with
        | none => rw [he] at hr; cases hr
        | some q =>
          rw [he] at h hr
          simp only [Option.bind_some] at h hr
          cases hv : rd q.2 with
          | none => rw [hv] at hr; cases hr
          | some v =>
            rw [hv] at h hr
            obtain rfl := Option.some.inj hr
            by_cases hz : (typ q.1).2 = 0
            · have := hok.nz
              simp only [typ_zero hz] at this
              exact this typ_nil
            · rw [if_neg hz] at h; cases h
      rw [parse_some h3 hT, if_neg]
      intro hk
      exact hno (hk.each a (mem_sort.2 ha))
open Classical in
theorem parse_ref {s : List UInt8} {L : List P2} (h3 : (cuts 43 s).length ≤ 3) (h : (cuts 43 s).mapM rdPairS = some L) : parseP s = if PartOk (sortP L) then some (sortP L) else none :=
  parse_some h3 (mapM_congr' h fun p a _ _ hf => t_of_s hf)

theorem parse_prog_yes {s : List UInt8} {L : List P2} (h3 : (cuts 43 s).length ≤ 3) (h : (cuts 43 s).mapM rqPairT = some L) (hp : PartOk (goSort L)) : parseP s = some (goSort L) := by rw [parse_prog h3 h, if_pos hp]
theorem parse_prog_no {s : List UInt8} {L : List P2} (h3 : (cuts 43 s).length ≤ 3) (h : (cuts 43 s).mapM rqPairT = some L) (hp : ¬ PartOk (goSort L)) : parseP s = none := by rw [parse_prog h3 h, if_neg hp]
theorem parse_ref_yes {s : List UInt8} {L : List P2} (h3 : (cuts 43 s).length ≤ 3) (h : (cuts 43 s).mapM rdPairS = some L) (hp : PartOk (sortP L)) : parseP s = some (sortP L) := by rw [parse_ref h3 h, if_pos hp]
theorem parse_ref_no {s : List UInt8} {L : List P2} (h3 : (cuts 43 s).length ≤ 3) (h : (cuts 43 s).mapM rdPairS = some L) (hp : ¬ PartOk (sortP L)) : parseP s = none := by rw [parse_ref h3 h, if_neg hp]

end Go.Proofs.YtihoachcpabkeaaGreatDoor
