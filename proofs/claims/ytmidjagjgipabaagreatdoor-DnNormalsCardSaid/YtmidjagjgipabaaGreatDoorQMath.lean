/-
  Names as lists of parts: their texts and normal texts, their order, and how they are joined and moved: of no program but in its words. By an AI agent.
-/
import Derived.Test.YtmidjagjgipabaaGreatDoorMG
namespace Go.Proofs.YtmidjagjgipabaaGreatDoor
set_option linter.unusedVariables false

/-- Texts, joined by commas. -/
def joinC : List (List UInt8) → List UInt8
  | [] => []
  | [a] => a
  | a :: b :: r => a ++ 44 :: joinC (b :: r)

theorem cuts_join : ∀ (T : List (List UInt8)), T ≠ [] → (∀ t ∈ T, Whole 44 t) → cuts 44 (joinC T) = T
  | [], h, _ => absurd rfl h
  | [a], _, h => by rw [joinC, cut_end (h a (by simp))]
  | a :: b :: r, _, h => by
    rw [joinC, cut_sep (by decide) (h a (by simp)), cuts_join (b :: r) (by simp) fun t ht => h t (by simp only [List.mem_cons] at ht ⊢; exact Or.inr ht)]

theorem join_snoc : ∀ (T : List (List UInt8)) (a : List UInt8), joinC (T ++ [a]) = if T = [] then a else joinC T ++ 44 :: a
  | [], a => rfl
  | [b], a => by simp [joinC]
  | b :: c :: r, a => by
    have ih := join_snoc (c :: r) a
    rw [if_neg (by simp)] at ih ⊢
    rw [List.cons_append, List.cons_append, joinC, ← List.cons_append, ih, joinC]
    simp

theorem join_tail (a : List UInt8) (T : List (List UInt8)) : (joinC T).length ≤ (joinC (a :: T)).length := by
  cases T with
  | nil => simp [joinC]
  | cons b r => rw [joinC, List.length_append, List.length_cons]; omega

/-- The name that a text reads as, or its error. -/
noncomputable def nameV (s : List UInt8) : Option (List (List P2)) × Int :=
  if 1000 < s.length then (none, 4)
  else if s = [] then (some [], 0)
  else if 12 < (cuts 44 s).length then (none, 4)
  else match (cuts 44 s).mapM parseP with
    | none => (none, 2)
    | some L => (some L, 0)

/-- The ways in which a text is read. -/
inductive Nway (s : List UInt8) : Prop where
  | long (h : 1000 < s.length) (e : nameV s = (none, 4))
  | root (h : s = []) (e : nameV s = (some [], 0))
  | many (h : s.length ≤ 1000) (hn : s ≠ []) (hc : 12 < (cuts 44 s).length) (e : nameV s = (none, 4))
  | form (h : s.length ≤ 1000) (hn : s ≠ []) (hc : (cuts 44 s).length ≤ 12) (hm : (cuts 44 s).mapM parseP = none) (e : nameV s = (none, 2))
  | name (L : List (List P2)) (h : s.length ≤ 1000) (hn : s ≠ []) (hc : (cuts 44 s).length ≤ 12) (hm : (cuts 44 s).mapM parseP = some L) (e : nameV s = (some L, 0))

theorem nway (s : List UInt8) : Nway s := by
  by_cases h1 : 1000 < s.length
  · exact .long h1 (by unfold nameV; rw [if_pos h1])
  · by_cases h2 : s = []
    · exact .root h2 (by unfold nameV; rw [if_neg h1, if_pos h2])
    · by_cases h3 : 12 < (cuts 44 s).length
      · exact .many (by omega) h2 h3 (by unfold nameV; rw [if_neg h1, if_neg h2, if_pos h3])
      · cases hm : (cuts 44 s).mapM parseP with
        | none => exact .form (by omega) h2 (by omega) hm (by unfold nameV; rw [if_neg h1, if_neg h2, if_neg h3, hm])
        | some L => exact .name L (by omega) h2 (by omega) hm (by unfold nameV; rw [if_neg h1, if_neg h2, if_neg h3, hm])

theorem mapM_from {α β : Type} {f : α → Option β} : ∀ {ps : List α} {L : List β} {b : β}, ps.mapM f = some L → b ∈ L → ∃ p ∈ ps, f p = some b
  | [], L, b, h, hb => by obtain rfl := Option.some.inj h; cases hb
  | x :: r, L, b, h, hb => by
    rw [mapM_cons'] at h
    cases hx : f x with
    | none => rw [hx] at h; cases h
    | some y =>
      rw [hx] at h
      cases hr : r.mapM f with
      | none => rw [hr] at h; cases h
      | some M =>
        rw [hr] at h
        obtain rfl := Option.some.inj h
        rcases List.mem_cons.1 hb with rfl | hb
        · exact ⟨x, by simp, hx⟩
        · obtain ⟨p, hp, he⟩ := mapM_from hr hb
          exact ⟨p, by simp [hp], he⟩

/-- A name. -/
structure NameOk (L : List (List P2)) : Prop where
  le : L.length ≤ 12
  each : ∀ p ∈ L, PartOk p

theorem name_ok {s : List UInt8} {L : List (List P2)} {e : Int} (h : nameV s = (some L, e)) : e = 0 ∧ NameOk L := by
  cases nway s with
  | long _ e' => rw [e'] at h; cases h
  | root _ e' => rw [e'] at h; cases h; exact ⟨rfl, ⟨by simp, fun p hp => by cases hp⟩⟩
  | many _ _ _ e' => rw [e'] at h; cases h
  | form _ _ _ _ e' => rw [e'] at h; cases h
  | name M _ _ hc hm e' =>
    rw [e'] at h; cases h
    refine ⟨rfl, ⟨by rw [mapM_len hm]; exact hc, fun p hp => ?_⟩⟩
    obtain ⟨t, _, ht⟩ := mapM_from hm hp
    exact parse_ok ht
theorem name_err {s : List UInt8} {e : Int} (h : nameV s = (none, e)) : e = 2 ∨ e = 4 := by
  cases nway s with
  | long _ e' => rw [e'] at h; cases h; exact Or.inr rfl
  | root _ e' => rw [e'] at h; cases h
  | many _ _ _ e' => rw [e'] at h; cases h; exact Or.inr rfl
  | form _ _ _ _ e' => rw [e'] at h; cases h; exact Or.inl rfl
  | name M _ _ hc hm e' => rw [e'] at h; cases h

theorem prP_ne {l : List P2} (h : PartOk l) : prP l ≠ [] := by
  have hp := h.pos
  match l, hp with
  | [a], _ => simp [prP, onePr]
  | a :: b :: r, _ => simp [prP, onePr]
theorem prP_whole' {l : List P2} (h : PartOk l) : Whole 44 (prP l) := prP_whole l fun a ha => (h.each a ha).plain

theorem mapM_prP : ∀ (L : List (List P2)), (∀ p ∈ L, PartOk p) → (L.map prP).mapM parseP = some L
  | [], _ => rfl
  | p :: r, h => by
    rw [List.map_cons, mapM_cons', parse_pr (h p (by simp)), mapM_prP r fun q hq => h q (by simp [hq])]
    rfl

/-- What is printed reads as it was. -/
theorem name_join {L : List (List P2)} (h : NameOk L) (hl : (joinC (L.map prP)).length ≤ 1000) : nameV (joinC (L.map prP)) = (some L, 0) := by
  cases L with
  | nil => unfold nameV; rw [if_neg (by simp [joinC]), if_pos (by simp [joinC])]
  | cons p r =>
    have hw : ∀ t ∈ (p :: r).map prP, Whole 44 t := fun t ht => by
      obtain ⟨q, hq, rfl⟩ := List.mem_map.1 ht
      exact prP_whole' (h.each q hq)
    have hc := cuts_join ((p :: r).map prP) (by simp) hw
    have hne : joinC ((p :: r).map prP) ≠ [] := by
      have := prP_ne (h.each p (by simp))
      cases r with
      | nil => simpa [joinC] using this
      | cons q s => simp [joinC]
    unfold nameV
    rw [if_neg (by omega), if_neg hne, hc, if_neg (by rw [List.length_map]; have := h.le; omega), mapM_prP _ h.each]

/-- A part's normal text. -/
noncomputable def ptx (p : List P2) : List UInt8 := prP (normP p)
/-- A normal part's text. -/
def NT (t : List UInt8) : Prop := ∃ p, PartOk p ∧ normP p = p ∧ prP p = t
theorem nt_ptx {p : List P2} (h : PartOk p) : NT (ptx p) := ⟨normP p, (normP_ok h).1, (normP_ok h).2, rfl⟩

/-- The normal texts of a name's parts, or the error. -/
noncomputable def partsV (s : List UInt8) : Option (List (List UInt8)) × Int :=
  match nameV s with
  | (none, e) => (none, e)
  | (some L, _) => if 1000 < (joinC (L.map ptx)).length then (none, 4) else (some (L.map ptx), 0)

/-- Normal parts' texts that make a name. -/
structure TextsOk (T : List (List UInt8)) : Prop where
  le : T.length ≤ 12
  len : (joinC T).length ≤ 1000
  each : ∀ t ∈ T, NT t

/-- The ways in which a text is made normal. -/
inductive Pway (s : List UInt8) : Prop where
  | none (e : Int) (he : e = 2 ∨ e = 4) (hn : nameV s = (.none, e)) (h : partsV s = (.none, e))
  | long (L : List (List P2)) (hn : nameV s = (some L, 0)) (ho : NameOk L) (hl : 1000 < (joinC (L.map ptx)).length) (h : partsV s = (.none, 4))
  | ok (L : List (List P2)) (hn : nameV s = (some L, 0)) (ho : NameOk L) (hl : (joinC (L.map ptx)).length ≤ 1000) (h : partsV s = (some (L.map ptx), 0))

theorem pway (s : List UInt8) : Pway s := by
  cases h : nameV s with
  | mk o e =>
    cases o with
    | none => exact .none e (name_err h) h (by unfold partsV; rw [h])
    | some L =>
      obtain ⟨rfl, ho⟩ := name_ok h
      by_cases hl : 1000 < (joinC (L.map ptx)).length
      · exact .long L h ho hl (by unfold partsV; rw [h]; simp only; rw [if_pos hl])
      · exact .ok L h ho (by omega) (by unfold partsV; rw [h]; simp only; rw [if_neg hl])

theorem texts_of {L : List (List P2)} (ho : NameOk L) (hl : (joinC (L.map ptx)).length ≤ 1000) : TextsOk (L.map ptx) :=
  ⟨by rw [List.length_map]; exact ho.le, hl, fun t ht => by obtain ⟨p, hp, rfl⟩ := List.mem_map.1 ht; exact nt_ptx (ho.each p hp)⟩

/-- What the normal parts of a text are. -/
inductive Pt (s : List UInt8) : Prop where
  | no (e : Int) (he : e = 2 ∨ e = 4) (h : partsV s = (none, e))
  | ok (T : List (List UInt8)) (ho : TextsOk T) (h : partsV s = (some T, 0))
theorem pt (s : List UInt8) : Pt s := by
  cases pway s with
  | none e he _ h => exact .no e he h
  | long L _ _ _ h => exact .no 4 (Or.inr rfl) h
  | ok L _ ho hl h => exact .ok _ (texts_of ho hl) h

theorem NT.parts : ∀ {T : List (List UInt8)}, (∀ t ∈ T, NT t) → ∃ L : List (List P2), (∀ p ∈ L, PartOk p) ∧ L.map prP = T ∧ L.map ptx = T
  | [], _ => ⟨[], fun p hp => (by cases hp), rfl, rfl⟩
  | t :: r, h => by
    obtain ⟨p, hp, hn, ht⟩ := h t (by simp)
    obtain ⟨L, hL, h1, h2⟩ := NT.parts (T := r) fun u hu => h u (by simp [hu])
    refine ⟨p :: L, fun q hq => ?_, by rw [List.map_cons, ht, h1], by rw [List.map_cons, h2]; unfold ptx; rw [hn, ht]⟩
    rcases List.mem_cons.1 hq with rfl | hq
    · exact hp
    · exact hL q hq

/-- Normal parts' texts, joined, have these parts. -/
theorem parts_join {T : List (List UInt8)} (h : TextsOk T) : partsV (joinC T) = (some T, 0) := by
  obtain ⟨L, hL, h1, h2⟩ := NT.parts h.each
  have hlen : L.length = T.length := by rw [← h1, List.length_map]
  have hn := name_join (L := L) ⟨by rw [hlen]; exact h.le, hL⟩ (by rw [h1]; exact h.len)
  rw [h1] at hn
  unfold partsV
  rw [hn]
  simp only
  rw [h2, if_neg (by have := h.len; omega)]
theorem join_inj {T U : List (List UInt8)} (h : TextsOk T) (k : TextsOk U) (e : joinC T = joinC U) : T = U := by
  have h1 := parts_join h
  rw [e, parts_join k] at h1
  exact (Option.some.inj (Prod.mk.inj h1).1).symm

theorem join_drop_le : ∀ (X T : List (List UInt8)), (joinC T).length ≤ (joinC (X ++ T)).length
  | [], T => Nat.le_refl _
  | a :: X, T => Nat.le_trans (join_drop_le X T) (by rw [List.cons_append]; exact join_tail a _)

theorem TextsOk.tail {a : List UInt8} {T : List (List UInt8)} (h : TextsOk (a :: T)) : TextsOk T :=
  ⟨by have := h.le; simp only [List.length_cons] at this; omega, Nat.le_trans (join_tail a T) h.len, fun t ht => h.each t (by simp [ht])⟩
theorem TextsOk.root : TextsOk [] := ⟨by simp, by simp [joinC], fun t ht => by cases ht⟩

/-- The normal text, or the error. -/
noncomputable def normT (s : List UInt8) : List UInt8 × Int :=
  match partsV s with
  | (none, e) => ([], e)
  | (some T, _) => (joinC T, 0)
theorem norm_yes' {s : List UInt8} {T : List (List UInt8)} (h : partsV s = (some T, 0)) : normT s = (joinC T, 0) := by unfold normT; rw [h]
theorem norm_no' {s : List UInt8} {e : Int} (h : partsV s = (none, e)) : normT s = ([], e) := by unfold normT; rw [h]

/-- A text of parts, if it isn't too long. -/
def fitV (T : List (List UInt8)) : List UInt8 × Int := if 12 < T.length ∨ 1000 < (joinC T).length then ([], 4) else (joinC T, 0)
theorem fit_yes {T : List (List UInt8)} (h : TextsOk T) : fitV T = (joinC T, 0) := by unfold fitV; rw [if_neg]; have := h.le; have := h.len; omega
theorem fit_ok {T : List (List UInt8)} {t : List UInt8} (h : fitV T = (t, 0)) : T.length ≤ 12 ∧ (joinC T).length ≤ 1000 ∧ joinC T = t := by
  unfold fitV at h
  split at h
  · cases h
  · rename_i hn
    cases h
    exact ⟨by omega, by omega, rfl⟩
theorem fit_err (T : List (List UInt8)) : (fitV T).2 = 0 ∨ fitV T = ([], 4) := by
  unfold fitV
  split
  · exact Or.inr rfl
  · exact Or.inl rfl

/-! ### Their order -/

def cmpL : List (List UInt8) → List (List UInt8) → Int
  | [], [] => 0
  | [], _ :: _ => -1
  | _ :: _, [] => 1
  | x :: r, y :: q => if x < y then -1 else if y < x then 1 else cmpL r q

theorem lt_irr (x : List UInt8) : ¬ x < x := List.lt_irrefl x
theorem lt_tri {x y : List UInt8} (h1 : ¬ x < y) (h2 : ¬ y < x) : x = y := by
  have a := List.not_lt.1 h1
  have b := List.not_lt.1 h2
  exact List.le_antisymm b a

theorem cmp_vals : ∀ (a b : List (List UInt8)), cmpL a b = -1 ∨ cmpL a b = 0 ∨ cmpL a b = 1
  | [], [] => Or.inr (Or.inl rfl)
  | [], _ :: _ => Or.inl rfl
  | _ :: _, [] => Or.inr (Or.inr rfl)
  | x :: r, y :: q => by
    unfold cmpL
    split
    · exact Or.inl rfl
    · split
      · exact Or.inr (Or.inr rfl)
      · exact cmp_vals r q

theorem cmp_neg : ∀ (a b : List (List UInt8)), cmpL b a = - cmpL a b
  | [], [] => rfl
  | [], _ :: _ => rfl
  | _ :: _, [] => rfl
  | x :: r, y :: q => by
    have ih := cmp_neg r q
    unfold cmpL
    by_cases h1 : x < y
    · have h2 : ¬ y < x := fun h => lt_irr x (List.lt_trans h1 h)
      rw [if_pos h1, if_neg h2, if_pos h1]; rfl
    · by_cases h2 : y < x
      · rw [if_pos h2, if_neg h1, if_pos h2]
      · rw [if_neg h1, if_neg h2, if_neg h2, if_neg h1]; exact ih

theorem cmp_thru : ∀ (a b c : List (List UInt8)), cmpL a b ≤ 0 → cmpL b c ≤ 0 → cmpL a c ≤ 0
  | [], _, [], _, _ => by simp [cmpL]
  | [], _, _ :: _, _, _ => by simp [cmpL]
  | _ :: _, [], _, h, _ => by simp [cmpL] at h
  | _ :: _, _ :: _, [], _, h => by simp [cmpL] at h
  | x :: r, y :: q, z :: p, h1, h2 => by
    unfold cmpL at h1 h2 ⊢
    by_cases a1 : x < y
    · by_cases b1 : y < z
      · rw [if_pos (List.lt_trans a1 b1)]; omega
      · by_cases b2 : z < y
        · rw [if_neg b1, if_pos b2] at h2; omega
        · obtain rfl := lt_tri b1 b2
          rw [if_pos a1]; omega
    · by_cases a2 : y < x
      · rw [if_neg a1, if_pos a2] at h1; omega
      · obtain rfl := lt_tri a1 a2
        rw [if_neg a1, if_neg a1] at h1
        by_cases b1 : x < z
        · rw [if_pos b1]; omega
        · by_cases b2 : z < x
          · rw [if_neg b1, if_pos b2] at h2; omega
          · rw [if_neg b1, if_neg b2] at h2 ⊢
            exact cmp_thru r q p h1 h2

theorem cmp_more : ∀ (a b : List (List UInt8)), 0 ≤ cmpL (a ++ b) a
  | [], [] => by simp [cmpL]
  | [], _ :: _ => by simp [cmpL]
  | x :: r, b => by
    have ih := cmp_more r b
    rw [List.cons_append]
    unfold cmpL
    rw [if_neg (lt_irr x), if_neg (lt_irr x)]
    exact ih

/-! ### Under -/

/-- Are these the last parts of those? -/
def undB (T U : List (List UInt8)) : Bool := decide (U.length ≤ T.length ∧ T.drop (T.length - U.length) = U)
theorem und_yes {T U : List (List UInt8)} (h : undB T U = true) : U.length ≤ T.length ∧ T.drop (T.length - U.length) = U := of_decide_eq_true h
theorem und_app (X U : List (List UInt8)) : undB (X ++ U) U = true := by
  unfold undB
  rw [List.length_append]
  refine decide_eq_true ⟨by omega, ?_⟩
  rw [show X.length + U.length - U.length = X.length by omega, List.drop_left]
theorem und_take {T U : List (List UInt8)} (h : undB T U = true) : T.take (T.length - U.length) ++ U = T := by
  obtain ⟨_, h2⟩ := und_yes h
  conv => lhs; rhs; rw [← h2]
  exact List.take_append_drop _ _
theorem und_self (T : List (List UInt8)) : undB T T = true := und_app [] T
theorem und_eq {T U : List (List UInt8)} (h : undB T U = true) (k : undB U T = true) : T = U := by
  have h1 := (und_yes h).1
  have h2 := (und_yes k).1
  have h3 := (und_yes h).2
  rw [show T.length - U.length = 0 by omega, List.drop_zero] at h3
  exact h3
theorem und_cmp {T U : List (List UInt8)} (h : undB T U = true) : 0 ≤ cmpL T.reverse U.reverse := by
  have := und_take h
  rw [← this, List.reverse_append]
  exact cmp_more _ _

end Go.Proofs.YtmidjagjgipabaaGreatDoor
