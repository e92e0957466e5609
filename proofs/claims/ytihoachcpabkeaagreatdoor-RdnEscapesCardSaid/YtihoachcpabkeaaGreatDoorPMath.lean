/-
  How a value is read where a 0 byte is left to the value's form, and a part taken out of its text: of no program. By an AI agent.
-/
import Derived.Test.YtihoachcpabkeaaGreatDoorNPairs
namespace Go.Proofs.YtihoachcpabkeaaGreatDoor

/-- As 'rdFrom', but a 0 byte may stand. -/
def rqFrom (first : Bool) : List UInt8 → Option (List UInt8)
  | [] => some []
  | c :: r =>
    if c = 92 then
      match r with
      | [] => none
      | d :: r' =>
        if isBehind d then (rqFrom false r').map (d :: ·)
        else match r' with
          | [] => none
          | e :: r'' => match hexV d, hexV e with
            | some a, some b => (rqFrom false r'').map (UInt8.ofNat (16 * a + b) :: ·)
            | _, _ => none
    else if isSpec c || (c == 32 && (first || r.isEmpty)) || (c == 35 && first) then none
    else (rqFrom false r).map (c :: ·)

/-- A byte that ends the reading where it stands by itself. -/
def isBad (first last : Bool) (c : UInt8) : Bool := isSpec c || (c == 32 && (first || last)) || (c == 35 && first)

/-- How a text begins that is read: the four ways to go on, and the ways to end. -/
inductive Rway (first : Bool) (l : List UInt8) : Prop where
  | bad (c : UInt8) (r : List UInt8) (h : l = c :: r) (h92 : c ≠ 92) (hb : isBad first r.isEmpty c = true) (rd : rdFrom first l = none) (rq : rqFrom first l = none)
  | zero (r : List UInt8) (h : l = 0 :: r) (rd : rdFrom first l = none) (rq : rqFrom first l = (rqFrom false r).map (0 :: ·))
  | one (c : UInt8) (r : List UInt8) (h : l = c :: r) (h92 : c ≠ 92) (h0 : c ≠ 0) (hb : isBad first r.isEmpty c = false) (rd : rdFrom first l = (rdFrom false r).map (c :: ·)) (rq : rqFrom first l = (rqFrom false r).map (c :: ·))
  | stop (h : l = [92]) (rd : rdFrom first l = none) (rq : rqFrom first l = none)
  | pair (d : UInt8) (r : List UInt8) (h : l = 92 :: d :: r) (hd : isBehind d = true) (rd : rdFrom first l = (rdFrom false r).map (d :: ·)) (rq : rqFrom first l = (rqFrom false r).map (d :: ·))
  | half (d : UInt8) (h : l = [92, d]) (hd : isBehind d = false) (rd : rdFrom first l = none) (rq : rqFrom first l = none)
  | hex (d e : UInt8) (a b : Nat) (r : List UInt8) (h : l = 92 :: d :: e :: r) (hd : isBehind d = false) (ha : hexV d = some a) (hb : hexV e = some b) (rd : rdFrom first l = (rdFrom false r).map (UInt8.ofNat (16 * a + b) :: ·)) (rq : rqFrom first l = (rqFrom false r).map (UInt8.ofNat (16 * a + b) :: ·))
  | nohex (d e : UInt8) (r : List UInt8) (h : l = 92 :: d :: e :: r) (hd : isBehind d = false) (hn : hexV d = none ∨ hexV e = none) (rd : rdFrom first l = none) (rq : rqFrom first l = none)

theorem rway (first : Bool) (l : List UInt8) (hl : l ≠ []) : Rway first l := by
  cases l with
  | nil => exact absurd rfl hl
  | cons c r =>
    by_cases h92 : c = 92
    · subst h92
      cases r with
      | nil => exact .stop rfl (by rw [rdFrom.eq_def]; rfl) (by rw [rqFrom.eq_def]; rfl)
      | cons d r =>
        cases hd : isBehind d with
        | true => exact .pair d r rfl hd (by rw [rdFrom.eq_def]; simp [hd]) (by rw [rqFrom.eq_def]; simp [hd])
        | false =>
          cases r with
          | nil => exact .half d rfl hd (by rw [rdFrom.eq_def]; simp [hd]) (by rw [rqFrom.eq_def]; simp [hd])
          | cons e r =>
            cases ha : hexV d with
            | none => exact .nohex d e r rfl hd (Or.inl ha) (by rw [rdFrom.eq_def]; simp [hd, ha]) (by rw [rqFrom.eq_def]; simp [hd, ha])
            | some a =>
              cases hb : hexV e with
              | none => exact .nohex d e r rfl hd (Or.inr hb) (by rw [rdFrom.eq_def]; simp [hd, ha, hb]) (by rw [rqFrom.eq_def]; simp [hd, ha, hb])
              | some b => exact .hex d e a b r rfl hd ha hb (by rw [rdFrom.eq_def]; simp [hd, ha, hb]) (by rw [rqFrom.eq_def]; simp [hd, ha, hb])
    · cases hb : isBad first r.isEmpty c with
      | true =>
        refine .bad c r rfl h92 hb ?_ ?_
        · rw [rdFrom.eq_def]
          have h : (isSpec c || c == 0 || (c == 32 && (first || r.isEmpty)) || (c == 35 && first)) = true := by
            unfold isBad at hb
            revert hb
            cases isSpec c <;> cases (c == 0) <;> simp
          simp only [if_neg h92, h, if_true]
        · rw [rqFrom.eq_def]
          unfold isBad at hb
          simp only [if_neg h92, hb, if_true]
      | false =>
        by_cases h0 : c = 0
        · subst h0
          refine .zero r rfl ?_ ?_
          · rw [rdFrom.eq_def]; simp [isSpec]
          · rw [rqFrom.eq_def]; simp [isSpec]
        · refine .one c r rfl h92 h0 hb ?_ ?_
          · have h : (isSpec c || c == 0 || (c == 32 && (first || r.isEmpty)) || (c == 35 && first)) = false := by
              unfold isBad at hb
              have : (c == 0) = false := by simpa using h0
              rw [this, Bool.or_false]; exact hb
            rw [rdFrom.eq_def]; simp only [if_neg h92, h]; rfl
          · unfold isBad at hb
            rw [rqFrom.eq_def]; simp only [if_neg h92, hb]; rfl

/-- The two readings are one, but for 0 bytes. -/
theorem rd_rq : ∀ (n : Nat) (l : List UInt8) (first : Bool), l.length ≤ n → (∀ v, rdFrom first l = some v → rqFrom first l = some v) ∧ (rdFrom first l = none → ∀ v, rqFrom first l = some v → 0 ∈ v)
  | 0, l, first, h => by
    obtain rfl := List.eq_nil_of_length_eq_zero (Nat.le_zero.1 h)
    exact ⟨fun v h => h, fun h => by simp [rdFrom] at h⟩
  | n + 1, l, first, h => by
    by_cases hl : l = []
    · subst hl
      exact ⟨fun v h => h, fun h => by simp [rdFrom] at h⟩
    · have step : ∀ (r : List UInt8) (x : UInt8), r.length ≤ n → rdFrom first l = (rdFrom false r).map (x :: ·) → rqFrom first l = (rqFrom false r).map (x :: ·) →
          (∀ v, rdFrom first l = some v → rqFrom first l = some v) ∧ (rdFrom first l = none → ∀ v, rqFrom first l = some v → 0 ∈ v) := by
        intro r x hr e1 e2
        obtain ⟨i1, i2⟩ := rd_rq n r false hr
        rw [e1, e2]
        constructor
        · intro v hv
          cases hq : rdFrom false r with
          | none => rw [hq] at hv; simp at hv
          | some u => rw [hq] at hv; rw [i1 u hq]; exact hv
        · intro hn v hv
          cases hq : rdFrom false r with
          | some u => rw [hq] at hn; simp at hn
          | none =>
            cases hw : rqFrom false r with
            | none => rw [hw] at hv; simp at hv
            | some u =>
              rw [hw] at hv
              simp only [Option.map_some, Option.some.injEq] at hv
              subst hv
              exact List.mem_cons_of_mem _ (i2 hq u hw)
      have fin : rdFrom first l = none → rqFrom first l = none → (∀ v, rdFrom first l = some v → rqFrom first l = some v) ∧ (rdFrom first l = none → ∀ v, rqFrom first l = some v → 0 ∈ v) := by
        intro e1 e2
        rw [e1, e2]
        exact ⟨fun v h => h, fun _ v h => by cases h⟩
      cases rway first l hl with
      | bad c r hh _ _ e1 e2 => exact fin e1 e2
      | zero r hh e1 e2 =>
        rw [e1, e2]
        refine ⟨fun v h => (by cases h), fun _ v hv => ?_⟩
        cases hw : rqFrom false r with
        | none => rw [hw] at hv; simp at hv
        | some u =>
          rw [hw] at hv
          simp only [Option.map_some, Option.some.injEq] at hv
          subst hv
          exact List.mem_cons_self
      | one c r hh _ _ _ e1 e2 => exact step r c (by rw [hh] at h; simpa using h) e1 e2
      | stop hh e1 e2 => exact fin e1 e2
      | pair d r hh _ e1 e2 => exact step r d (by rw [hh] at h; simp at h; omega) e1 e2
      | half d hh _ e1 e2 => exact fin e1 e2
      | hex d e a b r hh _ _ _ e1 e2 => exact step r _ (by rw [hh] at h; simp at h; omega) e1 e2
      | nohex d e r hh _ _ e1 e2 => exact fin e1 e2

theorem rq_of_rd {l v : List UInt8} {first : Bool} (h : rdFrom first l = some v) : rqFrom first l = some v := (rd_rq _ l first (Nat.le_refl _)).1 v h
theorem rq_zero {l v : List UInt8} {first : Bool} (h : rdFrom first l = none) (hv : rqFrom first l = some v) : 0 ∈ v := (rd_rq _ l first (Nat.le_refl _)).2 h v hv

end Go.Proofs.YtihoachcpabkeaaGreatDoor
