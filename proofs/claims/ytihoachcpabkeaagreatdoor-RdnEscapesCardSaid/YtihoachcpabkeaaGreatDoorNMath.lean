/-
  Parts of names as lists of bytes: how a value is written and read, how a text is cut at a byte: of no program. By an AI agent.
-/
import Derived.Lib.Strings
namespace Go.Proofs.YtihoachcpabkeaaGreatDoor

/-- A byte that is written with a stroke ahead. -/
def isSpec (c : UInt8) : Bool := c == 44 || c == 43 || c == 34 || c == 92 || c == 60 || c == 62 || c == 59
/-- A byte that may stand behind a stroke. -/
def isBehind (c : UInt8) : Bool := isSpec c || c == 35 || c == 61 || c == 32

/-- A hexadecimal digit, and its value. -/
def hexD (k : Nat) : UInt8 := if k < 10 then UInt8.ofNat (48 + k) else UInt8.ofNat (87 + k)
def hexV (c : UInt8) : Option Nat :=
  if 48 ≤ c.toNat ∧ c.toNat ≤ 57 then some (c.toNat - 48)
  else if 97 ≤ c.toNat ∧ c.toNat ≤ 102 then some (c.toNat - 87)
  else if 65 ≤ c.toNat ∧ c.toNat ≤ 70 then some (c.toNat - 55)
  else none

/-- A byte as it is written. -/
def esc (first last : Bool) (c : UInt8) : List UInt8 :=
  if isSpec c || (first && (c == 32 || c == 35)) || (last && c == 32) then [92, c]
  else if c.toNat < 32 ∨ 126 < c.toNat then [92, hexD (c.toNat / 16), hexD (c.toNat % 16)]
  else [c]
def wrFrom (first : Bool) : List UInt8 → List UInt8
  | [] => []
  | c :: r => esc first r.isEmpty c ++ wrFrom false r
/-- A value as it is written. -/
def wrV (l : List UInt8) : List UInt8 := wrFrom true l

/-- A value as it was written; 'none': it is none's. -/
def rdFrom (first : Bool) : List UInt8 → Option (List UInt8)
  | [] => some []
  | c :: r =>
    if c = 92 then
      match r with
      | [] => none
      | d :: r' =>
        if isBehind d then (rdFrom false r').map (d :: ·)
        else match r' with
          | [] => none
          | e :: r'' => match hexV d, hexV e with
            | some a, some b => (rdFrom false r'').map (UInt8.ofNat (16 * a + b) :: ·)
            | _, _ => none
    else if isSpec c || c == 0 || (c == 32 && (first || r.isEmpty)) || (c == 35 && first) then none
    else (rdFrom false r).map (c :: ·)
def rd (l : List UInt8) : Option (List UInt8) := rdFrom true l

theorem u8e {a b : UInt8} (h : a.toNat = b.toNat) : a = b := UInt8.toNat_inj.1 h

theorem hexD_fin : ∀ k : Fin 16, hexV (hexD k.val) = some k.val ∧ isBehind (hexD k.val) = false ∧ hexD k.val ≠ 92 := by decide +kernel
theorem hexV_D (k : Nat) (h : k < 16) : hexV (hexD k) = some k := (hexD_fin ⟨k, h⟩).1
theorem behind_D (k : Nat) (h : k < 16) : isBehind (hexD k) = false := (hexD_fin ⟨k, h⟩).2.1

theorem rd_pair (first : Bool) (d : UInt8) (r : List UInt8) (h : isBehind d = true) : rdFrom first (92 :: d :: r) = (rdFrom false r).map (d :: ·) := by
  rw [rdFrom.eq_def]; simp only [h, if_true]
theorem rd_hex (first : Bool) (d e : UInt8) (a b : Nat) (r : List UInt8) (h : isBehind d = false) (hd : hexV d = some a) (he : hexV e = some b) : rdFrom first (92 :: d :: e :: r) = (rdFrom false r).map (UInt8.ofNat (16 * a + b) :: ·) := by
  rw [rdFrom.eq_def]; simp [h, hd, he]
theorem rd_one (first : Bool) (c : UInt8) (r : List UInt8) (h : c ≠ 92) (hn : (isSpec c || c == 0 || (c == 32 && (first || r.isEmpty)) || (c == 35 && first)) = false) : rdFrom first (c :: r) = (rdFrom false r).map (c :: ·) := by
  rw [rdFrom.eq_def]; simp only [if_neg h, hn]; rfl

theorem wr_empty (first : Bool) (l : List UInt8) : (wrFrom first l).isEmpty = l.isEmpty := by
  cases l with
  | nil => rfl
  | cons c r =>
    unfold wrFrom esc
    split
    · rfl
    · split <;> rfl

theorem rd_wrFrom : ∀ (l : List UInt8) (first : Bool), rdFrom first (wrFrom first l) = some l
  | [], _ => rfl
  | c :: r, first => by
    have ih := rd_wrFrom r false
    have he := wr_empty false r
    unfold wrFrom esc
    split
    · rename_i h
      have hb : isBehind c = true := by
        unfold isBehind
        simp only [Bool.or_eq_true, Bool.and_eq_true] at h ⊢
        rcases h with (h | ⟨_, h | h⟩) | ⟨_, h⟩
        · exact Or.inl (Or.inl (Or.inl h))
        · exact Or.inr h
        · exact Or.inl (Or.inl (Or.inr h))
        · exact Or.inr h
      rw [List.cons_append, List.cons_append, List.nil_append, rd_pair _ _ _ hb, ih]; rfl
    · rename_i h
      split
      · have hlt := c.toNat_lt
        have h1 : c.toNat / 16 < 16 := by omega
        have h2 : c.toNat % 16 < 16 := by omega
        have e : UInt8.ofNat (16 * (c.toNat / 16) + c.toNat % 16) = c := by
          apply u8e
          rw [UInt8.toNat_ofNat']
          omega
        rw [List.cons_append, List.cons_append, List.cons_append, List.nil_append, rd_hex _ _ _ _ _ _ (behind_D _ h1) (hexV_D _ h1) (hexV_D _ h2), ih, e]; rfl
      · rename_i hc
        have h0 : c ≠ 0 := by rintro rfl; exact hc (Or.inl (by decide))
        have h92 : c ≠ 92 := by rintro rfl; exact h (by simp [isSpec])
        simp only [Bool.or_eq_true, Bool.and_eq_true, not_or, not_and, beq_iff_eq] at h
        obtain ⟨⟨hs, hf⟩, hl⟩ := h
        have hno : (isSpec c || c == 0 || (c == 32 && (first || (wrFrom false r).isEmpty)) || (c == 35 && first)) = false := by
          rw [he]
          cases hsp : isSpec c with
          | true => exact absurd hsp hs
          | false =>
            cases first with
            | true =>
              have := hf rfl
              simp [h0, this.1, this.2]
            | false =>
              cases hr : r.isEmpty with
              | true =>
                have := hl hr
                simp [h0, this]
              | false => simp [h0]
        rw [List.singleton_append, rd_one _ _ _ h92 hno, ih]; rfl

/-- What was written is read as it was. -/
theorem rd_wr (l : List UInt8) : rd (wrV l) = some l := rd_wrFrom l true

/-- A text cut at a byte: the first piece, and the others. -/
def cutA (sep : UInt8) : List UInt8 → List UInt8 × List (List UInt8)
  | [] => ([], [])
  | c :: r =>
    if c = 92 then
      match r with
      | [] => ([92], [])
      | d :: r' => (92 :: d :: (cutA sep r').1, (cutA sep r').2)
    else if c = sep then ([], (cutA sep r).1 :: (cutA sep r).2)
    else (c :: (cutA sep r).1, (cutA sep r).2)
def cuts (sep : UInt8) (l : List UInt8) : List (List UInt8) := (cutA sep l).1 :: (cutA sep l).2

theorem cutA_pair (sep d : UInt8) (r : List UInt8) : cutA sep (92 :: d :: r) = (92 :: d :: (cutA sep r).1, (cutA sep r).2) := by
  rw [cutA.eq_def]; simp only [if_true]
theorem cutA_one {sep c : UInt8} (r : List UInt8) (h : c ≠ 92) (hs : c ≠ sep) : cutA sep (c :: r) = (c :: (cutA sep r).1, (cutA sep r).2) := by
  rw [cutA.eq_def]; simp only [if_neg h, if_neg hs]
theorem cutA_sep {sep : UInt8} (r : List UInt8) (h : sep ≠ 92) : cutA sep (sep :: r) = ([], (cutA sep r).1 :: (cutA sep r).2) := by
  rw [cutA.eq_def]; simp only [if_neg h, if_true]

/-- A text in which the byte stands only behind strokes, and that ends in none. -/
inductive Whole (sep : UInt8) : List UInt8 → Prop where
  | nil : Whole sep []
  | pair {d : UInt8} {r : List UInt8} (h : Whole sep r) : Whole sep (92 :: d :: r)
  | one {c : UInt8} {r : List UInt8} (h92 : c ≠ 92) (hs : c ≠ sep) (h : Whole sep r) : Whole sep (c :: r)

theorem Whole.app {sep : UInt8} {a b : List UInt8} (ha : Whole sep a) (hb : Whole sep b) : Whole sep (a ++ b) := by
  induction ha with
  | nil => exact hb
  | pair _ ih => exact .pair ih
  | one h1 h2 _ ih => exact .one h1 h2 ih

theorem cut_whole {sep : UInt8} {a : List UInt8} (ha : Whole sep a) (b : List UInt8) : cutA sep (a ++ b) = (a ++ (cutA sep b).1, (cutA sep b).2) := by
  induction ha with
  | nil => rfl
  | pair _ ih => rw [List.cons_append, List.cons_append, cutA_pair, ih]; rfl
  | one h1 h2 _ ih => rw [List.cons_append, cutA_one _ h1 h2, ih]; rfl

theorem cut_end {sep : UInt8} {a : List UInt8} (ha : Whole sep a) : cuts sep a = [a] := by
  have := cut_whole ha []
  simp only [List.append_nil] at this
  simp [cuts, this, cutA]

theorem cut_sep {sep : UInt8} (h92 : sep ≠ 92) {a : List UInt8} (ha : Whole sep a) (b : List UInt8) : cuts sep (a ++ sep :: b) = a :: cuts sep b := by
  have := cut_whole ha (sep :: b)
  rw [cuts, this, cutA_sep _ h92]; simp [cuts]

theorem wr_wholeFrom (sep : UInt8) (hs : isSpec sep = true) : ∀ (l : List UInt8) (first : Bool), Whole sep (wrFrom first l)
  | [], _ => .nil
  | c :: r, first => by
    have ih := wr_wholeFrom sep hs r false
    unfold wrFrom esc
    split
    · exact .pair ih
    · rename_i h
      split
      · have hlt := c.toNat_lt
        have hd : hexD (c.toNat % 16) ≠ 92 := (hexD_fin ⟨c.toNat % 16, by omega⟩).2.2
        have hd2 : hexD (c.toNat % 16) ≠ sep := by
          intro e
          have := behind_D (c.toNat % 16) (by omega)
          rw [e] at this
          unfold isBehind at this
          rw [hs] at this
          simp at this
        exact .pair (.one hd hd2 ih)
      · have hsc : isSpec c = false := by
          cases hc : isSpec c with
          | false => rfl
          | true => exact absurd (by simp [hc]) h
        refine .one (by rintro rfl; simp [isSpec] at hsc) (by rintro rfl; rw [hs] at hsc; cases hsc) ih

/-- A value as it is written is one piece, at a comma as at a plus. -/
theorem wr_whole (sep : UInt8) (hs : isSpec sep = true) (l : List UInt8) : Whole sep (wrV l) := wr_wholeFrom sep hs l true

/-- What is written is printable. -/
theorem wr_print : ∀ (l : List UInt8) (first : Bool), ∀ c ∈ wrFrom first l, 32 ≤ c.toNat ∧ c.toNat ≤ 126
  | [], _, c, h => by cases h
  | x :: r, first, c, h => by
    have ih := wr_print r false
    unfold wrFrom at h
    rcases List.mem_append.1 h with h | h
    · unfold esc at h
      have hx : ∀ k : Fin 16, 32 ≤ (hexD k.val).toNat ∧ (hexD k.val).toNat ≤ 126 := by decide +kernel
      have hlt := x.toNat_lt
      split at h
      · rename_i hs
        rcases List.mem_cons.1 h with rfl | h
        · decide
        · obtain rfl := List.mem_singleton.1 h
          simp only [isSpec, Bool.or_eq_true, Bool.and_eq_true, beq_iff_eq] at hs
          rcases hs with (((((((h | h) | h) | h) | h) | h) | h) | ⟨_, h | h⟩) | ⟨_, h⟩ <;> subst h <;> decide
      · split at h
        · rcases List.mem_cons.1 h with rfl | h
          · decide
          · rcases List.mem_cons.1 h with rfl | h
            · exact hx ⟨x.toNat / 16, by omega⟩
            · obtain rfl := List.mem_singleton.1 h
              exact hx ⟨x.toNat % 16, by omega⟩
        · rename_i hc
          obtain rfl := List.mem_singleton.1 h
          omega
    · exact ih c h

end Go.Proofs.YtihoachcpabkeaaGreatDoor
