/-
  What List answers; and the memory that its loop holds: the tags, the contents, and each content's bytes.
-/
import Derived.Test.YtjannmoijoakcaaBerBack
namespace Go.Proofs.Ytjannmoijoakcaa.Ber
open Go.RowKit

/-- The fields of bytes, told from the left: what has been gathered, and what is left. -/
def listGo : Nat → List UInt8 → List (List UInt8) → List UInt8 → List UInt8 × List (List UInt8) × Int
  | 0, T, L, _ => (T, L, 0)
  | f + 1, T, L, rem => if rem = [] then (T, L, 0) else if (takeOf rem).2.2.2 ≠ 0 then ([], [], (takeOf rem).2.2.2) else
      listGo f (T ++ [UInt8.ofNat (takeOf rem).1]) (L ++ [(takeOf rem).2.1]) (takeOf rem).2.2.1

theorem listGo_nil (f : Nat) (T : List UInt8) (L : List (List UInt8)) : listGo f T L [] = (T, L, 0) := by
  cases f with
  | zero => rfl
  | succ f => rw [listGo, if_pos rfl]

theorem takeOf_less (l : List UInt8) (h : l ≠ []) : (takeOf l).2.2.1.length < l.length ∧ (takeOf l).1 < 256 := by
  cases l with
  | nil => exact absurd rfl h
  | cons t r =>
    have := cutRest_le r
    have ht := t.toNat_lt
    rw [takeOf, List.length_cons]
    split
    · simp
    · split
      · simp
      · split
        · simp
        · simp only [List.length_drop]
          omega

/-- What A leads to, if anything, is nowhere in what v owns. -/
def Off (v : Value) (A : Option Addr) (ys : List UInt8) : Prop := ys = [] ∨ ∀ ad, A = some ad → some ad.block ≠ v.ownBlock

theorem Off.nil (A : Option Addr) (ys : List UInt8) : Off (.slice none 0 0) A ys := .inr fun ad _ => by simp [Value.ownBlock]

/-- What lies below B is nowhere in what is owned from B on. -/
theorem Off.low {w w' : World} {B base : Nat} {e : TypeId} {v : Value} {n m : Nat} {us : List Value} {A : Option Addr} {l : List UInt8} (h : Has w B 1 A m (bys l)) (ho : w'.ownsRow base e 1 v n us) (hB : B ≤ base) : Off v A l := by
  rcases h.2 with h0 | ⟨ad, e1, hb, _⟩
  · exact .inl (by simpa [bys] using h0)
  · refine .inr fun ad' e2 => ?_
    rw [e1] at e2
    injection e2 with e2
    subst e2
    intro e3
    have := (ho.lt _ e3.symm).1
    omega

/-- What is owned from B on is nowhere in what was owned before. -/
theorem Off.new {w w' : World} {B base : Nat} {e e' : TypeId} {v : Value} {n m c : Nat} {us : List Value} {A : Option Addr} {l : List UInt8} (h : w'.ownsRow B e' 1 (.slice A m c) m (bys l)) (ho : w.ownsRow base e 1 v n us) (hB : w.heap.size ≤ B) : Off v A l := by
  rcases Nat.eq_zero_or_pos m with h0 | h0
  · left
    have := h.1
    rw [h0] at this
    simpa [bys] using this
  · refine .inr fun ad e1 => ?_
    subst e1
    intro e2
    have h1 := (h.lt ad.block rfl).1
    have h2 := (ho.lt _ e2.symm).2
    omega

structure Kept (w : World) (base : Nat) (tv cv : Value) (T : List UInt8) (xs : List Value) (L : List (List UInt8)) : Prop where
  tags : w.ownsRow base 5 1 tv T.length (bys T)
  outer : w.ownsRow base 22 1 cv L.length xs
  apart : tv.ownBlock = none ∨ tv.ownBlock ≠ cv.ownBlock
  els : ∀ (i : Nat) (l : List UInt8), L[i]? = some l → ∃ A c, xs[i]? = some (Value.slice A l.length c) ∧ Has w w.heap.size 1 A l.length (bys l) ∧ Off tv A l ∧ Off cv A l

theorem Has.grown {w w' : World} {B n : Nat} {A : Option Addr} {l : List UInt8} {v : Value} (h : Has w B 1 A n (bys l)) (hB : B ≤ w.heap.size) (hg : w.grownBy w' v.ownBlock) (ho : Off v A l) : Has w' B 1 A n (bys l) := by
  refine ⟨h.1, ?_⟩
  rcases ho with rfl | ho
  · exact .inl rfl
  · refine h.2.imp id ?_
    rintro ⟨ad, e, hb, hc⟩
    refine ⟨ad, e, hb, fun j u hu => ?_⟩
    rw [World.cell?_of_block (w := w) (hg.block _ (by rw [block_add]; omega) (by rw [block_add]; exact ho ad e))]
    exact hc j u hu

theorem Off.next {w : World} {A : Option Addr} {n : Nat} {l : List UInt8} {v v' : Value} (h : Off v A l) (hH : Has w w.heap.size 1 A n (bys l)) (ht : v'.ownBlock = v.ownBlock ∨ v'.ownBlock = some w.heap.size) : Off v' A l := by
  rcases h with h | h
  · exact .inl h
  · rcases hH.2 with h0 | ⟨ad', e', hb, _⟩
    · exact .inl (by simpa [bys] using h0)
    · refine .inr fun ad e => ?_
      rcases ht with e1 | e1
      · rw [e1]
        exact h ad e
      · rw [e1]
        rw [e] at e'
        injection e' with e'
        subst e'
        intro e2
        injection e2 with e2
        omega

section
variable {w w' : World} {base : Nat} {tv cv tv' cv' : Value} {T : List UInt8} {xs : List Value} {L : List (List UInt8)}

theorem Kept.start (w : World) (base : Nat) : Kept w base (.slice none 0 0) (.slice none 0 0) [] [] [] :=
  ⟨World.ownsRow_nil _ _ _ _, World.ownsRow_nil _ _ _ _, .inl rfl, fun i l h => by simp at h⟩

theorem Kept.below (h : Kept w base tv cv T xs L) (hb : Below w.heap.size w w') : Kept w' base tv cv T xs L :=
  ⟨own_below h.tags hb, own_below h.outer hb, h.apart, fun i l hl => by
    obtain ⟨A, c, e, hH, o1, o2⟩ := h.els i l hl
    exact ⟨A, c, e, (hH.below hb).upto hb.size, o1, o2⟩⟩

/-- A tag more. -/
theorem Kept.tag (h : Kept w base tv cv T xs L) (t : UInt8) (ho : w'.ownsRow base 5 1 tv' (T.length + 1) (bys (T ++ [t]))) (hg : w.grownBy w' tv.ownBlock) (ht : tv'.ownBlock = tv.ownBlock ∨ tv'.ownBlock = some w.heap.size) :
    Kept w' base tv' cv (T ++ [t]) xs L := by
  refine ⟨by simpa using ho, h.outer.kept hg ?_, ?_, fun i l hl => ?_⟩
  · rcases h.apart with e | e
    · cases hc : cv.ownBlock with
      | none => exact .inl rfl
      | some g => exact .inr (by rw [e]; simp)
    · exact .inr fun e2 => e e2.symm
  · rcases ht with e | e
    · rw [e]
      exact h.apart
    · right
      rw [e]
      intro e2
      have := (h.outer.lt _ e2.symm).2
      omega
  · obtain ⟨A, c, e, hH, o1, o2⟩ := h.els i l hl
    exact ⟨A, c, e, (Has.grown hH (Nat.le_refl _) hg o1).upto hg.size, o1.next hH ht, o2⟩

/-- A content more. -/
theorem Kept.con (h : Kept w base tv cv T xs L) (A : Option Addr) (c : Nat) (l : List UInt8) (hH : Has w w.heap.size 1 A l.length (bys l)) (o1 : Off tv A l) (o2 : Off cv A l)
    (ho : w'.ownsRow base 22 1 cv' (L.length + 1) (xs ++ [Value.slice A l.length c])) (hg : w.grownBy w' cv.ownBlock) (ht : cv'.ownBlock = cv.ownBlock ∨ cv'.ownBlock = some w.heap.size) :
    Kept w' base tv cv' T (xs ++ [Value.slice A l.length c]) (L ++ [l]) := by
  have hx : xs.length = L.length := by simpa using h.outer.1
  refine ⟨h.tags.kept hg h.apart, by simpa using ho, ?_, fun i m hm => ?_⟩
  · rcases h.apart with e | e
    · exact .inl e
    · rcases ht with e1 | e1
      · rw [e1]
        exact .inr e
      · right
        rw [e1]
        intro e2
        have := (h.tags.lt _ e2).2
        omega
  · rcases Nat.lt_or_ge i L.length with hi | hi
    · rw [List.getElem?_append_left hi] at hm
      obtain ⟨A', c', e, hH', q1, q2⟩ := h.els i m hm
      exact ⟨A', c', by rw [List.getElem?_append_left (by omega)]; exact e, (Has.grown hH' (Nat.le_refl _) hg q2).upto hg.size, q1, q2.next hH' ht⟩
    · rw [List.getElem?_append_right hi] at hm
      have hi0 : i - L.length = 0 := by
        rcases Nat.eq_zero_or_pos (i - L.length) with h0 | h0
        · exact h0
        · rw [List.getElem?_eq_none (by simp; omega)] at hm
          cases hm
      rw [hi0] at hm
      simp only [List.getElem?_cons_zero, Option.some.injEq] at hm
      subst hm
      refine ⟨A, c, ?_, (Has.grown hH (Nat.le_refl _) hg o2).upto hg.size, o1, o2.next hH ht⟩
      rw [List.getElem?_append_right (by omega), show i - xs.length = 0 by omega]
      rfl

end

theorem info22 : (Try.prog.info? 22).map (fun i => (i.zero, i.size, i.bytes)) = some (some (.slice none 0 0), 1, 24) := by kernel_rfl

theorem app8g {ops : Array Oper} {rest : List Oper} {o : Oper} {a : Act} {Q : Exit → Act → World → Prop} (W : World) (hgd : o.guard = none) (s x : Operand)
    (ho : o.op = .call { callee := .builtin .append, args := #[s, x], argTypes := #[22, 22] })
    (base : Nat) (v : Value) (n : Nat) (xs : List UInt8) (hs : a.eval s = v) (hown : W.ownsRow base 5 1 v n (bys xs))
    (B : Nat) (A : Option Addr) (m c : Nat) (l : List UInt8) (hx : a.eval x = .slice A m c) (hr : Has W B 1 A m (bys l))
    (hb : n + m ≤ 140737488355328) (hbase : base ≤ W.heap.size)
    (h : ∀ v' w', w'.ownsRow base 5 1 v' (n + m) (bys (xs ++ l)) → (v'.ownBlock = v.ownBlock ∨ v'.ownBlock = some W.heap.size) → W.grownBy w' v.ownBlock → wpList Try.prog ops Q rest (a.put o.dst v') w') :
    wpList Try.prog ops Q (o :: rest) a W := by
  obtain ⟨i0, hi, hz0, hz1, hz2⟩ := info_parts info8
  refine wpList_app W hgd s x 22 ho base 5 i0 _ 1 1 Try.underlying22 hi hz0 hz1 hz2 rfl (by omega) v n (bys xs) hs hown B A m c (bys l) hx hr (bys_one _) (by unfold maxLen; omega) (by omega) hbase ?_
  intro v' w' h1 h2 h3
  rw [← bys_append] at h1
  exact h v' w' h1 h3 h2

theorem app22 {ops : Array Oper} {rest : List Oper} {o : Oper} {a : Act} {Q : Exit → Act → World → Prop} (W : World) (hgd : o.guard = none) (s x : Operand)
    (ho : o.op = .call { callee := .builtin .append, args := #[s, x], argTypes := #[42, 42] })
    (base : Nat) (v : Value) (n : Nat) (xs : List Value) (hs : a.eval s = v) (hown : W.ownsRow base 22 1 v n xs)
    (B : Nat) (A : Option Addr) (m c : Nat) (l : List Value) (hx : a.eval x = .slice A m c) (hr : Has W B 1 A m l) (h1 : ∀ u ∈ l, u.oneCell' = true)
    (hb : n + m ≤ 4000000000000) (hbase : base ≤ W.heap.size)
    (h : ∀ v' w', w'.ownsRow base 22 1 v' (n + m) (xs ++ l) → (v'.ownBlock = v.ownBlock ∨ v'.ownBlock = some W.heap.size) → W.grownBy w' v.ownBlock → wpList Try.prog ops Q rest (a.put o.dst v') w') :
    wpList Try.prog ops Q (o :: rest) a W := by
  obtain ⟨i0, hi, hz0, hz1, hz2⟩ := info_parts info22
  refine wpList_app W hgd s x 42 ho base 22 i0 _ 1 24 Try.underlying42 hi hz0 hz1 hz2 rfl (by omega) v n xs hs hown B A m c l hx hr h1 (by unfold maxLen; omega) (by omega) hbase ?_
  intro v' w' h1 h2 h3
  exact h v' w' h1 h3 h2

end Go.Proofs.Ytjannmoijoakcaa.Ber
