/-
  Fields that are laid one behind the other, told as bytes; three rows of the call's own that lie apart.
-/
import Derived.Test.YtjannmoijoakcaaBerSame
namespace Go.Proofs.Ytjannmoijoakcaa.Ber
open Go.RowKit

/-- The fields of tags and contents, one behind the other, as far as both go and no tag is none. -/
def fieldsOf : List UInt8 → List (List UInt8) → List UInt8
  | t :: ts, c :: cs => fieldOf t c ++ fieldsOf ts cs
  | _, _ => []

theorem fieldsOf_snoc (t : UInt8) (c : List UInt8) : ∀ (T : List UInt8) (L : List (List UInt8)), T.length = L.length → fieldsOf (T ++ [t]) (L ++ [c]) = fieldsOf T L ++ fieldOf t c
  | [], [], _ => by simp [fieldsOf]
  | [], _ :: _, h => by simp at h
  | _ :: _, [], h => by simp at h
  | a :: T, b :: L, h => by
    simp only [List.cons_append, fieldsOf]
    rw [fieldsOf_snoc t c T L (by simpa using h), List.append_assoc]

theorem fieldOf_byte (t : UInt8) (c : List UInt8) (m : List UInt8) : fieldOf t c ++ m ≠ [] := by simp [fieldOf]

theorem listGo_fields : ∀ (T : List UInt8) (L : List (List UInt8)) (f : Nat) (T0 : List UInt8) (L0 : List (List UInt8)), T.length = L.length → (∀ t ∈ T, t.toNat % 32 ≠ 31) → (∀ c ∈ L, c.length ≤ 2147483647) → T.length ≤ f →
    listGo f T0 L0 (fieldsOf T L) = (T0 ++ T, L0 ++ L, 0)
  | [], [], f, T0, L0, _, _, _, _ => by simp [fieldsOf, listGo_nil]
  | [], _ :: _, _, _, _, h, _, _, _ => by simp at h
  | _ :: _, [], _, _, _, h, _, _, _ => by simp at h
  | a :: T, b :: L, f, T0, L0, h, ht, hc, hf => by
    obtain ⟨f, rfl⟩ : ∃ g, f = g + 1 := ⟨f - 1, by simp at hf; omega⟩
    have hk := takeOf_field a b (fieldsOf T L) (hc b (by simp))
    rw [if_neg (ht a (by simp))] at hk
    rw [fieldsOf, listGo, if_neg (fieldOf_byte _ _ _), hk, if_neg (by simp)]
    simp only
    rw [listGo_fields T L f _ _ (by simpa using h) (fun t h1 => ht t (by simp [h1])) (fun c h1 => hc c (by simp [h1])) (by simp at hf; omega)]
    simp

def total (L : List (List UInt8)) : Nat := (L.map List.length).sum

theorem total_snoc (L : List (List UInt8)) (c : List UInt8) : total (L ++ [c]) = total L + c.length := by simp [total]
theorem total_take (L : List (List UInt8)) (k : Nat) : total (L.take k) ≤ total L := by
  induction L generalizing k with
  | nil => simp [total]
  | cons a L ih =>
    cases k with
    | zero => simp [total]
    | succ k =>
      have := ih k
      simp only [total, List.take_succ_cons, List.map_cons, List.sum_cons] at this ⊢
      omega
theorem total_mem {L : List (List UInt8)} {c : List UInt8} (h : c ∈ L) : c.length ≤ total L := by
  induction L with
  | nil => cases h
  | cons a L ih =>
    simp only [total, List.map_cons, List.sum_cons] at ih ⊢
    rcases List.mem_cons.1 h with rfl | h
    · omega
    · have := ih h
      omega

theorem fieldsOf_le : ∀ (T : List UInt8) (L : List (List UInt8)), T.length = L.length → (fieldsOf T L).length ≤ 6 * T.length + total L
  | [], [], _ => by simp [fieldsOf]
  | [], _ :: _, h => by simp at h
  | _ :: _, [], h => by simp at h
  | a :: T, b :: L, h => by
    have h1 := fieldsOf_le T L (by simpa using h)
    have h2 := fieldOf_length a b
    have h3 := lenOf_le (b.length : Int)
    have h4 : total (b :: L) = b.length + total L := by simp [total]
    rw [fieldsOf, List.length_append, List.length_cons]
    omega

theorem fieldsOf_ge : ∀ (T : List UInt8) (L : List (List UInt8)), T.length = L.length → T.length ≤ (fieldsOf T L).length
  | [], [], _ => by simp [fieldsOf]
  | [], _ :: _, h => by simp at h
  | _ :: _, [], h => by simp at h
  | a :: T, b :: L, h => by
    have h1 := fieldsOf_ge T L (by simpa using h)
    have h2 := fieldOf_length a b
    rw [fieldsOf, List.length_append, List.length_cons]
    omega

/-- u and v own nothing together. -/
def Dis (u v : Value) : Prop := u.ownBlock = none ∨ u.ownBlock ≠ v.ownBlock

theorem Dis.keep {u v : Value} (h : Dis u v) : v.ownBlock = none ∨ v.ownBlock ≠ u.ownBlock := by
  rcases h with e | e
  · cases hv : v.ownBlock with
    | none => exact .inl rfl
    | some g => exact .inr (by rw [e]; simp)
  · exact .inr fun e2 => e e2.symm

theorem Dis.next {w : World} {base : Nat} {e : TypeId} {n : Nat} {us : List Value} {u v v' : Value} (h : Dis u v) (ho : w.ownsRow base e 1 u n us) (ht : v'.ownBlock = v.ownBlock ∨ v'.ownBlock = some w.heap.size) : Dis u v' := by
  rcases h with e1 | e1
  · exact .inl e1
  · right
    rcases ht with e2 | e2
    · rw [e2]; exact e1
    · rw [e2]
      intro e3
      have := (ho.lt _ e3).2
      omega

theorem Dis.first {w : World} {base : Nat} {e : TypeId} {n : Nat} {us : List Value} {u v u' : Value} (h : Dis u v) (ho : w.ownsRow base e 1 v n us) (ht : u'.ownBlock = u.ownBlock ∨ u'.ownBlock = some w.heap.size) : Dis u' v := by
  rcases ht with e2 | e2
  · rcases h with e1 | e1
    · exact .inl (by rw [e2]; exact e1)
    · exact .inr (by rw [e2]; exact e1)
  · right
    rw [e2]
    intro e3
    have := (ho.lt _ e3.symm).2
    omega

structure Three (w : World) (base : Nat) (av tv cv : Value) (F T : List UInt8) (xs : List Value) : Prop where
  all : w.ownsRow base 5 1 av F.length (bys F)
  tags : w.ownsRow base 5 1 tv T.length (bys T)
  outer : w.ownsRow base 22 1 cv xs.length xs
  d1 : Dis av tv
  d2 : Dis av cv
  d3 : Dis tv cv

section
variable {w w' : World} {base : Nat} {av tv cv av' tv' cv' : Value} {F T : List UInt8} {xs : List Value}

theorem Three.start (w : World) (base : Nat) : Three w base (.slice none 0 0) (.slice none 0 0) (.slice none 0 0) [] [] [] :=
  ⟨World.ownsRow_nil _ _ _ _, World.ownsRow_nil _ _ _ _, World.ownsRow_nil _ _ _ _, .inl rfl, .inl rfl, .inl rfl⟩

theorem Three.below (h : Three w base av tv cv F T xs) (hb : Below w.heap.size w w') : Three w' base av tv cv F T xs :=
  ⟨own_below h.all hb, own_below h.tags hb, own_below h.outer hb, h.d1, h.d2, h.d3⟩

theorem Three.more (h : Three w base av tv cv F T xs) (l : List UInt8) (ho : w'.ownsRow base 5 1 av' (F.length + l.length) (bys (F ++ l))) (ht : av'.ownBlock = av.ownBlock ∨ av'.ownBlock = some w.heap.size) (hg : w.grownBy w' av.ownBlock) :
    Three w' base av' tv cv (F ++ l) T xs :=
  ⟨by simpa using ho, h.tags.kept hg h.d1.keep, h.outer.kept hg h.d2.keep, h.d1.first h.tags ht, h.d2.first h.outer ht, h.d3⟩

theorem Three.tag (h : Three w base av tv cv F T xs) (t : UInt8) (ho : w'.ownsRow base 5 1 tv' (T.length + 1) (bys (T ++ [t]))) (ht : tv'.ownBlock = tv.ownBlock ∨ tv'.ownBlock = some w.heap.size) (hg : w.grownBy w' tv.ownBlock) :
    Three w' base av tv' cv F (T ++ [t]) xs :=
  ⟨h.all.kept hg h.d1, by simpa using ho, h.outer.kept hg h.d3.keep, h.d1.next h.all ht, h.d2, h.d3.first h.outer ht⟩

theorem Three.con (h : Three w base av tv cv F T xs) (x : Value) (ho : w'.ownsRow base 22 1 cv' (xs.length + 1) (xs ++ [x])) (ht : cv'.ownBlock = cv.ownBlock ∨ cv'.ownBlock = some w.heap.size) (hg : w.grownBy w' cv.ownBlock) :
    Three w' base av tv cv' F T (xs ++ [x]) :=
  ⟨h.all.kept hg h.d2, h.tags.kept hg h.d3, by simpa using ho, h.d1, h.d2.next h.all ht, h.d3.next h.tags ht⟩

end

theorem step22 {ops : Array Oper} {o : Oper} {a : Act} {K : Act → World → Prop} {Q : Exit → Act → World → Prop} {E : Prop} (W : World) (d : Option Tmp) (hd : o.dst = d) (hgd : o.guard = none) (s x : Operand)
    (ho : o.op = .call { callee := .builtin .append, args := #[s, x], argTypes := #[42, 42] })
    (base : Nat) (v : Value) (n : Nat) (xs : List Value) (hs : a.eval s = v) (hown : W.ownsRow base 22 1 v n xs)
    (B : Nat) (A : Option Addr) (m c : Nat) (l : List Value) (hx : a.eval x = .slice A m c) (hr : Has W B 1 A m l) (h1 : ∀ u ∈ l, u.oneCell' = true)
    (hb : n + m ≤ 4000000000000) (hbase : base ≤ W.heap.size)
    (h : ∀ v' w', w'.ownsRow base 22 1 v' (n + m) (xs ++ l) → Below base W w' → (v'.ownBlock = v.ownBlock ∨ v'.ownBlock = some W.heap.size) → W.grownBy w' v.ownBlock → K (a.put d v') w') :
    if Region.wanted o (yielded ops a.tmps) = true then Oper.wp Try.prog o a W K Q else E := by
  subst hd
  obtain ⟨i0, hi, hz0, hz1, hz2⟩ := info_parts info22
  refine step_app W hgd s x 42 ho base 22 i0 _ 1 24 Try.underlying42 hi hz0 hz1 hz2 rfl (by omega) v n xs hs hown B A m c l hx hr h1 (by unfold maxLen; omega) (by omega) hbase ?_
  intro v' w' h1 h2 h3
  exact h v' w' h1 (below_grown hown h2 hbase) h3 h2

end Go.Proofs.Ytjannmoijoakcaa.Ber
