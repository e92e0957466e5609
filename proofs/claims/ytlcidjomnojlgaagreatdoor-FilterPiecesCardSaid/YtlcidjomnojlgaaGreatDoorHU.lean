/-
  Several texts in one: HNew, GrowL, HTheirs, HOurs. By an AI agent.
-/
import Derived.Test.YtlcidjomnojlgaaGreatDoorHX
import Derived.Laws.IdiomCopy
import Derived.Test.YtlcidjomnojlgaaGreatDoorGrow
import Derived.Deep.CutRange
import Derived.Deep.CutBlock
/- Filters in memory of the call's own: all that they lead to lies in blocks of which P holds. -/
namespace Go.Proofs.YtlcidjomnojlgaaGreatDoor
open Go.RowKit
set_option linter.unusedVariables false

/-- The slice's cells lie in a block of which P holds. -/
def HasP (w : World) (P : Nat → Prop) (size : Nat) (A : Option Addr) (n : Nat) (xs : List Value) : Prop :=
  xs.length = n * size ∧ (xs = [] ∨ ∃ ad, A = some ad ∧ P ad.block ∧ ∀ j u, xs[j]? = some u → w.cell? (ad.add j) = some u)

section
variable {w w' : World} {P P' : Nat → Prop} {B size n : Nat} {A : Option Addr} {xs : List Value}
theorem HasP.has (h : HasP w P size A n xs) (hP : ∀ b, P b → b < B) : Has w B size A n xs :=
  ⟨h.1, h.2.imp id fun ⟨ad, e, hb, hc⟩ => ⟨ad, e, hP _ hb, hc⟩⟩
theorem HasP.move (h : HasP w P size A n xs) (hc : ∀ p : Addr, P p.block → w'.cell? p = w.cell? p) (hP : ∀ b, P b → P' b) : HasP w' P' size A n xs :=
  ⟨h.1, h.2.imp id fun ⟨ad, e, hb, hx⟩ => ⟨ad, e, hP _ hb, fun j u hu => (hc _ (by rw [block_add]; exact hb)).trans (hx j u hu)⟩⟩
theorem Has.hasP (h : Has w B size A n xs) : HasP w (fun b => b < B) size A n xs := h

/-- What the call owns lies behind base. -/
theorem own_formP {base : Nat} {e : TypeId} {v : Value} (h : w.ownsRow base e size v n xs) : ∃ A c, v = .slice A n c ∧ n ≤ c ∧ HasP w (fun b => base ≤ b ∧ b < w.heap.size) size A n xs := by
  rcases h.2 with ⟨rfl, rfl⟩ | ⟨g, cap, cur, rfl, hb, hh, hnc, _, hs, ht⟩
  · exact ⟨none, 0, rfl, Nat.le_refl _, h.1, .inl (List.eq_nil_of_length_eq_zero (by simpa using h.1))⟩
  · refine ⟨_, cap, rfl, hnc, h.1, ?_⟩
    have hlt : g < w.heap.size := (Array.getElem?_eq_some_iff.1 hh).1
    rcases Nat.eq_zero_or_pos n with h0 | h0
    · subst h0
      exact .inl (List.eq_nil_of_length_eq_zero (by simpa using h.1))
    · obtain ⟨g', cap', hv, _, hlt'⟩ := h.form h0
      injection hv with hA
      injection hA with hA
      injection hA with hg
      subst hg
      exact .inr ⟨_, rfl, ⟨hb, hlt⟩, h.cells (g := g) rfl⟩
end

mutual
/-- The cells of a filter, all that it leads to in blocks of which P holds. -/
def FInP (w : World) (P : Nat → Prop) : FT → List Value → Prop
  | .mk k a v f l any ps, cs => ∃ A c D d xs, cs = [.int .i64 k, .string (txt a), .string (txt v), .string (txt f), .string (txt l), .slice A any.length c, .slice D ps.length d] ∧
      (any.length ≤ maxLen ∧ ps.length ≤ maxLen) ∧ HasP w P 1 A any.length (strs any) ∧ HasP w P 7 D ps.length xs ∧ FsInP w P ps xs
def FsInP (w : World) (P : Nat → Prop) : List FT → List Value → Prop
  | [], xs => xs = []
  | p :: r, xs => FInP w P p (xs.take 7) ∧ FsInP w P r (xs.drop 7)
end

section
variable {w w' : World} {P P' : Nat → Prop} {B : Nat}

mutual
theorem FInP.fin (hP : ∀ b, P b → b < B) : ∀ {t : FT} {cs : List Value}, FInP w P t cs → FIn w B t cs
  | .mk k a v f l any ps, cs, h => by
    simp only [FInP] at h
    simp only [FIn]
    obtain ⟨A, c, D, d, xs, h1, hm, h2, h3, h4⟩ := h
    exact ⟨A, c, D, d, xs, h1, hm, h2.has hP, h3.has hP, FsInP.fin hP h4⟩
theorem FsInP.fin (hP : ∀ b, P b → b < B) : ∀ {ps : List FT} {xs : List Value}, FsInP w P ps xs → FsIn w B ps xs
  | [], xs, h => by simp only [FsInP] at h; simp only [FsIn]; exact h
  | p :: r, xs, h => by
    simp only [FsInP] at h
    simp only [FsIn]
    exact ⟨FInP.fin hP h.1, FsInP.fin hP h.2⟩
end

mutual
theorem FInP.move (hc : ∀ p : Addr, P p.block → w'.cell? p = w.cell? p) (hP : ∀ b, P b → P' b) : ∀ {t : FT} {cs : List Value}, FInP w P t cs → FInP w' P' t cs
  | .mk k a v f l any ps, cs, h => by
    simp only [FInP] at h ⊢
    obtain ⟨A, c, D, d, xs, h1, hm, h2, h3, h4⟩ := h
    exact ⟨A, c, D, d, xs, h1, hm, h2.move hc hP, h3.move hc hP, FsInP.move hc hP h4⟩
theorem FsInP.move (hc : ∀ p : Addr, P p.block → w'.cell? p = w.cell? p) (hP : ∀ b, P b → P' b) : ∀ {ps : List FT} {xs : List Value}, FsInP w P ps xs → FsInP w' P' ps xs
  | [], xs, h => by simp only [FsInP] at h ⊢; exact h
  | p :: r, xs, h => by
    simp only [FsInP] at h ⊢
    exact ⟨FInP.move hc hP h.1, FsInP.move hc hP h.2⟩
end

theorem FInP.len {t : FT} {cs : List Value} (h : FInP w P t cs) : cs.length = 7 := by
  cases t with
  | mk k a v f l any ps =>
    simp only [FInP] at h
    obtain ⟨A, c, D, d, xs, rfl, _⟩ := h
    rfl
theorem FInP.one {t : FT} {cs : List Value} (h : FInP w P t cs) : ∀ u ∈ cs, u.oneCell' = true := by
  cases t with
  | mk k a v f l any ps =>
    simp only [FInP] at h
    obtain ⟨A, c, D, d, xs, rfl, _⟩ := h
    intro u hu
    simp only [List.mem_cons, List.not_mem_nil, or_false] at hu
    rcases hu with rfl | rfl | rfl | rfl | rfl | rfl | rfl <;> rfl
theorem FsInP.len : ∀ {ps : List FT} {xs : List Value}, FsInP w P ps xs → xs.length = 7 * ps.length
  | [], xs, h => by simp only [FsInP] at h; subst h; rfl
  | p :: r, xs, h => by
    simp only [FsInP] at h
    have h1 := h.1.len
    have h2 := FsInP.len h.2
    simp only [List.length_take, List.length_drop, List.length_cons] at h1 h2 ⊢
    omega
theorem FsInP.snoc : ∀ {ps : List FT} {xs : List Value} {p : FT} {cs : List Value}, FsInP w P ps xs → FInP w P p cs → FsInP w P (ps ++ [p]) (xs ++ cs)
  | [], xs, p, cs, h, hp => by
    simp only [FsInP] at h
    subst h
    have := hp.len
    simp only [List.nil_append, FsInP]
    refine ⟨by rw [List.take_of_length_le (by omega)]; exact hp, List.drop_eq_nil_of_le (by omega)⟩
  | q :: r, xs, p, cs, h, hp => by
    have hl := h.len
    simp only [List.length_cons] at hl
    simp only [FsInP] at h
    simp only [List.cons_append, FsInP]
    refine ⟨by rw [List.take_append_of_le_length (by omega)]; exact h.1, ?_⟩
    rw [List.drop_append_of_le_length (by omega)]
    exact FsInP.snoc h.2 hp

/-- A block of seven cells of the call's own, that may be written. -/
structure Out7 (w : World) (h : Nat) (u0 u1 u2 u3 u4 u5 u6 : Value) : Prop where
  lt : h < w.heap.size
  c0 : w.cell? ⟨h, 0, none⟩ = some u0
  c1 : w.cell? ⟨h, 1, none⟩ = some u1
  c2 : w.cell? ⟨h, 2, none⟩ = some u2
  c3 : w.cell? ⟨h, 3, none⟩ = some u3
  c4 : w.cell? ⟨h, 4, none⟩ = some u4
  c5 : w.cell? ⟨h, 5, none⟩ = some u5
  c6 : w.cell? ⟨h, 6, none⟩ = some u6
  fz : ∀ i, w.frozen? ⟨h, i, none⟩ = false
variable {h : Nat} {u0 u1 u2 u3 u4 u5 u6 : Value}
theorem Out7.new (w : World) (e : TypeId) : Out7 (w.alloc (.cells #[u0, u1, u2, u3, u4, u5, u6] e)) w.heap.size u0 u1 u2 u3 u4 u5 u6 := by
  refine ⟨by simp, ?_, ?_, ?_, ?_, ?_, ?_, ?_, fun i => World.frozen?_alloc_at _ _ _ _ rfl⟩ <;> (rw [World.cell?_alloc_at (hn := by simp)]; rfl)
theorem Out7.keep (t : Out7 w h u0 u1 u2 u3 u4 u5 u6) (hs : w.heap.size ≤ w'.heap.size) (hb : w'.heap[h]? = w.heap[h]?) : Out7 w' h u0 u1 u2 u3 u4 u5 u6 :=
  have k : ∀ i, w'.cell? ⟨h, i, none⟩ = w.cell? ⟨h, i, none⟩ := fun i => World.cell?_of_block (a := ⟨h, i, none⟩) hb
  ⟨Nat.lt_of_lt_of_le t.lt hs, (k 0).trans t.c0, (k 1).trans t.c1, (k 2).trans t.c2, (k 3).trans t.c3, (k 4).trans t.c4, (k 5).trans t.c5, (k 6).trans t.c6,
    fun i => (World.frozen?_of_block (a := ⟨h, i, none⟩) hb).trans (t.fz i)⟩
theorem Out7.below (t : Out7 w h u0 u1 u2 u3 u4 u5 u6) {D : Nat} (hD : h < D) (hb : Below D w w') : Out7 w' h u0 u1 u2 u3 u4 u5 u6 := t.keep hb.size (hb.block h hD)
theorem Out7.set6 (t : Out7 w h u0 u1 u2 u3 u4 u5 u6) (u : Value) : Out7 (w.setCell ⟨h, 6, none⟩ u) h u0 u1 u2 u3 u4 u5 u := by
  have k : ∀ i, i ≠ 6 → (w.setCell ⟨h, 6, none⟩ u).cell? ⟨h, i, none⟩ = w.cell? ⟨h, i, none⟩ := fun i hi => World.cell?_setCell_other _ _ _ _ (by simp; try omega)
  exact ⟨by simpa [World.setCell] using t.lt, (k 0 (by omega)).trans t.c0, (k 1 (by omega)).trans t.c1, (k 2 (by omega)).trans t.c2, (k 3 (by omega)).trans t.c3, (k 4 (by omega)).trans t.c4, (k 5 (by omega)).trans t.c5,
    World.cell?_setCell_same _ _ _ t.c6, fun i => by rw [World.frozen?_setCell]; exact t.fz i⟩
/-- All seven are written anew. -/
theorem Out7.sets {v0 v1 v2 v3 v4 v5 v6 : Value} (t : Out7 w h u0 u1 u2 u3 u4 u5 u6) : Out7 (w.setCells h 0 [v0, v1, v2, v3, v4, v5, v6]) h v0 v1 v2 v3 v4 v5 v6 := by
  have hs : ∀ j, j < 7 → (w.cell? ⟨h, 0 + j, none⟩).isSome = true := fun j hj => by
    match j, hj with
    | 0, _ => rw [Nat.zero_add, t.c0]; rfl
    | 1, _ => rw [Nat.zero_add, t.c1]; rfl
    | 2, _ => rw [Nat.zero_add, t.c2]; rfl
    | 3, _ => rw [Nat.zero_add, t.c3]; rfl
    | 4, _ => rw [Nat.zero_add, t.c4]; rfl
    | 5, _ => rw [Nat.zero_add, t.c5]; rfl
    | 6, _ => rw [Nat.zero_add, t.c6]; rfl
  have key := World.cell?_setCells_in h [v0, v1, v2, v3, v4, v5, v6] 0 w hs
  have hsz : ∀ (vs : List Value) (o : Nat) (w : World), (w.setCells h o vs).heap.size = w.heap.size := by
    intro vs
    induction vs with
    | nil => intro o w; rfl
    | cons v r ih => intro o w; rw [World.setCells, ih]; simp [World.setCell]
  refine ⟨by rw [hsz]; exact t.lt, ?_, ?_, ?_, ?_, ?_, ?_, ?_, fun i => by rw [World.frozen?_setCells]; exact t.fz i⟩
  · simpa using key 0 (by simp)
  · simpa using key 1 (by simp)
  · simpa using key 2 (by simp)
  · simpa using key 3 (by simp)
  · simpa using key 4 (by simp)
  · simpa using key 5 (by simp)
  · simpa using key 6 (by simp)
theorem Out7.there (t : Out7 w h u0 u1 u2 u3 u4 u5 u6) : w.there h 0 7 := fun j hj => by
  refine ⟨?_, t.fz _⟩
  match j, hj with
  | 0, _ => rw [Nat.zero_add, t.c0]; rfl
  | 1, _ => rw [Nat.zero_add, t.c1]; rfl
  | 2, _ => rw [Nat.zero_add, t.c2]; rfl
  | 3, _ => rw [Nat.zero_add, t.c3]; rfl
  | 4, _ => rw [Nat.zero_add, t.c4]; rfl
  | 5, _ => rw [Nat.zero_add, t.c5]; rfl
  | 6, _ => rw [Nat.zero_add, t.c6]; rfl

/-- A write into one block: all else is as it was. -/
theorem grown_setCell (w : World) (h i : Nat) (u : Value) : w.grownBy (w.setCell ⟨h, i, none⟩ u) (some h) := ⟨rfl, rfl, rfl, by simp [World.setCell], fun k hk hne => by
  simp only [World.setCell, Array.getElem?_modify]
  rw [if_neg (fun e => hne (by rw [← e]))]⟩
theorem grown_setCells (h : Nat) : ∀ (vs : List Value) (o : Nat) (w : World), w.grownBy (w.setCells h o vs) (some h)
  | [], o, w => ⟨rfl, rfl, rfl, Nat.le_refl _, fun _ _ _ => rfl⟩
  | v :: r, o, w => by
    have h1 := grown_setCell w h o v
    have h2 := grown_setCells h r (o + 1) (w.setCell ⟨h, o, none⟩ v)
    rw [World.setCells]
    exact ⟨h2.os.trans h1.os, h2.tape.trans h1.tape, h2.output.trans h1.output, Nat.le_trans h1.size h2.size, fun k hk hne => (h2.block k (Nat.lt_of_lt_of_le hk h1.size) hne).trans (h1.block k hk hne)⟩
theorem below_of_grown {base : Nat} {row : Option Nat} (hg : w.grownBy w' row) (hrow : ∀ k, row = some k → base ≤ k) (hb : base ≤ w.heap.size) : Below base w w' :=
  (Below.refl _ _).grown hg hb hrow

end

section
variable {P : Program}
end

end Go.Proofs.YtlcidjomnojlgaaGreatDoor

/- A region that draws its order and whose last operation (number z, which waits for all that is taken first) may write what was there: after XGrow. -/
namespace Go.Proofs.YtlcidjomnojlgaaGreatDoor
open Go Go.RowKit

/-- Number z waits for number i. -/
def waitsOn (md : Region.Mode) (ops : Array Oper) (z i : Nat) : Bool :=
  match ops[z]? with
  | some o => o.after.any fun e => Region.binds md e && e.on == i
  | none => true
theorem waitsOn_spec {md : Region.Mode} {ops : Array Oper} {z i : Nat} (h : waitsOn md ops z i = true) : ∀ oz, ops[z]? = some oz → ∃ e ∈ oz.after, Region.binds md e = true ∧ e.on = i := by
  intro oz hoz
  unfold waitsOn at h
  rw [hoz] at h
  simp only [Array.any_eq_true, Bool.and_eq_true, beq_iff_eq] at h
  obtain ⟨k, hk, h1, h2⟩ := h
  exact ⟨oz.after[k], Array.getElem_mem hk, h1, h2⟩

section
variable {P : Program} {ops : Array Oper} {Q : Exit → Act → World → Prop} {md : Region.Mode} {z : Nat}
variable {R : World → World → Prop} [Way R]

/-- Whatever order is picked from here on, each operation leaves all that was there as it was. -/
def wpAnyL (R : World → World → Prop) (P : Program) (md : Region.Mode) (ops : Array Oper) (Q : Exit → Act → World → Prop) (z : Nat) : Nat → Array Bool → Act → World → Prop
  | 0, listed, a, w => Region.ready md ops listed = [] ∧ Q .normal a w
  | fuel + 1, listed, a, w =>
    (Region.ready md ops listed = [] → Q .normal a w) ∧
    ∀ i ∈ Region.ready md ops listed, wpOp P ops Q i (fun a' w' => (i ≠ z → R w w') ∧ wpAnyL R P md ops Q z fuel (listed.setIfInBounds i true) a' w') a w

omit [Way R] in
theorem wpAny_of_growL : ∀ (fuel : Nat) (listed : Array Bool) (a : Act) (w : World), wpAnyL R P md ops Q z fuel listed a w → wpAny P md ops Q fuel listed a w
  | 0, _, _, _, h => h
  | fuel + 1, _, _, _, h => ⟨h.1, fun i hi => wpOp_mono (fun a' w' h' => wpAny_of_growL fuel _ a' w' h'.2) (h.2 i hi)⟩

theorem grow_firstL {i : Nat} {oi : Oper} {v : Value} (hi : ops[i]? = some oi) (hsel : ∀ (j : Nat) (o : Oper) cs b, ops[j]? = some o → o.op ≠ .select cs b)
    (hQ : ∀ c a w, Q (.panic c) (a.put oi.dst v) w → Q (.panic c) a w) (hz : ∀ oz, ops[z]? = some oz → ∃ e ∈ oz.after, Region.binds md e = true ∧ e.on = i) :
    ∀ (fuel : Nat) (listed : Array Bool) (a : Act) (w : World),
      (∀ j oj, ops[j]? = some oj → j ≠ i → listed.getD j true = false → (∀ e ∈ oj.after, Region.binds md e = true → e.on ≠ i) → oi.apart ops oj = true) →
      i ∈ Region.ready md ops listed → YieldsIf P ops (R w) oi v a →
      wpAnyL R P md ops Q z fuel (listed.setIfInBounds i true) (a.put oi.dst v) w → wpAnyL R P md ops Q z (fuel + 1) listed a w := by
  intro fuel
  induction fuel with
  | zero =>
    intro listed a w _ hr hy H
    refine ⟨fun h => (by rw [h] at hr; cases hr), fun j hj => ?_⟩
    rcases Nat.decEq j i with hne | rfl
    · have hm := ready_mono hj hne
      rw [H.1] at hm
      cases hm
    · exact hy.wpOp hi (Way.refl w) ⟨fun _ => Way.refl w, H⟩
  | succ fuel ih =>
    intro listed a w hfree hr hy H
    refine ⟨fun h => (by rw [h] at hr; cases hr), fun j hj => ?_⟩
    rcases Nat.decEq j i with hne | rfl
    · obtain ⟨hun, oj, hoj, hwait⟩ := mem_ready.1 hj
      have hno : ∀ e ∈ oj.after, Region.binds md e = true → e.on ≠ i := by
        intro e he hb hon
        have h1 := hwait e he hb
        have h0 := (mem_ready.1 hr).1
        rw [hon] at h1
        rcases Nat.lt_or_ge i listed.size with hlt | hge
        · simp [hlt] at h0 h1
          rw [h0] at h1
          cases h1
        · simp [Array.getElem?_eq_none hge] at h1
      have hjz : j ≠ z := fun e => by
        subst e
        obtain ⟨e, he, hb, hon⟩ := hz oj hoj
        exact hno e he hb hon
      have hstep := wpOp_putIf hoj (hfree j oj hoj hne hun hno) (fun cs b => hsel i oi cs b hi) (fun cs b => hsel j oj cs b hoj) hQ hy (H.2 j (ready_mono hj hne))
      refine wpOp_mono (fun a' w' hh => ⟨hh.2.1, ih (listed.setIfInBounds j true) a' w' ?_ (ready_mono hr (Ne.symm hne)) (yields_later (hh.2.1 hjz) hh.1) ?_⟩) hstep
      · intro k ok hk hki hkun hkno
        refine hfree k ok hk hki ?_ hkno
        rcases Nat.decEq j k with hjk | rfl
        · rwa [getD_set_ne true hjk] at hkun
        · exact hun
      · rw [Array.setIfInBounds_comm _ _ hne]
        exact hh.2.2
    · exact hy.wpOp hi (Way.refl w) ⟨fun _ => Way.refl w, H⟩

/-- Take number i first: it may come up, and yields v in every world that has grown out of this one. -/
theorem grow_takeL (i : Nat) (d : Option Tmp) {oi : Oper} {v : Value} {fuel : Nat} {listed : Array Bool} {a : Act} {w : World} (hi : ops[i]? = some oi) (hd : oi.dst = d)
    (hs : Region.noSelect ops = true) (hf : Region.free md ops listed i = true) (hr : (Region.ready md ops listed).contains i = true)
    (hQ : ∀ c a w, Q (.panic c) (a.put d v) w → Q (.panic c) a w) (hz : waitsOn md ops z i = true) (hw : Region.wanted oi (yielded ops a.tmps) = true) (hy : ∀ W, R w W → (execOp a.eval oi).run P W = .ok (.value v) W)
    (h : wpAnyL R P md ops Q z fuel (listed.setIfInBounds i true) (a.put d v) w) : wpAnyL R P md ops Q z (fuel + 1) listed a w := by
  subst hd
  exact grow_firstL hi (Region.noSelect_spec hs) hQ (waitsOn_spec hz) fuel listed a w (Region.free_spec hi hf) (by simpa using hr) (.inl ⟨hw, hy⟩) h

/-- Number i is behind a guard that is false. -/
theorem grow_skipL (i : Nat) (d : Option Tmp) {oi : Oper} {fuel : Nat} {listed : Array Bool} {a : Act} {w : World} (hi : ops[i]? = some oi) (hd : oi.dst = d)
    (hs : Region.noSelect ops = true) (hf : Region.free md ops listed i = true) (hr : (Region.ready md ops listed).contains i = true)
    (hQ : ∀ c a w, Q (.panic c) (a.put d undef) w → Q (.panic c) a w) (hz : waitsOn md ops z i = true) (hw : Region.wanted oi (yielded ops a.tmps) = false)
    (h : wpAnyL R P md ops Q z fuel (listed.setIfInBounds i true) (a.put d undef) w) : wpAnyL R P md ops Q z (fuel + 1) listed a w := by
  subst hd
  exact grow_firstL hi (Region.noSelect_spec hs) hQ (waitsOn_spec hz) fuel listed a w (Region.free_spec hi hf) (by simpa using hr) (.inr ⟨hw, rfl⟩) h

omit [Way R] in
/-- Nothing but number i may come up. -/
theorem grow_onlyL (i : Nat) {oi : Oper} {fuel : Nat} {listed : Array Bool} {a : Act} {w : World} (hi : ops[i]? = some oi) (hr : Region.ready md ops listed = [i])
    (h : ∀ K' : Act → World → Prop, Shut (∀ a' w', (i ≠ z → R w w') → wpAnyL R P md ops Q z fuel (listed.setIfInBounds i true) a' w' → K' a' w') → if Region.wanted oi (yielded ops a.tmps) = true then Oper.wp P oi a w K' Q else K' (a.put oi.dst undef) w) :
    wpAnyL R P md ops Q z (fuel + 1) listed a w := by
  refine ⟨fun h0 => (by rw [hr] at h0; cases h0), fun j hj => ?_⟩
  rw [hr] at hj
  obtain rfl : j = i := by simpa using hj
  exact wpOp_step hi (fun K' hK => h K' (fun a' w' hb hg => hK a' w' ⟨hb, hg⟩))

omit [Way R] in
theorem grow_doneL {listed : Array Bool} {a : Act} {w : World} (hr : Region.ready md ops listed = []) (h : Q .normal a w) :
    ∀ fuel, wpAnyL R P md ops Q z fuel listed a w
  | 0 => ⟨hr, h⟩
  | _ + 1 => ⟨fun _ => h, by rw [hr]; simp⟩

/-- Each of the operations rs may come up. -/
def AllL (R : World → World → Prop) (P : Program) (md : Region.Mode) (ops : Array Oper) (Q : Exit → Act → World → Prop) (z : Nat) (fuel : Nat) (listed : Array Bool) (a : Act) (w : World) (rs : List Nat) : Prop :=
  ∀ i ∈ rs, wpOp P ops Q i (fun a' w' => (i ≠ z → R w w') ∧ wpAnyL R P md ops Q z fuel (listed.setIfInBounds i true) a' w') a w

omit [Way R] in
theorem AllL.nil {fuel : Nat} {listed : Array Bool} {a : Act} {w : World} : AllL R P md ops Q z fuel listed a w [] := fun _ h => by cases h

omit [Way R] in
theorem AllL.cons {fuel : Nat} {listed : Array Bool} {a : Act} {w : World} {i : Nat} {oi : Oper} {rs : List Nat} (hi : ops[i]? = some oi)
    (h : ∀ K' : Act → World → Prop, Shut (∀ a' w', (i ≠ z → R w w') → wpAnyL R P md ops Q z fuel (listed.setIfInBounds i true) a' w' → K' a' w') → if Region.wanted oi (yielded ops a.tmps) = true then Oper.wp P oi a w K' Q else K' (a.put oi.dst undef) w)
    (hs : AllL R P md ops Q z fuel listed a w rs) : AllL R P md ops Q z fuel listed a w (i :: rs) := fun j hj => by
  rcases List.mem_cons.1 hj with rfl | hj
  · exact wpOp_step hi (fun K' hK => h K' (fun a' w' hb hg => hK a' w' ⟨hb, hg⟩))
  · exact hs j hj

omit [Way R] in
/-- Several may come up: each in its turn. -/
theorem grow_eachL (rs : List Nat) {fuel : Nat} {listed : Array Bool} {a : Act} {w : World} (hr : Region.ready md ops listed = rs) (hne : rs ≠ []) (h : AllL R P md ops Q z fuel listed a w rs) :
    wpAnyL R P md ops Q z (fuel + 1) listed a w := by
  refine ⟨fun h0 => absurd (hr ▸ h0) hne, fun j hj => ?_⟩
  rw [hr] at hj
  exact h j hj

theorem grow_begin_atL (B z : Nat) {id : Nat} {a : Act} {w : World} (hm : P.follows .mixedOrders = true)
    (h : wpAnyL (upAt B) P .any ops Q z ops.size (Array.replicate ops.size false) a w.drew) : (Code.region id ops true).wp P Q a w :=
  wp_region_any hm (wpAny_of_growL _ _ _ _ h)

end

end Go.Proofs.YtlcidjomnojlgaaGreatDoor

/- A filter of the one package turned into one of the other. -/
namespace Go.Proofs.YtlcidjomnojlgaaGreatDoor
open Go.RowKit
set_option linter.unusedVariables false

theorem own_one {w : World} {base n size : Nat} {e : TypeId} {v : Value} {xs : List Value} (h : w.ownsRow base e size v n xs) : v.oneCell' = true := by
  obtain ⟨A, c, rfl, _⟩ := own_form h
  rfl
/-- In the loop: what has been laid. -/
structure ThL (E : TypeId) (wc wx : World) (h : Nat) (k : Int) (a v f l : ByteArray) (v5 v6 : Value) (j : Nat) (xs : List Value) (L : List FT) : Prop where
  grown : wc.grownBy wx (some h)
  out : Out7 wx h (.int .i64 k) (.string a) (.string v) (.string f) (.string l) v5 v6
  own : wx.ownsRow wc.heap.size E 7 v6 j xs
  parts : FsInP wx (fun b => wc.heap.size ≤ b ∧ b < wx.heap.size ∧ some b ≠ v6.ownBlock) L xs

/-- One more part has been laid. -/
theorem ThL.next {E : TypeId} {wc wr w7 w9 : World} {h : Nat} {k : Int} {a v f l : ByteArray} {v5 v6 v9 : Value} {j : Nat} {xs ys : List Value} {L : List FT} {p : FT} {C : Obj}
    (hT : ThL E wc wr h k a v f l v5 v6 j xs L) (hltc : h < wc.heap.size) (hb7 : Below wr.heap.size wr w7) (hy : FInP w7 (fun b => wr.heap.size ≤ b ∧ b < w7.heap.size) p ys)
    (hown : w9.ownsRow wc.heap.size E 7 v9 (j + 1) (xs ++ ys)) (hg : (w7.alloc C).grownBy w9 v6.ownBlock) (ht : v9.ownBlock = v6.ownBlock ∨ v9.ownBlock = some (w7.alloc C).heap.size) :
    ThL E wc (w9.setCell ⟨h, 6, none⟩ v9) h k a v f l v5 v9 (j + 1) (xs ++ ys) (L ++ [p]) := by
  have hs8 : (w7.alloc C).heap.size = w7.heap.size + 1 := by simp
  have hs1 := hT.grown.size
  have hs7 := hb7.size
  have hs9 := hg.size
  have ho := hT.own.lt
  have hgs := grown_setCell w9 h 6 v9
  have hss := hgs.size
  have q7 : ∀ b, b < w7.heap.size → some b ≠ v6.ownBlock → w9.heap[b]? = w7.heap[b]? := fun b hb hne => (hg.block b (by omega) hne).trans (heap_alloc_old w7 C hb)
  have q1 : ∀ b, b < wr.heap.size → some b ≠ v6.ownBlock → w9.heap[b]? = wr.heap[b]? := fun b hb hne => (q7 b (by omega) hne).trans (hb7.block b hb)
  have qs : ∀ b, b < w9.heap.size → b ≠ h → (w9.setCell ⟨h, 6, none⟩ v9).heap[b]? = w9.heap[b]? := fun b hb hne => hgs.block b hb (fun e => hne (Option.some.inj e))
  have hno : ∀ b, b < wc.heap.size → some b ≠ v6.ownBlock := fun b hb e => by have := ho b e.symm; omega
  have hn9 : v9.ownBlock ≠ some h := fun e => by
    rcases ht with e2 | e2
    · rw [e2] at e; have := ho h e; omega
    · rw [e2] at e; have := Option.some.inj e; omega
  refine ⟨⟨hgs.os.trans (hg.os.trans (hb7.os.trans hT.grown.os)), hgs.tape.trans (hg.tape.trans (hb7.tape.trans hT.grown.tape)), hgs.output.trans (hg.output.trans (hb7.output.trans hT.grown.output)), by omega, fun b hb hne => ?_⟩, ?_, ?_, ?_⟩
  · have hbh : b ≠ h := fun e => hne (by rw [e])
    exact (qs b (by omega) hbh).trans ((q1 b (by omega) (hno b hb)).trans (hT.grown.block b hb hne))
  · exact (hT.out.keep (by omega) (q1 h (by omega) (hno h hltc))).set6 v9
  · exact hown.kept hgs (.inr hn9)
  · refine FsInP.snoc (FsInP.move ?_ ?_ hT.parts) (FInP.move ?_ ?_ hy)
    · rintro x ⟨h1, h2, h3⟩
      exact World.cell?_of_block ((qs _ (by omega) (by omega)).trans (q1 _ h2 h3))
    · rintro b ⟨h1, h2, h3⟩
      refine ⟨h1, by omega, ?_⟩
      rcases ht with e2 | e2
      · rw [e2]; exact h3
      · rw [e2]; intro e; have := Option.some.inj e; omega
    · rintro x ⟨h1, h2⟩
      exact World.cell?_of_block ((qs _ (by omega) (by omega)).trans (q7 _ h2 (fun e => by have := ho _ e.symm; omega)))
    · rintro b ⟨h1, h2⟩
      refine ⟨by omega, by omega, ?_⟩
      rcases ht with e2 | e2
      · rw [e2]; intro e; have := ho _ e.symm; omega
      · rw [e2]; intro e; have := Option.some.inj e; omega

theorem Box7.keep {w w' : World} {b : Nat} {k : Int} {a v f l : ByteArray} {A D : Option Addr} {m c n d : Nat} (t : Box7 w b k a v f l A m c D n d) (hs : w.heap.size ≤ w'.heap.size) (hb : w'.heap[b]? = w.heap[b]?) : Box7 w' b k a v f l A m c D n d :=
  have q : ∀ i, w'.cell? ⟨b, i, none⟩ = w.cell? ⟨b, i, none⟩ := fun i => World.cell?_of_block (a := ⟨b, i, none⟩) hb
  ⟨Nat.lt_of_lt_of_le t.lt hs, (q 0).trans t.c0, (q 1).trans t.c1, (q 2).trans t.c2, (q 3).trans t.c3, (q 4).trans t.c4, (q 5).trans t.c5, (q 6).trans t.c6⟩
theorem Out7.range {w : World} {b : Nat} {u0 u1 u2 u3 u4 u5 u6 : Value} (h : Out7 w b u0 u1 u2 u3 u4 u5 u6) : w.rangeAt b 0 [u0, u1, u2, u3, u4, u5, u6] := by
  intro j u hu
  rw [Nat.zero_add]
  match j, hu with
  | 0, hu => cases hu; exact h.c0
  | 1, hu => cases hu; exact h.c1
  | 2, hu => cases hu; exact h.c2
  | 3, hu => cases hu; exact h.c3
  | 4, hu => cases hu; exact h.c4
  | 5, hu => cases hu; exact h.c5
  | 6, hu => cases hu; exact h.c6
theorem Part7.keep {w w' : World} {B g o : Nat} {p : FT} {u0 u1 u2 u3 u4 u5 u6 : Value} (h : Part7 w B g o p u0 u1 u2 u3 u4 u5 u6) (hb : Below B w w') : Part7 w' B g o p u0 u1 u2 u3 u4 u5 u6 := h.below hb

end Go.Proofs.YtlcidjomnojlgaaGreatDoor

/- A filter of the one package turned into one of the other. -/
namespace Go.Proofs.YtlcidjomnojlgaaGreatDoor
open Go.RowKit
set_option linter.unusedVariables false

end Go.Proofs.YtlcidjomnojlgaaGreatDoor
