/-
  Rows of texts and rows of pairs: what is read of them, what is laid behind them. By an AI agent.
-/
import Derived.Test.YtihoachcpabkeaaGreatDoorNPairs
import Derived.Test.YtihoachcpabkeaaGreatDoorSeat
namespace Go.Proofs.YtihoachcpabkeaaGreatDoor
open Go.RowKit
set_option linter.unusedVariables false

/-- The cells of texts, and of pairs. -/
def strs (L : List (List UInt8)) : List Value := L.map fun x => .string (txt x)
def prs (l : List P2) : List Value := l.flatMap fun a => [.string (txt a.1), .string (txt a.2)]

theorem strs_length (L : List (List UInt8)) : (strs L).length = L.length := by simp [strs]
theorem strs_append (L M : List (List UInt8)) : strs (L ++ M) = strs L ++ strs M := by simp [strs]
theorem strs_one (L : List (List UInt8)) : ∀ u ∈ strs L, u.oneCell' = true := by
  intro u hu
  obtain ⟨b, _, rfl⟩ := List.mem_map.1 hu
  rfl
theorem prs_length (l : List P2) : (prs l).length = l.length * 2 := by
  induction l with
  | nil => rfl
  | cons a r ih => simp only [prs, List.flatMap_cons, List.length_append, List.length_cons, List.length_nil] at ih ⊢; omega
theorem prs_append (l m : List P2) : prs (l ++ m) = prs l ++ prs m := by simp [prs]
theorem prs_one (l : List P2) : ∀ u ∈ prs l, u.oneCell' = true := by
  intro u hu
  obtain ⟨b, _, hb⟩ := List.mem_flatMap.1 hu
  simp only [List.mem_cons, List.not_mem_nil, or_false] at hb
  rcases hb with rfl | rfl <;> rfl
theorem prs_at : ∀ (l : List P2) (i : Nat) (a : P2), l[i]? = some a → (prs l)[i * 2]? = some (.string (txt a.1)) ∧ (prs l)[i * 2 + 1]? = some (.string (txt a.2))
  | [], i, a, h => by simp at h
  | b :: r, 0, a, h => by
    simp only [List.getElem?_cons_zero, Option.some.injEq] at h
    subst h
    exact ⟨rfl, rfl⟩
  | b :: r, i + 1, a, h => by
    simp only [List.getElem?_cons_succ] at h
    have := prs_at r i a h
    have e : (i + 1) * 2 = i * 2 + 2 := by omega
    rw [e]
    exact this
theorem prs_take (l : List P2) (k : Nat) : (prs l).take (k * 2) = prs (l.take k) := by
  induction l generalizing k with
  | nil => simp [prs]
  | cons a r ih =>
    cases k with
    | zero => simp [prs]
    | succ k =>
      have e : (k + 1) * 2 = k * 2 + 2 := by omega
      have := ih k
      simp only [prs, List.flatMap_cons, List.take_succ_cons] at this ⊢
      rw [e]
      simp [this]
theorem prs_drop (l : List P2) (k : Nat) : (prs l).drop (k * 2) = prs (l.drop k) := by
  induction l generalizing k with
  | nil => simp [prs]
  | cons a r ih =>
    cases k with
    | zero => simp [prs]
    | succ k =>
      have e : (k + 1) * 2 = k * 2 + 2 := by omega
      have := ih k
      simp only [prs, List.flatMap_cons, List.drop_succ_cons] at this ⊢
      rw [e]
      simpa using this

/-- A row of pairs, read. -/
structure Reads (w : World) (g o : Nat) (l : List P2) : Prop where
  fst : ∀ (i : Nat) (a : P2), l[i]? = some a → w.cell? ⟨g, o + i * 2, none⟩ = some (.string (txt a.1))
  snd : ∀ (i : Nat) (a : P2), l[i]? = some a → w.cell? ⟨g, o + i * 2 + 1, none⟩ = some (.string (txt a.2))

theorem Has.reads {w : World} {B : Nat} {A : Option Addr} {n : Nat} {l : List P2} (h : Has w B 2 A n (prs l)) (hl : l ≠ []) : ∃ g o, A = some ⟨g, o, none⟩ ∧ g < B ∧ Reads w g o l := by
  obtain ⟨g, o, rfl, hb, hc⟩ := h.lies (by rw [prs_length]; have := List.length_pos_iff.2 hl; omega)
  refine ⟨g, o, rfl, hb, ⟨fun i a ha => hc _ _ (prs_at l i a ha).1, fun i a ha => ?_⟩⟩
  have := hc _ _ (prs_at l i a ha).2
  rwa [← Nat.add_assoc] at this
theorem Has.pairs_n {w : World} {B : Nat} {A : Option Addr} {n : Nat} {l : List P2} (h : Has w B 2 A n (prs l)) : n = l.length := by
  have := h.1
  rw [prs_length] at this
  omega
theorem Has.strs_n {w : World} {B : Nat} {A : Option Addr} {n : Nat} {L : List (List UInt8)} (h : Has w B 1 A n (strs L)) : n = L.length := by
  have := h.1
  rw [strs_length] at this
  omega
theorem Has.texts {w : World} {B : Nat} {A : Option Addr} {n : Nat} {L : List (List UInt8)} (h : Has w B 1 A n (strs L)) (hl : L ≠ []) :
    ∃ g o, A = some ⟨g, o, none⟩ ∧ g < B ∧ ∀ (i : Nat) (x : List UInt8), L[i]? = some x → w.cell? ⟨g, o + i, none⟩ = some (.string (txt x)) := by
  obtain ⟨g, o, rfl, hb, hc⟩ := h.lies (by rw [strs_length]; exact List.length_pos_iff.2 hl)
  exact ⟨g, o, rfl, hb, fun i x hx => hc i _ (by simp [strs, hx])⟩
theorem Reads.keep {w w' : World} {g o : Nat} {l : List P2} (h : Reads w g o l) {B : Nat} (hg : g < B) (hb : Below B w w') : Reads w' g o l :=
  ⟨fun i a ha => (Below.cell (p := ⟨g, o + i * 2, none⟩) hb hg).trans (h.fst i a ha), fun i a ha => (Below.cell (p := ⟨g, o + i * 2 + 1, none⟩) hb hg).trans (h.snd i a ha)⟩

theorem infoS : (Tryz.prog.info? 9).map (fun i => (i.zero, i.size, i.bytes)) = some (some (.string .empty), 1, 16) := by kernel_rfl
theorem infoA : (Tryz.prog.info? 43).map (fun i => (i.zero, i.size, i.bytes)) = some (some (.agg #[.string .empty, .string .empty]), 2, 32) := by kernel_rfl
theorem infoB : (Tryz.prog.info? 46).map (fun i => (i.zero, i.size, i.bytes)) = some (some (.agg #[.string .empty, .string .empty]), 2, 32) := by kernel_rfl

/-- An append of elements of whatever kind onto a row of the call's own. -/
theorem appE {ops : Array Oper} {rest : List Oper} {o : Oper} {a : Act} {Q : Exit → Act → World → Prop} (W : World) (t e : TypeId) (z : Value) (size bytes : Nat) (hu : Tryz.prog.underlying t = some (.slice e))
    (hinf : (Tryz.prog.info? e).map (fun i => (i.zero, i.size, i.bytes)) = some (some z, size, bytes)) (hzs : z.cells.size = size) (hsz : 0 < size) (h32 : bytes ≤ 32)
    (hgd : o.guard = none) (s x : Operand)
    (ho : o.op = .call { callee := .builtin .append, args := #[s, x], argTypes := #[t, t] })
    (base : Nat) (v : Value) (n : Nat) (xs : List Value) (hs : a.eval s = v) (hown : W.ownsRow base e size v n xs)
    (B : Nat) (A : Option Addr) (m c : Nat) (l : List Value) (hx : a.eval x = .slice A m c) (hr : Has W B size A m l) (h1 : ∀ u ∈ l, u.oneCell' = true)
    (hb : n + m ≤ 10000000) (hbase : base ≤ W.heap.size)
    (h : ∀ v' w', w'.ownsRow base e size v' (n + m) (xs ++ l) → Below base W w' → W.grownBy w' v.ownBlock → wpList Tryz.prog ops Q rest (a.put o.dst v') w') :
    wpList Tryz.prog ops Q (o :: rest) a W := by
  obtain ⟨i0, hi, hz0, hz1, hz2⟩ := info_parts hinf
  have hbb : (n + m) * bytes ≤ 140737488355328 := Nat.le_trans (Nat.mul_le_mul hb h32) (by omega)
  refine wpList_app W hgd s x t ho base e i0 z size bytes hu hi hz0 hz1 hz2 hzs hsz v n xs hs hown B A m c l hx hr h1 (by unfold maxLen; omega) hbb hbase ?_
  intro v' w' h1 h2 h3
  exact h v' w' h1 (below_grown hown h2 hbase) h2

/-- A row of one text, of one pair, that has just been laid. -/
theorem litS (w : World) (x : ByteArray) : (w.alloc (.cells #[.string x] 9)).ownsRow w.heap.size 9 1 (.slice (some ⟨w.heap.size, 0, none⟩) 1 1) 1 [.string x] :=
  own_lit w #[.string x] 9 1 (by unfold maxLen; omega) rfl
theorem litP (w : World) (x y : ByteArray) (e : TypeId) : (w.alloc (.cells #[.string x, .string y] e)).ownsRow w.heap.size e 2 (.slice (some ⟨w.heap.size, 0, none⟩) 1 1) 1 [.string x, .string y] :=
  World.ownsRow_lit w #[.string x, .string y] 1 (Nat.le_refl _) (by unfold maxLen; omega) rfl

end Go.Proofs.YtihoachcpabkeaaGreatDoor
