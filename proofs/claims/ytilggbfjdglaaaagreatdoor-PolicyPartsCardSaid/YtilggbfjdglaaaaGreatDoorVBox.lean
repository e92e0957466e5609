/-
  Rules and questions in blocks of their own; an append of elements of up to 64 bytes. By an AI agent.
-/
import Derived.Test.YtilggbfjdglaaaaGreatDoorVMath
import Derived.Test.YtilggbfjdglaaaaGreatDoorGrow
namespace Go.Proofs.YtilggbfjdglaaaaGreatDoor
open Go.RowKit
set_option linter.unusedVariables false

/-- A rule in a block of its own. -/
structure Box5 (w : World) (q : Nat) (a b c : ByteArray) (d : Int) (e : Bool) : Prop where
  lt : q < w.heap.size
  c0 : w.cell? ⟨q, 0, none⟩ = some (.string a)
  c1 : w.cell? ⟨q, 1, none⟩ = some (.string b)
  c2 : w.cell? ⟨q, 2, none⟩ = some (.string c)
  c3 : w.cell? ⟨q, 3, none⟩ = some (.int .i64 d)
  c4 : w.cell? ⟨q, 4, none⟩ = some (.bool e)
theorem Box5.new (w : World) (a b c : ByteArray) (d : Int) (e : Bool) (t : TypeId) : Box5 (w.alloc (.cells #[.string a, .string b, .string c, .int .i64 d, .bool e] t)) w.heap.size a b c d e := by
  refine ⟨by simp, ?_, ?_, ?_, ?_, ?_⟩ <;> (rw [World.cell?_alloc_at (hn := by simp)]; rfl)
theorem Box5.below {w w' : World} {q E : Nat} {a b c : ByteArray} {d : Int} {e : Bool} (h : Box5 w q a b c d e) (hE : q < E) (hb : Below E w w') : Box5 w' q a b c d e :=
  ⟨Nat.lt_of_lt_of_le h.lt hb.size, (hb.cell (p := ⟨q, 0, none⟩) hE).trans h.c0, (hb.cell (p := ⟨q, 1, none⟩) hE).trans h.c1, (hb.cell (p := ⟨q, 2, none⟩) hE).trans h.c2, (hb.cell (p := ⟨q, 3, none⟩) hE).trans h.c3,
    (hb.cell (p := ⟨q, 4, none⟩) hE).trans h.c4⟩
theorem Box5.grow {w w' : World} {q : Nat} {a b c : ByteArray} {d : Int} {e : Bool} (h : Box5 w q a b c d e) (hb : Below w.heap.size w w') : Box5 w' q a b c d e := h.below h.lt hb

/-- A question in a block of its own. -/
structure Box4 (w : World) (q : Nat) (a b c : ByteArray) (d : Int) : Prop where
  lt : q < w.heap.size
  c0 : w.cell? ⟨q, 0, none⟩ = some (.string a)
  c1 : w.cell? ⟨q, 1, none⟩ = some (.string b)
  c2 : w.cell? ⟨q, 2, none⟩ = some (.string c)
  c3 : w.cell? ⟨q, 3, none⟩ = some (.int .i64 d)
theorem Box4.new (w : World) (a b c : ByteArray) (d : Int) (t : TypeId) : Box4 (w.alloc (.cells #[.string a, .string b, .string c, .int .i64 d] t)) w.heap.size a b c d := by
  refine ⟨by simp, ?_, ?_, ?_, ?_⟩ <;> (rw [World.cell?_alloc_at (hn := by simp)]; rfl)
theorem Box4.below {w w' : World} {q E : Nat} {a b c : ByteArray} {d : Int} (h : Box4 w q a b c d) (hE : q < E) (hb : Below E w w') : Box4 w' q a b c d :=
  ⟨Nat.lt_of_lt_of_le h.lt hb.size, (hb.cell (p := ⟨q, 0, none⟩) hE).trans h.c0, (hb.cell (p := ⟨q, 1, none⟩) hE).trans h.c1, (hb.cell (p := ⟨q, 2, none⟩) hE).trans h.c2, (hb.cell (p := ⟨q, 3, none⟩) hE).trans h.c3⟩
theorem Box4.grow {w w' : World} {q : Nat} {a b c : ByteArray} {d : Int} (h : Box4 w q a b c d) (hb : Below w.heap.size w w') : Box4 w' q a b c d := h.below h.lt hb

theorem infoR : (Tryz.prog.info? 35).map (fun i => (i.zero, i.size, i.bytes)) = some (some (.agg #[.string .empty, .string .empty, .string .empty, .int .i64 0, .bool false]), 5, 64) := by kernel_rfl

/-- An append of elements of up to 64 bytes onto a row of the call's own. -/
theorem appRu {ops : Array Oper} {rest : List Oper} {o : Oper} {a : Act} {Q : Exit → Act → World → Prop} (W : World) (t e : TypeId) (z : Value) (size bytes : Nat) (hu : Tryz.prog.underlying t = some (.slice e))
    (hinf : (Tryz.prog.info? e).map (fun i => (i.zero, i.size, i.bytes)) = some (some z, size, bytes)) (hzs : z.cells.size = size) (hsz : 0 < size) (h64 : bytes ≤ 64)
    (hgd : o.guard = none) (s x : Operand)
    (ho : o.op = .call { callee := .builtin .append, args := #[s, x], argTypes := #[t, t] })
    (base : Nat) (v : Value) (n : Nat) (xs : List Value) (hs : a.eval s = v) (hown : W.ownsRow base e size v n xs)
    (B : Nat) (A : Option Addr) (m c : Nat) (l : List Value) (hx : a.eval x = .slice A m c) (hr : Has W B size A m l) (h1 : ∀ u ∈ l, u.oneCell' = true)
    (hb : n + m ≤ 1000000) (hbase : base ≤ W.heap.size)
    (h : ∀ v' w', w'.ownsRow base e size v' (n + m) (xs ++ l) → Below base W w' → W.grownBy w' v.ownBlock → wpList Tryz.prog ops Q rest (a.put o.dst v') w') :
    wpList Tryz.prog ops Q (o :: rest) a W := by
  obtain ⟨i0, hi, hz0, hz1, hz2⟩ := info_parts hinf
  have hbb : (n + m) * bytes ≤ 140737488355328 := Nat.le_trans (Nat.mul_le_mul hb h64) (by omega)
  refine wpList_app W hgd s x t ho base e i0 z size bytes hu hi hz0 hz1 hz2 hzs hsz v n xs hs hown B A m c l hx hr h1 (by unfold maxLen; omega) hbb hbase ?_
  intro v' w' h1 h2 h3
  exact h v' w' h1 (below_grown hown h2 hbase) h2

/-- A row of one rule that has just been laid. -/
theorem litR (w : World) (r : Ru) (e : TypeId) : (w.alloc (.cells #[.string (txt r.who), .string (txt r.tgt), .string (txt r.att), .int .i64 r.rts, .bool r.alw] e)).ownsRow w.heap.size e 5 (.slice (some ⟨w.heap.size, 0, none⟩) 1 1) 1 (ruC r) :=
  World.ownsRow_lit w #[.string (txt r.who), .string (txt r.tgt), .string (txt r.att), .int .i64 r.rts, .bool r.alw] 1 (Nat.le_refl _) (by unfold maxLen; omega) rfl
theorem ruC_one (r : Ru) : ∀ u ∈ ruC r, u.oneCell' = true := by
  intro u hu
  exact rusC_one [r] u (by simpa [rusC] using hu)

end Go.Proofs.YtilggbfjdglaaaaGreatDoor
