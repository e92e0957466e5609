/-
  slices.Concat of two lists of texts; parts that are joined by the reference if they fit. By an AI agent.
-/
import Derived.Test.YtmidjagjgipabaaGreatDoorQRComp
import Derived.Lib.AppendZeros
namespace Go.Proofs.YtmidjagjgipabaaGreatDoor
open Go.RowKit
set_option linter.unusedVariables false

/-- Two cells of a block. -/
structure Two (w : World) (h : Nat) (u v : Value) : Prop where
  c0 : w.cell? ⟨h, 0, none⟩ = some u
  c1 : w.cell? ⟨h, 1, none⟩ = some v
  lt : h < w.heap.size
theorem Two.new (w : World) (u v : Value) (e : TypeId) : Two (w.alloc (.cells #[u, v] e)) w.heap.size u v :=
  ⟨by rw [World.cell?_alloc_at (hn := by simp)]; rfl, by rw [World.cell?_alloc_at (hn := by simp)]; rfl, by simp⟩
theorem Two.below {w w' : World} {h : Nat} {u v : Value} (t : Two w h u v) (hb : Below w.heap.size w w') : Two w' h u v :=
  ⟨(hb.cell (p := ⟨h, 0, none⟩) t.lt).trans t.c0, (hb.cell (p := ⟨h, 1, none⟩) t.lt).trans t.c1, Nat.lt_of_lt_of_le t.lt hb.size⟩

end Go.Proofs.YtmidjagjgipabaaGreatDoor
