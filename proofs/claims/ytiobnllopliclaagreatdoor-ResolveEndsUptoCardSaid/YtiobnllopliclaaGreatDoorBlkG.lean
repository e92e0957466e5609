/- A block of cells of the call's own: read whole, written in part; a struct that is told. By an AI agent. -/
import Derived.Test.YtiobnllopliclaaGreatDoorEX
import Derived.Deep.MidRow
import Derived.Deep.CutRange
import Derived.Deep.CutBlock
import Derived.BigQuiet
import Derived.Deep.DeepMust
namespace Go.Proofs.YtiobnllopliclaaGreatDoor
open Go.RowKit
set_option linter.unusedVariables false
structure Blk (w:World) (h:Nat) (us:List Value):Prop where
 lt:h<w.heap.size
 cells:∀(i:Nat) (u:Value),us[i]?=some u→w.cell? ⟨h,i,none⟩=some u
 fz:∀i,w.frozen? ⟨h,i,none⟩=false
section
variable {w w':World} {h:Nat} {us:List Value}
theorem Blk.new (w:World) (us:List Value) (e:TypeId):Blk (w.alloc (.cells us.toArray e)) w.heap.size us:=
 ⟨by simp,fun i u hu=>by
  have hi:=(List.getElem?_eq_some_iff.1 hu).1
  rw[World.cell?_alloc_at (hn:=by simp)]
  simp[hu],fun i=>World.frozen?_alloc_at _ _ _ _ rfl⟩
theorem Blk.below (t:Blk w h us) {B:Nat} (hB:h<B) (hb:Below B w w'):Blk w' h us:=
 ⟨Nat.lt_of_lt_of_le t.lt hb.size,fun i u hu=>(hb.cell (p:=⟨h,i,none⟩) hB).trans (t.cells i u hu),fun i=>(hb.frozen (p:=⟨h,i,none⟩) hB).trans (t.fz i)⟩
theorem Blk.grow (t:Blk w h us) (hb:Below w.heap.size w w'):Blk w' h us:=t.below t.lt hb
end
section
variable {w w':World}
end
section
variable {P:Program}
end
end Go.Proofs.YtiobnllopliclaaGreatDoor
