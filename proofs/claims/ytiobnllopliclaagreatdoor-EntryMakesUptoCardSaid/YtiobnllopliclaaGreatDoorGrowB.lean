/- A drawn region that writes into one block alone. By an AI agent. -/
import Derived.Test.YtiobnllopliclaaGreatDoorGrow
namespace Go.Proofs.YtiobnllopliclaaGreatDoor
open Go Go.RowKit
set_option linter.unusedVariables false
def upBut (row:Option Nat) (w:World):World→Prop:=fun W=>w.grownBy W row
instance butWay (row:Option Nat):Way (upBut row):=⟨fun w=>World.grownBy.refl w _,fun h k=>⟨k.os.trans h.os,k.tape.trans h.tape,k.output.trans h.output,Nat.le_trans h.size k.size,fun j hj hne=>(k.block j (Nat.lt_of_lt_of_le hj h.size) hne).trans (h.block j hj hne)⟩⟩
theorem grow_begin_but {P:Program} {ops:Array Oper} {Q:Exit→Act→World→Prop} (row:Option Nat) {id:Nat} {a:Act} {w:World} (hm:P.follows .mixedOrders=true)
  (h:wpAnyG (upBut row) P .any ops Q ops.size (Array.replicate ops.size false) a w.drew):(Code.region id ops true).wp P Q a w:=
 wp_region_any hm (wpAny_of_grow _ _ _ _ h)
theorem upBut.cell {row:Option Nat} {w W:World} (h:upBut row w W) {p:Addr} (hp:p.block<w.heap.size) (hne:some p.block≠row):W.cell? p=w.cell? p:=World.cell?_of_block (h.block _ hp hne)
end Go.Proofs.YtiobnllopliclaaGreatDoor
