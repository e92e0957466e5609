/- A drawn region that writes into one block, and into those from B on. By an AI agent. -/
import Derived.Test.YtiobnllopliclaaGreatDoorGrowL
namespace Go.Proofs.YtiobnllopliclaaGreatDoor
open Go Go.RowKit
set_option linter.unusedVariables false
set_option linter.unusedSimpArgs false
structure upBB (B:Nat) (row:Option Nat) (w W:World):Prop where
 os:W.os=w.os
 tape:W.tape=w.tape
 output:W.output=w.output
 size:w.heap.size≤W.heap.size
 block:∀k,k<B→some k≠row→W.heap[k]?=w.heap[k]?
instance bbWay (B:Nat) (row:Option Nat):Way (upBB B row):=⟨fun w=>⟨rfl,rfl,rfl,Nat.le_refl _,fun _ _ _=>rfl⟩,fun h k=>⟨k.os.trans h.os,k.tape.trans h.tape,k.output.trans h.output,Nat.le_trans h.size k.size,fun j hj hne=>(k.block j hj hne).trans (h.block j hj hne)⟩⟩
theorem bb_of_below {B:Nat} (row:Option Nat) {w W:World} (hD:B≤w.heap.size) (h:Below w.heap.size w W):upBB B row w W:=⟨h.os,h.tape,h.output,h.size,fun k hk _=>h.block k (Nat.lt_of_lt_of_le hk hD)⟩
theorem bb_of_grown {B:Nat} {row:Option Nat} {w W:World} (hB:B≤w.heap.size) (h:w.grownBy W row):upBB B row w W:=⟨h.os,h.tape,h.output,h.size,fun k hk hne=>h.block k (Nat.lt_of_lt_of_le hk hB) hne⟩
theorem upBB.cell {B:Nat} {row:Option Nat} {w W:World} (h:upBB B row w W) {p:Addr} (hp:p.block<B) (hne:some p.block≠row):W.cell? p=w.cell? p:=World.cell?_of_block (h.block _ hp hne)
theorem grow_begin_bbL {P:Program} {ops:Array Oper} {Q:Exit→Act→World→Prop} (B:Nat) (row:Option Nat) (z:Nat) {id:Nat} {a:Act} {w:World} (hm:P.follows .mixedOrders=true)
  (h:wpAnyL (upBB B row) P .any ops Q z ops.size (Array.replicate ops.size false) a w.drew):(Code.region id ops true).wp P Q a w:=
 wp_region_any hm (wpAny_of_growL _ _ _ _ h)
end Go.Proofs.YtiobnllopliclaaGreatDoor
