/- A START THAT THE ROWS FIT: the listed variables hold what the program's text lays, and the library's table of first bytes what it holds. By an AI agent. -/
import Derived.LaidMore
import Derived.ProofKit
import Derived.LaidLaws
import Derived.Test.YtdkekamkmlpnhaaGreatDoorMA
set_option linter.unusedSimpArgs false
set_option linter.unusedVariables false
set_option maxRecDepth 1000000
namespace Go.Proofs.YtdkekamkmlpnhaaGreatDoor
open Go.Lib
def laidHeap (h:Array Obj):Array Obj:=h.modify 7 fun
 | .cells _ t fr=>.cells (firstTab.map fun z=>Value.int .u8 z).toArray t fr
 | o=>o
theorem zMt (os:Os) (args:Array Value):laidMetH Tryz.prog laid (({ World.doorLaid Tryz.prog 400 os with heap:=laidHeap (World.doorLaid Tryz.prog 400 os).heap }:World).forCall (fun _ _=>0) ⟨#[],args,[]⟩).memory:=
 laidMetH_of_parts3 (fuel:=8) (laidMet_of_run' 8 (by kernel_rfl) (by kernel_rfl)) (by kernel_rfl) (by kernel_rfl)
theorem zGr (os:Os) (args:Array Value):(({ World.doorLaid Tryz.prog 400 os with heap:=laidHeap (World.doorLaid Tryz.prog 400 os).heap }:World).forCall (fun _ _=>0) ⟨#[],args,[]⟩).Shaped Tryz.prog:=
 World.shaped_of_RefB (by kernel_rfl) (by kernel_rfl)
end Go.Proofs.YtdkekamkmlpnhaaGreatDoor
