/- A row of entries whose lists lie elsewhere. By an AI agent. -/
import Derived.Test.YtajkmiialgiikaaGreatDoorEY
set_option linter.unusedSimpArgs false
set_option linter.unusedVariables false
namespace Go.Proofs.YtajkmiialgiikaaGreatDoor
open Go.RowKit
theorem ENs.snoc {w:World} {B:Nat} {xs:List Value} {L:List EN} (h:ENs w B xs L) {a:EN} {A:Option Addr} {c:Nat} {ys:List Value} (hc:a.2.length<=c) (hm:c<=maxLen) (hH:Has w B 2 A a.2.length ys) (hE:EAs w B ys a.2):ENs w B (xs++[.string (txt a.1),.slice A a.2.length c]) (L++[a]):=
 (h.ensP.snoc hc hm hH.hasP hE.easP).ens fun b hb=>hb
section
variable {w w':World} {B base:Nat} {E:TypeId} {v v':Value} {zs:List Value} {L:List EN}
end
end Go.Proofs.YtajkmiialgiikaaGreatDoor
