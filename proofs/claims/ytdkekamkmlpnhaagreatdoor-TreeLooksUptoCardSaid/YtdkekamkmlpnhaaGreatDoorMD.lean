/- Several texts in one: RBoth, RSame4, RCmpMath, RCompare, RRCompare, RNearMath, RBare, RNear. By an AI agent. -/
import Derived.OwnWalk
import Derived.Lib.Bytealg
import Derived.Lib.Replace
import Derived.Lib.SplitLaws
import Derived.Lib.IndexBytes
import Derived.Lib.IndexLaws
import Derived.Test.YtdkekamkmlpnhaaGreatDoorMC
import Derived.Test.YtdkekamkmlpnhaaGreatDoorMB
import Derived.Test.YtdkekamkmlpnhaaGreatDoorWords
set_option linter.unusedSimpArgs false
set_option linter.unusedVariables false
namespace Go.Proofs.YtdkekamkmlpnhaaGreatDoor
open Go.RowKit
structure Mx (w:World):Prop where
 max:∃m,w.cell? ⟨1,0,none⟩=some (.int .i64 m)
theorem cell_lt {w:World} {g:Nat} {v:Value} (h:w.cell? ⟨g,0,none⟩=some v):g<w.heap.size:=by
 rcases Nat.lt_or_ge g w.heap.size with hlt | hge
 ·exact hlt
 ·exfalso;have hn:w.heap[g]?=none:=Array.getElem?_eq_none hge;simp[World.cell?,hn] at h
theorem Mx.below {w w':World} (h:Mx w) (hb:Below w.heap.size w w'):Mx w':=by
 obtain⟨m,hm⟩:=h.max;exact⟨m,(hb.cell (p:=⟨1,0,none⟩) (cell_lt hm)).trans hm⟩
end Go.Proofs.YtdkekamkmlpnhaaGreatDoor
