/- Several texts in one: QConcat, QJoin, QMove, QFacts, QFew, QSame, QValue, QPValue. By an AI agent. -/
import Derived.Test.YtlfglibcggphjaaGreatDoorMH
import Derived.Lib.AppendZeros
set_option linter.unusedSimpArgs false
set_option linter.unusedVariables false
namespace Go.Proofs.YtlfglibcggphjaaGreatDoor
open Go.RowKit
structure Two (w:World) (h:Nat) (u v:Value):Prop where
 c0:w.cell? ⟨h,0,none⟩=some u
 c1:w.cell? ⟨h,1,none⟩=some v
 lt:h<w.heap.size
theorem zDq {l:List UInt8} (h:(normT l).2=0):normT (normT l).1=normT l/\(normT l).1.length<=1000:=by
 cases pt l with
 | no e he h'=>rw[norm_no' h'] at h;simp only at h;omega
 | ok T ho h'=>
  rw[norm_yes' h'];exact⟨norm_yes' (zIi ho),ho.len⟩
end Go.Proofs.YtlfglibcggphjaaGreatDoor
