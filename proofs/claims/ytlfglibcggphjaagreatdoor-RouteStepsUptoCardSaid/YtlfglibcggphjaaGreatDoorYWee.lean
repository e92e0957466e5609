/- Sizes of entries; a name's parent, again (split off YOf, YRow, YMath: no view, no policy). By an AI agent. -/
import Derived.Test.YtlfglibcggphjaaGreatDoorEY
import Derived.Test.YtlfglibcggphjaaGreatDoorMI
set_option linter.unusedSimpArgs false
set_option linter.unusedVariables false
namespace Go.Proofs.YtlfglibcggphjaaGreatDoor
open Go.RowKit
def WeeN (e:EN):Prop:=e.1.length<=1000000/\e.2.length<=1000000/\∀a∈e.2,a.2.length<=1000000/\∀u∈a.2,u.length<=1000000
theorem EnAt.below {w w':World} {B g o:Nat} {e:EN} {V:Option Addr} {c:Nat} {ys:List Value} (h:EnAt w B g o e V c ys) (hg:g<B) (hb:Below B w w'):EnAt w' B g o e V c ys:=
 ⟨(hb.cell (p:=⟨g,o,none⟩) hg).trans h.e0,(hb.cell (p:=⟨g,o+1,none⟩) hg).trans h.e1,h.cap,h.most,h.has.below hb,h.attrs.below hb⟩
end Go.Proofs.YtlfglibcggphjaaGreatDoor
