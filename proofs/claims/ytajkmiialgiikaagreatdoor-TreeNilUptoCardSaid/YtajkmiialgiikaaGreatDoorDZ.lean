/- Several texts in one: DForms, DPuts, DDraft, DDrop, DAdd, DSums, DPlus, DPlusP, DInc. By an AI agent. -/
import Derived.Test.YtajkmiialgiikaaGreatDoorDM
import Derived.Laws.MakeOwn
import Derived.Test.YtajkmiialgiikaaGreatDoorDP
import Derived.Test.YtajkmiialgiikaaGreatDoorMB
import Derived.Test.YtajkmiialgiikaaGreatDoorDX
set_option linter.unusedSimpArgs false
set_option linter.unusedVariables false
namespace Go.Proofs.YtajkmiialgiikaaGreatDoor
open Go.RowKit Go.Maps
noncomputable def dropV (t:List UInt8) (l:List (List UInt8)) (n:List UInt8):List (List UInt8):=l.filter fun u=>decide ((valV t u).1≠n)
noncomputable def addL (L:List EA) (t:List UInt8) (vs:List (List UInt8)):List EA × Int:=
 if vs=[] then ([],19) else if (gatherL L t vs).2=0 then gatherL L t vs else ([],20)
noncomputable def replaceL (L:List EA) (t:List UInt8) (vs:List (List UInt8)):List EA × Int:=
 if (gatherL (setE L t []) t vs).2=0 then gatherL (setE L t []) t vs else ([],20)
open Classical in
noncomputable def dropsL (t:List UInt8):List EA->List (List UInt8)->List EA × Int
 | L,[]=>(L,0)
 | L,v::vs=>if ∃x∈pickE L t,(valV t x).1=(valV t v).1 then dropsL t (setE L t (dropV t (pickE L t) (valV t v).1)) vs else ([],16)
noncomputable def removeL (L:List EA) (t:List UInt8) (vs:List (List UInt8)):List EA × Int:=
 if pickE L t=[] then ([],16) else if vs=[] then (setE L t [],0) else dropsL t L vs
end Go.Proofs.YtajkmiialgiikaaGreatDoor
namespace Go.Proofs.YtajkmiialgiikaaGreatDoor
open Go.RowKit Flt
def RaiseR (x:Int) (v u s:List UInt8):Prop:=
 (x=3/\∃a b,IsInt v a/\IsInt u b/\IsInt s (a+b))\/(x=4/\∃a b c d,Small a/\Small b/\Small c/\Small d/\v=text a b/\u=text c d/\Small (a+c)/\Small (b+d)/\s=text (a+c) (b+d))
end Go.Proofs.YtajkmiialgiikaaGreatDoor
namespace Go.Proofs.YtajkmiialgiikaaGreatDoor
open Go Go.RowKit Go.Maps
open Classical in
noncomputable def sumV (x:Int) (v u:List UInt8):List UInt8:=if h:∃s,RaiseR x v u s then Classical.choose h else []
open Classical in
noncomputable def incL (L:List EA) (t:List UInt8) (x:Int) (vs:List (List UInt8)):List EA × Int:=
 if ¬(x=3\/x=4)\/vs.length≠1 then ([],19) else if pickE L t=[] then ([],16)
 else if ∃v∈pickE L t,¬∃s,RaiseR x v (vs.headD []) s then ([],19) else (setE L t ((pickE L t).map fun v=>sumV x v (vs.headD [])),0)
end Go.Proofs.YtajkmiialgiikaaGreatDoor
