/- Several texts in one: HOne, HFew, HEval. By an AI agent. -/
import Derived.Test.YtaolhefllfnmiaaGreatDoorHX
import Derived.Deep.CutBlock
import Derived.Test.YtaolhefllfnmiaaGreatDoorHY
namespace Go.Proofs.YtaolhefllfnmiaaGreatDoor
open Go.RowKit
set_option linter.unusedVariables false
noncomputable def pieceV (a f l:List UInt8) (any:List (List UInt8)) (ty:Int) (x:List UInt8):Bool:=(norm a x).2==0&&piecesV f l any (norm a x).1 (ty==1)
noncomputable def oneV (L:List At2) (k:Int) (a v f l:List UInt8) (any:List (List UInt8)):Int:=
 if (typ a).2=0 then -1
 else if k=7 then (if 0<(valsV L a).length then 1 else 0)
 else if k=4 then (if 2<(typ a).2 then -1 else if (valsV L a).any (pieceV a f l any (typ a).2) then 1 else 0)
 else if (valV a v).2≠0∨((k=5∨k=6)∧((typ a).2=2∨(typ a).2=5)) then -1
 else if (valsV L a).any (matchV k a v) then 1 else 0
structure AsOk (L:List At2):Prop where
 ty:∀a∈L,a.1.length≤281474976710656
 val:∀a∈L,∀x∈a.2,x.length≤1000000
 tot:(L.flatMap (·.2)).length≤900000
end Go.Proofs.YtaolhefllfnmiaaGreatDoor
namespace Go.Proofs.YtaolhefllfnmiaaGreatDoor
open Go.RowKit
set_option linter.unusedVariables false
def wX (l:List (List UInt8)):Nat:=(l.map fun x=>x.length/100).sum
def wA (a:At2):Nat:=1+a.2.length+wX a.2
end Go.Proofs.YtaolhefllfnmiaaGreatDoor
namespace Go.Proofs.YtaolhefllfnmiaaGreatDoor
open Go.RowKit
set_option linter.unusedVariables false
def combV (k:Int) (es:List Int) (o:Int):Int:=
 if k=2 then (match es with | e::_=>if e<0 then e else 1-e | []=>0)
 else if k=0∨k=1 then (if es.contains k then k else if es.any (fun e=>decide (e<0)) then -1 else 1-k)
 else o
mutual
noncomputable def FT.evalT (L:List At2):FT→Int
 | .mk k a v f l any ps=>combV k (FT.evalL L ps) (oneV L k a v f l any)
noncomputable def FT.evalL (L:List At2):List FT→List Int
 | []=>[]
 | p::r=>FT.evalT L p::FT.evalL L r
end
theorem FT.evalL_map (L:List At2):∀ps:List FT,FT.evalL L ps=ps.map (FT.evalT L)
 | []=>rfl
 | p::r=>by simp[FT.evalL,FT.evalL_map L r]
theorem one_range (L:List At2) (k:Int) (a v f l:List UInt8) (any:List (List UInt8)): -1≤oneV L k a v f l any∧oneV L k a v f l any≤1:=by
 unfold oneV
 repeat' split
 all_goals omega
theorem FT.eval_range (L:List At2) (t:FT): -1≤t.evalT L∧t.evalT L≤1:=by
 induction t using FT.induct
 rename_i k a v f l any ps ih
 have ho:=one_range L k a v f l any
 simp only[FT.evalT,FT.evalL_map,combV]
 split
 ·cases ps with
  | nil=>simp
  | cons p r=>
   have:=ih p (by simp)
   simp only[List.map_cons]
   split<;>omega
 ·split
  ·split
   ·omega
   ·split<;>omega
  ·exact ho
noncomputable def FT.evalV (L:List At2) (t:FT):Int:=if t.formed then t.evalT L else -1
theorem comb_hit {k:Int} {es:List Int} {o:Int} (hk:k=0∨k=1) (h:k∈es):combV k es o=k:=by
 unfold combV
 rw[if_neg (by omega),if_pos hk,if_pos (by simpa using h)]
theorem comb_end {k:Int} {es:List Int} {o:Int} (hk:k=0∨k=1) (h:∀e∈es,e≠k) (b:Bool) (hb:es.any (fun e=>decide (e<0))=b):combV k es o=if b then -1 else 1-k:=by
 unfold combV
 rw[if_neg (by omega),if_pos hk,if_neg (by simp only[List.contains_iff_mem];exact fun hm=>h k hm rfl),hb]
end Go.Proofs.YtaolhefllfnmiaaGreatDoor
