/- Filters as trees: how many stand in one, how deep it is, whether it is formed, its text. Plain mathematics. By an AI agent. -/
import Derived.WalkKit
set_option linter.unusedSimpArgs false
set_option linter.unusedVariables false
namespace Go.Proofs.YtcpjmgfloimfhaaGreat
inductive FT where
 | mk (k:Int) (a v f l:List UInt8) (any:List (List UInt8)) (ps:List FT)
namespace FT
theorem induct {P:FT->Prop} (h:∀k a v f l any ps,(∀p∈ps,P p)->P (.mk k a v f l any ps)):∀t,P t
 | .mk k a v f l any ps=>h k a v f l any ps fun p hp=>induct h p
termination_by t=>SizeOf.sizeOf t
decreasing_by
 have:=List.sizeOf_lt_of_mem hp
 simp only[FT.mk.sizeOf_spec]
 omega
def kind:FT->Int | .mk k _ _ _ _ _ _=>k
def parts:FT->List FT | .mk _ _ _ _ _ _ ps=>ps
mutual
def nodes:FT->Nat
 | .mk _ _ _ _ _ _ ps=>nodesL ps+1
def nodesL:List FT->Nat
 | []=>0
 | p::r=>nodes p+nodesL r
end
mutual
def depth:FT->Nat
 | .mk _ _ _ _ _ _ ps=>depthL ps+1
def depthL:List FT->Nat
 | []=>0
 | p::r=>max (depth p) (depthL r)
end
theorem nodes_pos:∀t:FT,1<=t.nodes
 | .mk ..=>by simp[nodes]
theorem depth_pos:∀t:FT,1<=t.depth
 | .mk ..=>by simp[depth]
def letter (c:UInt8):Bool:=(97<=c.toNat&&c.toNat<=122)||(65<=c.toNat&&c.toNat<=90)
def sign8 (c:UInt8):Bool:=letter c||(48<=c.toNat&&c.toNat<=57)||c.toNat==45
def attrOk (s:List UInt8):Bool:=1<=s.length&&s.length<=40&&(s.headD 0 |> letter)&&s.all sign8
def fits (s:List UInt8):Bool:=1<=s.length&&s.length<=200
def bare:FT->Bool
 | .mk k a v f l any ps=>
  let none:=f==[]&&l==[]&&any==[]
  if k=0\/k=1 then a==[]&&v==[]&&none
  else if k=2 then a==[]&&v==[]&&none&&ps.length==1
  else if k=3\/k=5\/k=6\/k=8 then attrOk a&&fits v&&none&&ps.isEmpty
  else if k=7 then attrOk a&&v==[]&&none&&ps.isEmpty
  else if k=4 then any.all fits&&attrOk a&&v==[]&& !none&&ps.isEmpty&&f.length<=200&&l.length<=200
  else false
mutual
def all:FT->Bool
 | .mk k a v f l any ps=>bare (.mk k a v f l any ps)&&allL ps
def allL:List FT->Bool
 | []=>true
 | p::r=>all p&&allL r
end
theorem allL_all:∀ps:List FT,allL ps=ps.all FT.all
 | []=>rfl
 | p::r=>by simp[allL,allL_all r]
def formed (t:FT):Bool:=t.nodes<=40&&t.depth<=20&&t.all
def dig (n:Nat):UInt8:=if n<10 then UInt8.ofNat (48+n) else UInt8.ofNat (87+n)
def marked (c:UInt8):Bool:=c.toNat<32||126<c.toNat||c.toNat==42||c.toNat==40||c.toNat==41||c.toNat==92
def esc1 (c:UInt8):List UInt8:=if marked c then [92,dig (c.toNat/16),dig (c.toNat % 16)] else [c]
def esc (s:List UInt8):List UInt8:=s.flatMap esc1
def sign (k:Int):List UInt8:=if k=5 then [62,61] else if k=6 then [60,61] else if k=8 then [126,61] else [61]
def head8 (k:Int):UInt8:=if k=0 then 38 else if k=1 then 124 else 33
mutual
def text:FT->List UInt8
 | .mk k a v f l any ps=>
  40::((if k=0\/k=1\/k=2 then head8 k::textL ps
   else if k=7 then a++[61,42]
   else if k=4 then a++[61]++esc f++[42]++any.flatMap (fun x=>esc x++[42])++esc l
   else a++sign k++esc v)++[41])
def textL:List FT->List UInt8
 | []=>[]
 | p::r=>text p++textL r
end
mutual
def small:FT->Int->Int->Int
 | .mk k a v f l any ps,d,n=>
  if 40<d\/100<any.length\/2000<v.length\/2000<a.length\/2000<f.length\/2000<l.length then -1
  else if any.any (fun x=>2000<x.length) then -1
  else smallL ps (d+1) (n-1)
def smallL:List FT->Int->Int->Int
 | [],d,n=>n
 | p::r,d,n=>if n<0 then -1 else smallL r d (small p d n)
end
end FT
end Go.Proofs.YtcpjmgfloimfhaaGreat
