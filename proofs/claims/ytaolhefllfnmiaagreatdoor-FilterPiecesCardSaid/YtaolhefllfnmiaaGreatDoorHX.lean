/- Several texts in one: HMath, HTree, HFind, HPieces, HMatch, HVals, HFit. By an AI agent. -/
import Derived.WalkKit
import Derived.Test.YtaolhefllfnmiaaGreatDoorMI
import Derived.Deep.MidRow
import Derived.Deep.CutRange
import Derived.Test.YtaolhefllfnmiaaGreatDoorMD
namespace Go.Proofs.YtaolhefllfnmiaaGreatDoor
set_option linter.unusedVariables false
inductive FT where
 | mk (k:Int) (a v f l:List UInt8) (any:List (List UInt8)) (ps:List FT)
namespace FT
theorem induct {P:FT→Prop} (h:∀k a v f l any ps,(∀p∈ps,P p)→P (.mk k a v f l any ps)):∀t,P t
 | .mk k a v f l any ps=>h k a v f l any ps fun p hp=>induct h p
termination_by t=>SizeOf.sizeOf t
decreasing_by
 have:=List.sizeOf_lt_of_mem hp
 simp only[FT.mk.sizeOf_spec]
 omega
def kind:FT→Int | .mk k _ _ _ _ _ _=>k
def parts:FT→List FT | .mk _ _ _ _ _ _ ps=>ps
mutual
def nodes:FT→Nat
 | .mk _ _ _ _ _ _ ps=>nodesL ps+1
def nodesL:List FT→Nat
 | []=>0
 | p::r=>nodes p+nodesL r
end
mutual
def depth:FT→Nat
 | .mk _ _ _ _ _ _ ps=>depthL ps+1
def depthL:List FT→Nat
 | []=>0
 | p::r=>max (depth p) (depthL r)
end
theorem nodes_pos:∀t:FT,1≤t.nodes
 | .mk ..=>by simp[nodes]
theorem depth_pos:∀t:FT,1≤t.depth
 | .mk ..=>by simp[depth]
def capL (ps:List FT):Nat:=(ps.map fun p=>min p.nodes 41).sum
theorem capL_le:∀ps:List FT,capL ps≤nodesL ps
 | []=>by simp[capL,nodesL]
 | p::r=>by have:=capL_le r;simp only[capL,List.map_cons,List.sum_cons,nodesL] at this ⊢;omega
theorem cap_min:∀ps:List FT,min (capL ps+1) 41=min (nodesL ps+1) 41
 | []=>rfl
 | p::r=>by have:=cap_min r;simp only[capL,List.map_cons,List.sum_cons,nodesL] at this ⊢;omega
theorem capL_take {ps:List FT} {i:Nat} {p:FT} (h:ps[i]?=some p):capL (ps.take (i+1))=capL (ps.take i)+min p.nodes 41:=by
 rw[List.take_add_one,h]
 simp[capL]
theorem capL_mono:∀(ps:List FT) (i:Nat),capL (ps.take i)≤capL ps
 | [],i=>by simp[capL]
 | p::r,0=>by simp[capL]
 | p::r,i+1=>by have:=capL_mono r i;simp only[capL,List.take_succ_cons,List.map_cons,List.sum_cons] at this ⊢;omega
theorem cap_over {ps:List FT} {i:Nat} (h:40<capL (ps.take i)+1) (t:FT) (ht:t.parts=ps):min t.nodes 41=41:=by
 have h1:=capL_mono ps i
 have h2:=capL_le ps
 cases t with
 | mk k a v f l any qs=>
  cases ht
  simp only[parts] at h h1 h2
  simp only[nodes]
  omega
def deepL (ps:List FT) (m:Nat):Nat:=(ps.map fun p=>min p.depth m).foldl max 0
theorem foldl_max (l:List Nat) (x:Nat):l.foldl max x=max x (l.foldl max 0):=by
 induction l generalizing x with
 | nil=>simp
 | cons a r ih=>simp only[List.foldl_cons];rw[ih (max x a),ih (max 0 a)];omega
theorem deepL_take {ps:List FT} {i m:Nat} {p:FT} (h:ps[i]?=some p):deepL (ps.take (i+1)) m=max (deepL (ps.take i) m) (min p.depth m):=by
 rw[List.take_add_one,h]
 simp[deepL]
theorem deepL_min (m:Nat):∀ps:List FT,deepL ps m=min (depthL ps) m
 | []=>by simp[deepL,depthL]
 | p::r=>by
  have:=deepL_min m r
  simp only[deepL,List.map_cons,List.foldl_cons,depthL] at this ⊢
  rw[foldl_max]
  omega
def letter (c:UInt8):Bool:=(97≤c.toNat&&c.toNat≤122)||(65≤c.toNat&&c.toNat≤90)
def sign8 (c:UInt8):Bool:=letter c||(48≤c.toNat&&c.toNat≤57)||c.toNat==45
def attrOk (s:List UInt8):Bool:=1≤s.length&&s.length≤40&&(s.headD 0 |> letter)&&s.all sign8
def fits (s:List UInt8):Bool:=1≤s.length&&s.length≤200
def bare:FT→Bool
 | .mk k a v f l any ps=>
  let none:=f==[]&&l==[]&&any==[]
  if k=0∨k=1 then a==[]&&v==[]&&none
  else if k=2 then a==[]&&v==[]&&none&&ps.length==1
  else if k=3∨k=5∨k=6∨k=8 then attrOk a&&fits v&&none&&ps.isEmpty
  else if k=7 then attrOk a&&v==[]&&none&&ps.isEmpty
  else if k=4 then any.all fits&&attrOk a&&v==[]&& !none&&ps.isEmpty&&f.length≤200&&l.length≤200
  else false
mutual
def all:FT→Bool
 | .mk k a v f l any ps=>bare (.mk k a v f l any ps)&&allL ps
def allL:List FT→Bool
 | []=>true
 | p::r=>all p&&allL r
end
theorem allL_all:∀ps:List FT,allL ps=ps.all FT.all
 | []=>rfl
 | p::r=>by simp[allL,allL_all r]
def formed (t:FT):Bool:=t.nodes≤40&&t.depth≤20&&t.all
def dig (n:Nat):UInt8:=if n<10 then UInt8.ofNat (48+n) else UInt8.ofNat (87+n)
def marked (c:UInt8):Bool:=c.toNat<32||126<c.toNat||c.toNat==42||c.toNat==40||c.toNat==41||c.toNat==92
def esc1 (c:UInt8):List UInt8:=if marked c then [92,dig (c.toNat/16),dig (c.toNat % 16)] else [c]
def esc (s:List UInt8):List UInt8:=s.flatMap esc1
theorem esc_len (s:List UInt8):(esc s).length≤3*s.length:=by
 induction s with
 | nil=>simp[esc]
 | cons c r ih=>
  simp only[esc,List.flatMap_cons,List.length_append,List.length_cons] at ih ⊢
  have:(esc1 c).length≤3:=by unfold esc1;split<;>simp
  omega
def sign (k:Int):List UInt8:=if k=5 then [62,61] else if k=6 then [60,61] else if k=8 then [126,61] else [61]
def head8 (k:Int):UInt8:=if k=0 then 38 else if k=1 then 124 else 33
mutual
def text:FT→List UInt8
 | .mk k a v f l any ps=>
  40::((if k=0∨k=1∨k=2 then head8 k::textL ps
   else if k=7 then a++[61,42]
   else if k=4 then a++[61]++esc f++[42]++any.flatMap (fun x=>esc x++[42])++esc l
   else a++sign k++esc v)++[41])
def textL:List FT→List UInt8
 | []=>[]
 | p::r=>text p++textL r
end
theorem textL_flat:∀ps:List FT,textL ps=ps.flatMap text
 | []=>rfl
 | p::r=>by simp[textL,textL_flat r]
mutual
def small:FT→Int→Int→Int
 | .mk k a v f l any ps,d,n=>
  if 40<d∨100<any.length∨2000<v.length∨2000<a.length∨2000<f.length∨2000<l.length then -1
  else if any.any (fun x=>2000<x.length) then -1
  else smallL ps (d+1) (n-1)
def smallL:List FT→Int→Int→Int
 | [],d,n=>n
 | p::r,d,n=>if n<0 then -1 else smallL r d (small p d n)
end
end FT
end Go.Proofs.YtaolhefllfnmiaaGreatDoor
namespace Go.Proofs.YtaolhefllfnmiaaGreatDoor
open Go.RowKit
set_option linter.unusedVariables false
mutual
def FIn (w:World) (B:Nat):FT→List Value→Prop
 | .mk k a v f l any ps,cs=>∃A c D d xs,cs=[.int .i64 k,.string (txt a),.string (txt v),.string (txt f),.string (txt l),.slice A any.length c,.slice D ps.length d]∧
   (any.length≤maxLen∧ps.length≤maxLen)∧Has w B 1 A any.length (strs any)∧Has w B 7 D ps.length xs∧FsIn w B ps xs
def FsIn (w:World) (B:Nat):List FT→List Value→Prop
 | [],xs=>xs=[]
 | p::r,xs=>FIn w B p (xs.take 7)∧FsIn w B r (xs.drop 7)
end
section
variable {w w':World} {B B':Nat}
theorem FIn.len:∀{t:FT} {cs:List Value},FIn w B t cs→cs.length=7
 | .mk ..,cs,h=>by simp only[FIn] at h;obtain⟨A,c,D,d,xs,rfl,_⟩:=h;rfl
theorem FsIn.len:∀{ps:List FT} {xs:List Value},FsIn w B ps xs→xs.length=7*ps.length
 | [],xs,h=>by simp only[FsIn] at h;subst h;rfl
 | p::r,xs,h=>by
  simp only[FsIn] at h
  have h1:=FIn.len h.1
  have h2:=FsIn.len h.2
  simp only[List.length_take,List.length_drop,List.length_cons] at h1 h2 ⊢
  omega
mutual
theorem FIn.move (hH:∀(sz:Nat) (A:Option Addr) (n:Nat) (xs:List Value),Has w B sz A n xs→Has w' B' sz A n xs):∀(t:FT) (cs:List Value),FIn w B t cs→FIn w' B' t cs
 | .mk k a v f l any ps,cs,h=>by
  simp only[FIn] at h ⊢
  obtain⟨A,c,D,d,xs,h1,hm,h2,h3,h4⟩:=h
  exact⟨A,c,D,d,xs,h1,hm,hH _ _ _ _ h2,hH _ _ _ _ h3,FsIn.move hH ps xs h4⟩
theorem FsIn.move (hH:∀(sz:Nat) (A:Option Addr) (n:Nat) (xs:List Value),Has w B sz A n xs→Has w' B' sz A n xs):∀(ps:List FT) (xs:List Value),FsIn w B ps xs→FsIn w' B' ps xs
 | [],xs,h=>by simp only[FsIn] at h ⊢;exact h
 | p::r,xs,h=>by
  simp only[FsIn] at h ⊢
  exact⟨FIn.move hH p _ h.1,FsIn.move hH r _ h.2⟩
end
theorem FIn.below {t:FT} {cs:List Value} (h:FIn w B t cs) (hb:Below B w w'):FIn w' B t cs:=FIn.move (fun _ _ _ _ h=>h.below hb) t cs h
theorem FIn.upto {t:FT} {cs:List Value} (h:FIn w B t cs) (hB:B≤B'):FIn w B' t cs:=FIn.move (fun _ _ _ _ h=>h.upto hB) t cs h
theorem FsIn.below {ps:List FT} {xs:List Value} (h:FsIn w B ps xs) (hb:Below B w w'):FsIn w' B ps xs:=FsIn.move (fun _ _ _ _ h=>h.below hb) ps xs h
theorem FsIn.upto {ps:List FT} {xs:List Value} (h:FsIn w B ps xs) (hB:B≤B'):FsIn w B' ps xs:=FsIn.move (fun _ _ _ _ h=>h.upto hB) ps xs h
theorem FIn.grow {t:FT} {cs:List Value} (h:FIn w w.heap.size t cs) (hb:Below w.heap.size w w'):FIn w' w'.heap.size t cs:=(h.below hb).upto hb.size
theorem FsIn.at_:∀{ps:List FT} {xs:List Value} (h:FsIn w B ps xs) (i:Nat) (p:FT),ps[i]?=some p→FIn w B p ((xs.drop (i*7)).take 7)
 | [],xs,h,i,p,hp=>by simp at hp
 | q::r,xs,h,0,p,hp=>by
  simp only[FsIn] at h
  simp only[List.getElem?_cons_zero,Option.some.injEq] at hp
  subst hp
  simpa using h.1
 | q::r,xs,h,i+1,p,hp=>by
  simp only[FsIn] at h
  simp only[List.getElem?_cons_succ] at hp
  have:=FsIn.at_ h.2 i p hp
  rw[List.drop_drop] at this
  rwa [show (i+1)*7=7+i*7 by omega]
theorem FsIn.snoc:∀{ps:List FT} {xs:List Value} {p:FT} {cs:List Value},FsIn w B ps xs→FIn w B p cs→FsIn w B (ps++[p]) (xs++cs)
 | [],xs,p,cs,h,hp=>by
  simp only[FsIn] at h
  subst h
  have:=hp.len
  simp only[List.nil_append,FsIn]
  refine⟨by rw[List.take_of_length_le (by omega)];exact hp,List.drop_eq_nil_of_le (by omega)⟩
 | q::r,xs,p,cs,h,hp=>by
  have hl:=h.len
  simp only[List.length_cons] at hl
  simp only[FsIn] at h
  simp only[List.cons_append,FsIn]
  refine⟨by rw[List.take_append_of_le_length (by omega)];exact h.1,?_⟩
  rw[List.drop_append_of_le_length (by omega)]
  exact FsIn.snoc h.2 hp
structure Box7 (w:World) (b:Nat) (k:Int) (a v f l:ByteArray) (A:Option Addr) (m c:Nat) (D:Option Addr) (n d:Nat):Prop where
 lt:b<w.heap.size
 c0:w.cell? ⟨b,0,none⟩=some (.int .i64 k)
 c1:w.cell? ⟨b,1,none⟩=some (.string a)
 c2:w.cell? ⟨b,2,none⟩=some (.string v)
 c3:w.cell? ⟨b,3,none⟩=some (.string f)
 c4:w.cell? ⟨b,4,none⟩=some (.string l)
 c5:w.cell? ⟨b,5,none⟩=some (.slice A m c)
 c6:w.cell? ⟨b,6,none⟩=some (.slice D n d)
variable {k:Int} {a v f l:ByteArray} {A D:Option Addr} {m c n d b:Nat}
theorem Box7.new (w:World) (k:Int) (a v f l:ByteArray) (A:Option Addr) (m c:Nat) (D:Option Addr) (n d:Nat) (e:TypeId):
  Box7 (w.alloc (.cells #[.int .i64 k,.string a,.string v,.string f,.string l,.slice A m c,.slice D n d] e)) w.heap.size k a v f l A m c D n d:=by
 refine⟨by simp,?_,?_,?_,?_,?_,?_,?_⟩<;>(rw[World.cell?_alloc_at (hn:=by simp)];rfl)
theorem Box7.below {E:Nat} (h:Box7 w b k a v f l A m c D n d) (hE:b<E) (hb:Below E w w'):Box7 w' b k a v f l A m c D n d:=
 ⟨Nat.lt_of_lt_of_le h.lt hb.size,(hb.cell (p:=⟨b,0,none⟩) hE).trans h.c0,(hb.cell (p:=⟨b,1,none⟩) hE).trans h.c1,(hb.cell (p:=⟨b,2,none⟩) hE).trans h.c2,(hb.cell (p:=⟨b,3,none⟩) hE).trans h.c3,
  (hb.cell (p:=⟨b,4,none⟩) hE).trans h.c4,(hb.cell (p:=⟨b,5,none⟩) hE).trans h.c5,(hb.cell (p:=⟨b,6,none⟩) hE).trans h.c6⟩
structure Part7 (w:World) (B g o:Nat) (p:FT) (u0 u1 u2 u3 u4 u5 u6:Value):Prop where
 fin:FIn w B p [u0,u1,u2,u3,u4,u5,u6]
 lt:g<B
 e0:w.cell? ⟨g,o,none⟩=some u0
 e1:w.cell? ⟨g,o+1,none⟩=some u1
 e2:w.cell? ⟨g,o+2,none⟩=some u2
 e3:w.cell? ⟨g,o+3,none⟩=some u3
 e4:w.cell? ⟨g,o+4,none⟩=some u4
 e5:w.cell? ⟨g,o+5,none⟩=some u5
 e6:w.cell? ⟨g,o+6,none⟩=some u6
theorem Part7.below {g o:Nat} {p:FT} {u0 u1 u2 u3 u4 u5 u6:Value} (h:Part7 w B g o p u0 u1 u2 u3 u4 u5 u6) (hb:Below B w w'):Part7 w' B g o p u0 u1 u2 u3 u4 u5 u6:=
 ⟨h.fin.below hb,h.lt,(hb.cell (p:=⟨g,o,none⟩) h.lt).trans h.e0,(hb.cell (p:=⟨g,o+1,none⟩) h.lt).trans h.e1,(hb.cell (p:=⟨g,o+2,none⟩) h.lt).trans h.e2,(hb.cell (p:=⟨g,o+3,none⟩) h.lt).trans h.e3,
  (hb.cell (p:=⟨g,o+4,none⟩) h.lt).trans h.e4,(hb.cell (p:=⟨g,o+5,none⟩) h.lt).trans h.e5,(hb.cell (p:=⟨g,o+6,none⟩) h.lt).trans h.e6⟩
theorem Part7.up {g o:Nat} {p:FT} {u0 u1 u2 u3 u4 u5 u6:Value} (h:Part7 w B g o p u0 u1 u2 u3 u4 u5 u6) (hB:B≤B'):Part7 w B' g o p u0 u1 u2 u3 u4 u5 u6:=
 ⟨h.fin.upto hB,Nat.lt_of_lt_of_le h.lt hB,h.e0,h.e1,h.e2,h.e3,h.e4,h.e5,h.e6⟩
theorem seven {cs:List Value} (h:cs.length=7):∃u0 u1 u2 u3 u4 u5 u6,cs=[u0,u1,u2,u3,u4,u5,u6]:=by
 match cs,h with
 | [u0,u1,u2,u3,u4,u5,u6],_=>exact⟨_,_,_,_,_,_,_,rfl⟩
theorem Has.part {xs:List Value} {ps:List FT} (h:Has w B 7 D ps.length xs) (hf:FsIn w B ps xs) (hn:ps≠[]):
  ∃g o,D=some ⟨g,o,none⟩∧g<B∧∀(i:Nat) (p:FT),ps[i]?=some p→∃u0 u1 u2 u3 u4 u5 u6,Part7 w B g (o+i*7) p u0 u1 u2 u3 u4 u5 u6:=by
 have hl:=hf.len
 have hp:=List.length_pos_iff.2 hn
 obtain⟨g,o,rfl,hg,hc⟩:=h.lies (by omega)
 refine⟨g,o,rfl,hg,fun i p hi=>?_⟩
 have hfin:=hf.at_ i p hi
 obtain⟨u0,u1,u2,u3,u4,u5,u6,he⟩:=seven hfin.len
 have key:∀(j:Nat) (u:Value),[u0,u1,u2,u3,u4,u5,u6][j]?=some u→w.cell? ⟨g,o+i*7+j,none⟩=some u:=by
  intro j u hu
  rw[←he] at hu
  have:=hc (i*7+j) u (by
   rw[List.getElem?_take] at hu
   split at hu
   ·rwa [List.getElem?_drop] at hu
   ·cases hu)
  rwa [←Nat.add_assoc] at this
 rw[he] at hfin
 exact⟨u0,u1,u2,u3,u4,u5,u6,hfin,hg,key 0 _ rfl,key 1 _ rfl,key 2 _ rfl,key 3 _ rfl,key 4 _ rfl,key 5 _ rfl,key 6 _ rfl⟩
end
theorem bne_of {b c:List UInt8} {x:Bool} (h:(b==c)=x):(b !=c)= !x:=by unfold bne;rw[h]
theorem infoF:(Tryz.prog.info? 33).map (fun i=>(i.zero,i.size,i.bytes))=some (some (.agg #[.int .i64 0,.string .empty,.string .empty,.string .empty,.string .empty,.slice none 0 0,.slice none 0 0]),7,120):=by kernel_rfl
theorem infoG:(Tryz.prog.info? 25).map (fun i=>(i.zero,i.size,i.bytes))=some (some (.agg #[.int .i64 0,.string .empty,.string .empty,.string .empty,.string .empty,.slice none 0 0,.slice none 0 0]),7,120):=by kernel_rfl
end Go.Proofs.YtaolhefllfnmiaaGreatDoor
namespace Go.Proofs.YtaolhefllfnmiaaGreatDoor
open Go.RowKit
set_option linter.unusedVariables false
def findV (s p:List UInt8) (i:Nat):Int:=
 if s.length<i+p.length then -1 else if (s.drop i).take p.length=p then (i:Int) else findV s p (i+1)
termination_by s.length+1-i
decreasing_by omega
theorem findV_end {s p:List UInt8} {i:Nat} (h:s.length<i+p.length):findV s p i= -1:=by rw[findV,if_pos h]
theorem findV_hit {s p:List UInt8} {i:Nat} (h:¬s.length<i+p.length) (h1:(s.drop i).take p.length=p):findV s p i=(i:Int):=by rw[findV,if_neg h,if_pos h1]
theorem findV_next {s p:List UInt8} {i:Nat} (h:¬s.length<i+p.length) (h1:¬(s.drop i).take p.length=p):findV s p i=findV s p (i+1):=by rw[findV,if_neg h,if_neg h1]
theorem findV_range (s p:List UInt8) (i:Nat):findV s p i= -1∨∃k:Nat,findV s p i=(k:Int)∧i≤k∧k+p.length≤s.length∧(s.drop k).take p.length=p:=by
 induction h:s.length+1-i generalizing i with
 | zero=>left;exact findV_end (by omega)
 | succ n ih=>
  by_cases h1:s.length<i+p.length
  ·left;exact findV_end h1
  by_cases h2:(s.drop i).take p.length=p
  ·right;exact⟨i,findV_hit h1 h2,Nat.le_refl _,by omega,h2⟩
  rw[findV_next h1 h2]
  rcases ih (i+1) (by omega) with h3 | ⟨k,e,h4,h5,h6⟩
  ·exact .inl h3
  ·exact .inr ⟨k,e,by omega,h5,h6⟩
end Go.Proofs.YtaolhefllfnmiaaGreatDoor
namespace Go.Proofs.YtaolhefllfnmiaaGreatDoor
open Go.RowKit
set_option linter.unusedVariables false
def asV (small:Bool) (p:List UInt8):List UInt8:=if small then lows p else p
theorem asV_len (small:Bool) (p:List UInt8):(asV small p).length=p.length:=by
 unfold asV;split
 ·exact lows_length p
 ·rfl
def piecesFrom (small:Bool) (s:List UInt8):Nat→List (List UInt8)→Bool
 | _,[]=>true
 | k,p::r=>if findV s (asV small p) k<0 then false else piecesFrom small s ((findV s (asV small p) k).toNat+p.length) r
def piecesV (f l:List UInt8) (any:List (List UInt8)) (s:List UInt8) (small:Bool):Bool:=
 if s.length<f.length+l.length then false
 else if ¬s.take f.length=asV small f then false
 else if ¬s.drop (s.length-l.length)=asV small l then false
 else piecesFrom small (s.take (s.length-l.length)) f.length any
end Go.Proofs.YtaolhefllfnmiaaGreatDoor
namespace Go.Proofs.YtaolhefllfnmiaaGreatDoor
open Go.RowKit
set_option linter.unusedVariables false
theorem cmp_ex (n a b:List UInt8):∃c,∃x y f,CmpIs n a b x y c f:=by
 obtain⟨x,y,c,f,h⟩:=cmp_or n a b
 exact⟨c,x,y,f,h⟩
theorem near_ex (n a b:List UInt8):∃t,∃x y f,NearIs n a b x y t f:=by
 obtain⟨x,y,t,f,h⟩:=near_or n a b
 exact⟨t,x,y,f,h⟩
noncomputable def cmpV (n a b:List UInt8):Int:=Classical.choose (cmp_ex n a b)
noncomputable def nearV (n a b:List UInt8):Bool:=Classical.choose (near_ex n a b)
theorem cmpV_is (n a b:List UInt8):∃x y f,CmpIs n a b x y (cmpV n a b) f:=Classical.choose_spec (cmp_ex n a b)
theorem nearV_is (n a b:List UInt8):∃x y f,NearIs n a b x y (nearV n a b) f:=Classical.choose_spec (near_ex n a b)
noncomputable def matchV (k:Int) (a v x:List UInt8):Bool:=
 if (valV a x).2≠0 then false
 else if k=3∨(typ a).2=5 then (valV a x).1==(valV a v).1
 else if k=8 then nearV a x v
 else (k==5&&decide (0≤cmpV a x v))||(k==6&&decide (cmpV a x v≤0))
end Go.Proofs.YtaolhefllfnmiaaGreatDoor
namespace Go.Proofs.YtaolhefllfnmiaaGreatDoor
open Go.RowKit
set_option linter.unusedVariables false
abbrev At2:=List UInt8 × List (List UInt8)
structure AsIn (w:World) (B:Nat) (xs:List Value) (L:List At2):Prop where
 len:xs.length=L.length*2
 each:∀(i:Nat) (a:At2),L[i]?=some a→∃A c,xs[i*2]?=some (.string (txt a.1))∧xs[i*2+1]?=some (.slice A a.2.length c)∧Has w B 1 A a.2.length (strs a.2)
theorem AsIn.below {w w':World} {B:Nat} {xs:List Value} {L:List At2} (h:AsIn w B xs L) (hb:Below B w w'):AsIn w' B xs L:=
 ⟨h.len,fun i a ha=>by obtain⟨A,c,h1,h2,h3⟩:=h.each i a ha;exact⟨A,c,h1,h2,h3.below hb⟩⟩
theorem AsIn.upto {w:World} {B B':Nat} {xs:List Value} {L:List At2} (h:AsIn w B xs L) (hB:B≤B'):AsIn w B' xs L:=
 ⟨h.len,fun i a ha=>by obtain⟨A,c,h1,h2,h3⟩:=h.each i a ha;exact⟨A,c,h1,h2,h3.upto hB⟩⟩
theorem AsIn.grow {w w':World} {xs:List Value} {L:List At2} (h:AsIn w w.heap.size xs L) (hb:Below w.heap.size w w'):AsIn w' w'.heap.size xs L:=(h.below hb).upto hb.size
theorem Has.attr {w:World} {B n:Nat} {A:Option Addr} {xs:List Value} {L:List At2} (h:Has w B 2 A n xs) (hL:AsIn w B xs L) (hn:L≠[]):
  ∃g o,A=some ⟨g,o,none⟩∧g<B∧∀(i:Nat) (a:At2),L[i]?=some a→∃V c,w.cell? ⟨g,o+i*2,none⟩=some (.string (txt a.1))∧w.cell? ⟨g,o+i*2+1,none⟩=some (.slice V a.2.length c)∧Has w B 1 V a.2.length (strs a.2):=by
 have hp:=List.length_pos_iff.2 hn
 obtain⟨g,o,rfl,hg,hc⟩:=h.lies (by rw[hL.len];omega)
 refine⟨g,o,rfl,hg,fun i a ha=>?_⟩
 obtain⟨V,c,h1,h2,h3⟩:=hL.each i a ha
 exact⟨V,c,hc _ _ h1,by have:=hc _ _ h2;rwa [←Nat.add_assoc] at this,h3⟩
noncomputable def valsV (L:List At2) (name:List UInt8):List (List UInt8):=L.flatMap fun a=>if (typ a.1).1=(typ name).1 then a.2 else []
theorem vals_len:∀(L:List At2) (name:List UInt8),(valsV L name).length≤(L.flatMap (·.2)).length
 | [],_=>by simp[valsV]
 | a::r,name=>by
  have:=vals_len r name
  simp only[valsV,List.flatMap_cons,List.length_append] at this ⊢
  split
  ·omega
  ·simp only[List.length_nil];omega
theorem flat_take_le:∀(L:List At2) (i:Nat),((L.take i).flatMap (·.2)).length≤(L.flatMap (·.2)).length
 | [],i=>by simp
 | p::r,0=>by simp
 | p::r,i+1=>by
  have:=flat_take_le r i
  simp only[List.take_succ_cons,List.flatMap_cons,List.length_append]
  omega
theorem mem_flat_le {L:List At2} {i:Nat} {a:At2} (h:L[i]?=some a):((L.take i).flatMap (·.2)).length+a.2.length≤(L.flatMap (·.2)).length:=by
 have:=flat_take_le L (i+1)
 rw[List.take_add_one,h] at this
 simpa using this
end Go.Proofs.YtaolhefllfnmiaaGreatDoor
namespace Go.Proofs.YtaolhefllfnmiaaGreatDoor
set_option linter.unusedVariables false
theorem findV_le {s p:List UInt8} {q:Nat} (h1:q+p.length≤s.length) (h2:(s.drop q).take p.length=p):∀(i:Nat),i≤q→∃r:Nat,findV s p i=(r:Int)∧i≤r∧r≤q:=by
 intro i
 induction h:q-i generalizing i with
 | zero=>
  intro hi
  obtain rfl:i=q:=by omega
  exact⟨i,findV_hit (by omega) h2,Nat.le_refl _,Nat.le_refl _⟩
 | succ n ih=>
  intro hi
  by_cases h3:(s.drop i).take p.length=p
  ·exact ⟨i,findV_hit (by omega) h3,Nat.le_refl _,hi⟩
  ·obtain ⟨r,e,h4,h5⟩:=ih (i+1) (by omega) (by omega)
   exact⟨r,(findV_next (by omega) h3).trans e,by omega,h5⟩
inductive FitsAt (s:List UInt8):Nat→List (List UInt8)→Prop where
 | nil (k:Nat):FitsAt s k []
 | cons {k q:Nat} {p:List UInt8} {r:List (List UInt8)} (h0:k≤q) (h1:q+p.length≤s.length) (h2:(s.drop q).take p.length=p) (h:FitsAt s (q+p.length) r):FitsAt s k (p::r)
theorem fits_found {s:List UInt8} {any:List (List UInt8)}:∀{k k':Nat},FitsAt s k any→k'≤k→piecesFrom false s k' any=true:=by
 induction any with
 | nil=>intro k k' _ _;rfl
 | cons p r ih=>
  intro k k' h hk
  cases h with
  | cons h0 h1 h2 h=>
   obtain⟨q',e,h3,h4⟩:=findV_le h1 h2 k' (by omega)
   rw[piecesFrom]
   rw[show asV false p=p from rfl,e,if_neg (by omega)]
   exact ih h (by rw[Int.toNat_natCast];omega)
theorem FitsAt.snoc {s:List UInt8} {k:Nat} {any:List (List UInt8)} (h:FitsAt s k any) (hk:k≤s.length) (b p:List UInt8):FitsAt (s++b++p) k (any++[p]):=by
 have one:∀k,k≤s.length→FitsAt (s++b++p) k [p]:=fun k hk=>by
  refine .cons (q:=(s++b).length) (by rw[List.length_append];omega) (by simp only[List.length_append];omega) ?_ (.nil _)
  rw[List.drop_append_of_le_length (Nat.le_refl _)]
  simp
 induction h with
 | nil k=>exact one k hk
 | cons h0 h1 h2 h ih=>
  refine .cons h0 (by simp only[List.length_append];omega) ?_ (ih h1)
  rw[List.append_assoc,List.drop_append_of_le_length (by omega),List.take_append_of_le_length (by rw[List.length_drop];omega)]
  exact h2
theorem fits_pieces {f m l:List UInt8} {any:List (List UInt8)} (h:FitsAt (f++m) f.length any):piecesV f l any (f++m++l) false=true:=by
 unfold piecesV
 rw[if_neg (by simp only[List.length_append];omega)]
 have e1:(f++m++l).take f.length=asV false f:=by rw[List.append_assoc,List.take_append_of_le_length (Nat.le_refl _),List.take_length];rfl
 have e0:(f++m++l).length-l.length=(f++m).length:=by simp only[List.length_append];omega
 have e2:(f++m++l).drop ((f++m++l).length-l.length)=asV false l:=by rw[e0,List.drop_append_of_le_length (Nat.le_refl _)];simp[asV]
 have e3:(f++m++l).take ((f++m++l).length-l.length)=f++m:=by rw[e0,List.take_append_of_le_length (Nat.le_refl _),List.take_length]
 rw[if_neg (by simp only[e1];simp),if_neg (by simp only[e2];simp),e3]
 exact fits_found h (Nat.le_refl _)
end Go.Proofs.YtaolhefllfnmiaaGreatDoor
