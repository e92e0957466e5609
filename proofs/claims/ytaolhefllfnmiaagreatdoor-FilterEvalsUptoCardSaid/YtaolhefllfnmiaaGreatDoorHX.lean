/- Several texts in one: HMath, HTree, HFind, HPieces, HMatch, HVals, HFit. By an AI agent. -/
import Derived.WalkKit
import Derived.Test.YtaolhefllfnmiaaGreatDoorMI
import Derived.Deep.MidRow
import Derived.Deep.CutRange
import Derived.Test.YtaolhefllfnmiaaGreatDoorMD
set_option maxRecDepth 100000
set_option maxHeartbeats 32000000
namespace Go.Proofs.YtaolhefllfnmiaaGreatDoor
set_option linter.unusedVariables false
inductive FT where
 | mk (k:Int) (a v f l:List UInt8) (any:List (List UInt8)) (ps:List FT)
namespace FT
theorem induct {P:FT→Prop} (h:∀k a v f l any ps,(∀p∈ps,P p)→P (.mk k a v f l any ps)):∀t,P t
 | .mk k a v f l any ps=>h k a v f l any ps fun p hp=>induct h p
termination_by t=>SizeOf.sizeOf t
decreasing_by
 have:=List.sizeOf_lt_of_mem hp
 simp only[FT.mk.sizeOf_spec]
 omega
def kind:FT→Int | .mk k _ _ _ _ _ _=>k
def parts:FT→List FT | .mk _ _ _ _ _ _ ps=>ps
mutual
def nodes:FT→Nat
 | .mk _ _ _ _ _ _ ps=>nodesL ps+1
def nodesL:List FT→Nat
 | []=>0
 | p::r=>nodes p+nodesL r
end
mutual
def depth:FT→Nat
 | .mk _ _ _ _ _ _ ps=>depthL ps+1
def depthL:List FT→Nat
 | []=>0
 | p::r=>max (depth p) (depthL r)
end
theorem nodes_pos:∀t:FT,1≤t.nodes
 | .mk ..=>by simp[nodes]
theorem depth_pos:∀t:FT,1≤t.depth
 | .mk ..=>by simp[depth]
def capL (ps:List FT):Nat:=(ps.map fun p=>min p.nodes 41).sum
theorem capL_le:∀ps:List FT,capL ps≤nodesL ps
 | []=>by simp[capL,nodesL]
 | p::r=>by have:=capL_le r;simp only[capL,List.map_cons,List.sum_cons,nodesL] at this ⊢;omega
theorem cap_min:∀ps:List FT,min (capL ps+1) 41=min (nodesL ps+1) 41
 | []=>rfl
 | p::r=>by have:=cap_min r;simp only[capL,List.map_cons,List.sum_cons,nodesL] at this ⊢;omega
theorem capL_take {ps:List FT} {i:Nat} {p:FT} (h:ps[i]?=some p):capL (ps.take (i+1))=capL (ps.take i)+min p.nodes 41:=by
 rw[List.take_add_one,h]
 simp[capL]
theorem capL_mono:∀(ps:List FT) (i:Nat),capL (ps.take i)≤capL ps
 | [],i=>by simp[capL]
 | p::r,0=>by simp[capL]
 | p::r,i+1=>by have:=capL_mono r i;simp only[capL,List.take_succ_cons,List.map_cons,List.sum_cons] at this ⊢;omega
theorem cap_over {ps:List FT} {i:Nat} (h:40<capL (ps.take i)+1) (t:FT) (ht:t.parts=ps):min t.nodes 41=41:=by
 have h1:=capL_mono ps i
 have h2:=capL_le ps
 cases t with
 | mk k a v f l any qs=>
  cases ht
  simp only[parts] at h h1 h2
  simp only[nodes]
  omega
def deepL (ps:List FT) (m:Nat):Nat:=(ps.map fun p=>min p.depth m).foldl max 0
theorem foldl_max (l:List Nat) (x:Nat):l.foldl max x=max x (l.foldl max 0):=by
 induction l generalizing x with
 | nil=>simp
 | cons a r ih=>simp only[List.foldl_cons];rw[ih (max x a),ih (max 0 a)];omega
theorem deepL_take {ps:List FT} {i m:Nat} {p:FT} (h:ps[i]?=some p):deepL (ps.take (i+1)) m=max (deepL (ps.take i) m) (min p.depth m):=by
 rw[List.take_add_one,h]
 simp[deepL]
theorem deepL_min (m:Nat):∀ps:List FT,deepL ps m=min (depthL ps) m
 | []=>by simp[deepL,depthL]
 | p::r=>by
  have:=deepL_min m r
  simp only[deepL,List.map_cons,List.foldl_cons,depthL] at this ⊢
  rw[foldl_max]
  omega
def letter (c:UInt8):Bool:=(97≤c.toNat&&c.toNat≤122)||(65≤c.toNat&&c.toNat≤90)
def sign8 (c:UInt8):Bool:=letter c||(48≤c.toNat&&c.toNat≤57)||c.toNat==45
def attrOk (s:List UInt8):Bool:=1≤s.length&&s.length≤40&&(s.headD 0 |> letter)&&s.all sign8
def fits (s:List UInt8):Bool:=1≤s.length&&s.length≤200
def bare:FT→Bool
 | .mk k a v f l any ps=>
  let none:=f==[]&&l==[]&&any==[]
  if k=0∨k=1 then a==[]&&v==[]&&none
  else if k=2 then a==[]&&v==[]&&none&&ps.length==1
  else if k=3∨k=5∨k=6∨k=8 then attrOk a&&fits v&&none&&ps.isEmpty
  else if k=7 then attrOk a&&v==[]&&none&&ps.isEmpty
  else if k=4 then any.all fits&&attrOk a&&v==[]&& !none&&ps.isEmpty&&f.length≤200&&l.length≤200
  else false
mutual
def all:FT→Bool
 | .mk k a v f l any ps=>bare (.mk k a v f l any ps)&&allL ps
def allL:List FT→Bool
 | []=>true
 | p::r=>all p&&allL r
end
theorem allL_all:∀ps:List FT,allL ps=ps.all FT.all
 | []=>rfl
 | p::r=>by simp[allL,allL_all r]
def formed (t:FT):Bool:=t.nodes≤40&&t.depth≤20&&t.all
def dig (n:Nat):UInt8:=if n<10 then UInt8.ofNat (48+n) else UInt8.ofNat (87+n)
def marked (c:UInt8):Bool:=c.toNat<32||126<c.toNat||c.toNat==42||c.toNat==40||c.toNat==41||c.toNat==92
def esc1 (c:UInt8):List UInt8:=if marked c then [92,dig (c.toNat/16),dig (c.toNat % 16)] else [c]
def esc (s:List UInt8):List UInt8:=s.flatMap esc1
def sign (k:Int):List UInt8:=if k=5 then [62,61] else if k=6 then [60,61] else if k=8 then [126,61] else [61]
def head8 (k:Int):UInt8:=if k=0 then 38 else if k=1 then 124 else 33
mutual
def text:FT→List UInt8
 | .mk k a v f l any ps=>
  40::((if k=0∨k=1∨k=2 then head8 k::textL ps
   else if k=7 then a++[61,42]
   else if k=4 then a++[61]++esc f++[42]++any.flatMap (fun x=>esc x++[42])++esc l
   else a++sign k++esc v)++[41])
def textL:List FT→List UInt8
 | []=>[]
 | p::r=>text p++textL r
end
mutual
def small:FT→Int→Int→Int
 | .mk k a v f l any ps,d,n=>
  if 40<d∨100<any.length∨2000<v.length∨2000<a.length∨2000<f.length∨2000<l.length then -1
  else if any.any (fun x=>2000<x.length) then -1
  else smallL ps (d+1) (n-1)
def smallL:List FT→Int→Int→Int
 | [],d,n=>n
 | p::r,d,n=>if n<0 then -1 else smallL r d (small p d n)
end
end FT
end Go.Proofs.YtaolhefllfnmiaaGreatDoor
namespace Go.Proofs.YtaolhefllfnmiaaGreatDoor
open Go.RowKit
set_option linter.unusedVariables false
mutual
def FIn (w:World) (B:Nat):FT→List Value→Prop
 | .mk k a v f l any ps,cs=>∃A c D d xs,cs=[.int .i64 k,.string (txt a),.string (txt v),.string (txt f),.string (txt l),.slice A any.length c,.slice D ps.length d]∧
   (any.length≤maxLen∧ps.length≤maxLen)∧Has w B 1 A any.length (strs any)∧Has w B 7 D ps.length xs∧FsIn w B ps xs
def FsIn (w:World) (B:Nat):List FT→List Value→Prop
 | [],xs=>xs=[]
 | p::r,xs=>FIn w B p (xs.take 7)∧FsIn w B r (xs.drop 7)
end
section
variable {w w':World} {B B':Nat}
theorem FIn.len:∀{t:FT} {cs:List Value},FIn w B t cs→cs.length=7
 | .mk ..,cs,h=>by simp only[FIn] at h;obtain⟨A,c,D,d,xs,rfl,_⟩:=h;rfl
theorem FsIn.len:∀{ps:List FT} {xs:List Value},FsIn w B ps xs→xs.length=7*ps.length
 | [],xs,h=>by simp only[FsIn] at h;subst h;rfl
 | p::r,xs,h=>by
  simp only[FsIn] at h
  have h1:=FIn.len h.1
  have h2:=FsIn.len h.2
  simp only[List.length_take,List.length_drop,List.length_cons] at h1 h2 ⊢
  omega
mutual
theorem FIn.move (hH:∀(sz:Nat) (A:Option Addr) (n:Nat) (xs:List Value),Has w B sz A n xs→Has w' B' sz A n xs):∀(t:FT) (cs:List Value),FIn w B t cs→FIn w' B' t cs
 | .mk k a v f l any ps,cs,h=>by
  simp only[FIn] at h ⊢
  obtain⟨A,c,D,d,xs,h1,hm,h2,h3,h4⟩:=h
  exact⟨A,c,D,d,xs,h1,hm,hH _ _ _ _ h2,hH _ _ _ _ h3,FsIn.move hH ps xs h4⟩
theorem FsIn.move (hH:∀(sz:Nat) (A:Option Addr) (n:Nat) (xs:List Value),Has w B sz A n xs→Has w' B' sz A n xs):∀(ps:List FT) (xs:List Value),FsIn w B ps xs→FsIn w' B' ps xs
 | [],xs,h=>by simp only[FsIn] at h ⊢;exact h
 | p::r,xs,h=>by
  simp only[FsIn] at h ⊢
  exact⟨FIn.move hH p _ h.1,FsIn.move hH r _ h.2⟩
end
theorem FIn.below {t:FT} {cs:List Value} (h:FIn w B t cs) (hb:Below B w w'):FIn w' B t cs:=FIn.move (fun _ _ _ _ h=>h.below hb) t cs h
theorem FIn.upto {t:FT} {cs:List Value} (h:FIn w B t cs) (hB:B≤B'):FIn w B' t cs:=FIn.move (fun _ _ _ _ h=>h.upto hB) t cs h
theorem FsIn.below {ps:List FT} {xs:List Value} (h:FsIn w B ps xs) (hb:Below B w w'):FsIn w' B ps xs:=FsIn.move (fun _ _ _ _ h=>h.below hb) ps xs h
theorem FsIn.upto {ps:List FT} {xs:List Value} (h:FsIn w B ps xs) (hB:B≤B'):FsIn w B' ps xs:=FsIn.move (fun _ _ _ _ h=>h.upto hB) ps xs h
theorem FIn.grow {t:FT} {cs:List Value} (h:FIn w w.heap.size t cs) (hb:Below w.heap.size w w'):FIn w' w'.heap.size t cs:=(h.below hb).upto hb.size
theorem FsIn.at_:∀{ps:List FT} {xs:List Value} (h:FsIn w B ps xs) (i:Nat) (p:FT),ps[i]?=some p→FIn w B p ((xs.drop (i*7)).take 7)
 | [],xs,h,i,p,hp=>by simp at hp
 | q::r,xs,h,0,p,hp=>by
  simp only[FsIn] at h
  simp only[List.getElem?_cons_zero,Option.some.injEq] at hp
  subst hp
  simpa using h.1
 | q::r,xs,h,i+1,p,hp=>by
  simp only[FsIn] at h
  simp only[List.getElem?_cons_succ] at hp
  have:=FsIn.at_ h.2 i p hp
  rw[List.drop_drop] at this
  rwa [show (i+1)*7=7+i*7 by omega]
theorem FsIn.snoc:∀{ps:List FT} {xs:List Value} {p:FT} {cs:List Value},FsIn w B ps xs→FIn w B p cs→FsIn w B (ps++[p]) (xs++cs)
 | [],xs,p,cs,h,hp=>by
  simp only[FsIn] at h
  subst h
  have:=hp.len
  simp only[List.nil_append,FsIn]
  refine⟨by rw[List.take_of_length_le (by omega)];exact hp,List.drop_eq_nil_of_le (by omega)⟩
 | q::r,xs,p,cs,h,hp=>by
  have hl:=h.len
  simp only[List.length_cons] at hl
  simp only[FsIn] at h
  simp only[List.cons_append,FsIn]
  refine⟨by rw[List.take_append_of_le_length (by omega)];exact h.1,?_⟩
  rw[List.drop_append_of_le_length (by omega)]
  exact FsIn.snoc h.2 hp
structure Box7 (w:World) (b:Nat) (k:Int) (a v f l:ByteArray) (A:Option Addr) (m c:Nat) (D:Option Addr) (n d:Nat):Prop where
 lt:b<w.heap.size
 c0:w.cell? ⟨b,0,none⟩=some (.int .i64 k)
 c1:w.cell? ⟨b,1,none⟩=some (.string a)
 c2:w.cell? ⟨b,2,none⟩=some (.string v)
 c3:w.cell? ⟨b,3,none⟩=some (.string f)
 c4:w.cell? ⟨b,4,none⟩=some (.string l)
 c5:w.cell? ⟨b,5,none⟩=some (.slice A m c)
 c6:w.cell? ⟨b,6,none⟩=some (.slice D n d)
variable {k:Int} {a v f l:ByteArray} {A D:Option Addr} {m c n d b:Nat}
theorem Box7.new (w:World) (k:Int) (a v f l:ByteArray) (A:Option Addr) (m c:Nat) (D:Option Addr) (n d:Nat) (e:TypeId):
  Box7 (w.alloc (.cells #[.int .i64 k,.string a,.string v,.string f,.string l,.slice A m c,.slice D n d] e)) w.heap.size k a v f l A m c D n d:=by
 refine⟨by simp,?_,?_,?_,?_,?_,?_,?_⟩<;>(rw[World.cell?_alloc_at (hn:=by simp)];rfl)
theorem Box7.below {E:Nat} (h:Box7 w b k a v f l A m c D n d) (hE:b<E) (hb:Below E w w'):Box7 w' b k a v f l A m c D n d:=
 ⟨Nat.lt_of_lt_of_le h.lt hb.size,(hb.cell (p:=⟨b,0,none⟩) hE).trans h.c0,(hb.cell (p:=⟨b,1,none⟩) hE).trans h.c1,(hb.cell (p:=⟨b,2,none⟩) hE).trans h.c2,(hb.cell (p:=⟨b,3,none⟩) hE).trans h.c3,
  (hb.cell (p:=⟨b,4,none⟩) hE).trans h.c4,(hb.cell (p:=⟨b,5,none⟩) hE).trans h.c5,(hb.cell (p:=⟨b,6,none⟩) hE).trans h.c6⟩
structure Part7 (w:World) (B g o:Nat) (p:FT) (u0 u1 u2 u3 u4 u5 u6:Value):Prop where
 fin:FIn w B p [u0,u1,u2,u3,u4,u5,u6]
 lt:g<B
 e0:w.cell? ⟨g,o,none⟩=some u0
 e1:w.cell? ⟨g,o+1,none⟩=some u1
 e2:w.cell? ⟨g,o+2,none⟩=some u2
 e3:w.cell? ⟨g,o+3,none⟩=some u3
 e4:w.cell? ⟨g,o+4,none⟩=some u4
 e5:w.cell? ⟨g,o+5,none⟩=some u5
 e6:w.cell? ⟨g,o+6,none⟩=some u6
theorem Part7.below {g o:Nat} {p:FT} {u0 u1 u2 u3 u4 u5 u6:Value} (h:Part7 w B g o p u0 u1 u2 u3 u4 u5 u6) (hb:Below B w w'):Part7 w' B g o p u0 u1 u2 u3 u4 u5 u6:=
 ⟨h.fin.below hb,h.lt,(hb.cell (p:=⟨g,o,none⟩) h.lt).trans h.e0,(hb.cell (p:=⟨g,o+1,none⟩) h.lt).trans h.e1,(hb.cell (p:=⟨g,o+2,none⟩) h.lt).trans h.e2,(hb.cell (p:=⟨g,o+3,none⟩) h.lt).trans h.e3,
  (hb.cell (p:=⟨g,o+4,none⟩) h.lt).trans h.e4,(hb.cell (p:=⟨g,o+5,none⟩) h.lt).trans h.e5,(hb.cell (p:=⟨g,o+6,none⟩) h.lt).trans h.e6⟩
theorem seven {cs:List Value} (h:cs.length=7):∃u0 u1 u2 u3 u4 u5 u6,cs=[u0,u1,u2,u3,u4,u5,u6]:=by
 match cs,h with
 | [u0,u1,u2,u3,u4,u5,u6],_=>exact⟨_,_,_,_,_,_,_,rfl⟩
theorem Has.part {xs:List Value} {ps:List FT} (h:Has w B 7 D ps.length xs) (hf:FsIn w B ps xs) (hn:ps≠[]):
  ∃g o,D=some ⟨g,o,none⟩∧g<B∧∀(i:Nat) (p:FT),ps[i]?=some p→∃u0 u1 u2 u3 u4 u5 u6,Part7 w B g (o+i*7) p u0 u1 u2 u3 u4 u5 u6:=by
 have hl:=hf.len
 have hp:=List.length_pos_iff.2 hn
 obtain⟨g,o,rfl,hg,hc⟩:=h.lies (by omega)
 refine⟨g,o,rfl,hg,fun i p hi=>?_⟩
 have hfin:=hf.at_ i p hi
 obtain⟨u0,u1,u2,u3,u4,u5,u6,he⟩:=seven hfin.len
 have key:∀(j:Nat) (u:Value),[u0,u1,u2,u3,u4,u5,u6][j]?=some u→w.cell? ⟨g,o+i*7+j,none⟩=some u:=by
  intro j u hu
  rw[←he] at hu
  have:=hc (i*7+j) u (by
   rw[List.getElem?_take] at hu
   split at hu
   ·rwa [List.getElem?_drop] at hu
   ·cases hu)
  rwa [←Nat.add_assoc] at this
 rw[he] at hfin
 exact⟨u0,u1,u2,u3,u4,u5,u6,hfin,hg,key 0 _ rfl,key 1 _ rfl,key 2 _ rfl,key 3 _ rfl,key 4 _ rfl,key 5 _ rfl,key 6 _ rfl⟩
end
theorem bne_of {b c:List UInt8} {x:Bool} (h:(b==c)=x):(b !=c)= !x:=by unfold bne;rw[h]
theorem infoF:(Tryz.prog.info? 33).map (fun i=>(i.zero,i.size,i.bytes))=some (some (.agg #[.int .i64 0,.string .empty,.string .empty,.string .empty,.string .empty,.slice none 0 0,.slice none 0 0]),7,120):=by kernel_rfl
end Go.Proofs.YtaolhefllfnmiaaGreatDoor
namespace Go.Proofs.YtaolhefllfnmiaaGreatDoor
open Go.RowKit
set_option linter.unusedVariables false
def findV (s p:List UInt8) (i:Nat):Int:=
 if s.length<i+p.length then -1 else if (s.drop i).take p.length=p then (i:Int) else findV s p (i+1)
termination_by s.length+1-i
decreasing_by omega
theorem findV_end {s p:List UInt8} {i:Nat} (h:s.length<i+p.length):findV s p i= -1:=by rw[findV,if_pos h]
theorem findV_hit {s p:List UInt8} {i:Nat} (h:¬s.length<i+p.length) (h1:(s.drop i).take p.length=p):findV s p i=(i:Int):=by rw[findV,if_neg h,if_pos h1]
theorem findV_next {s p:List UInt8} {i:Nat} (h:¬s.length<i+p.length) (h1:¬(s.drop i).take p.length=p):findV s p i=findV s p (i+1):=by rw[findV,if_neg h,if_neg h1]
theorem findV_range (s p:List UInt8) (i:Nat):findV s p i= -1∨∃k:Nat,findV s p i=(k:Int)∧i≤k∧k+p.length≤s.length∧(s.drop k).take p.length=p:=by
 induction h:s.length+1-i generalizing i with
 | zero=>left;exact findV_end (by omega)
 | succ n ih=>
  by_cases h1:s.length<i+p.length
  ·left;exact findV_end h1
  by_cases h2:(s.drop i).take p.length=p
  ·right;exact⟨i,findV_hit h1 h2,Nat.le_refl _,by omega,h2⟩
  rw[findV_next h1 h2]
  rcases ih (i+1) (by omega) with h3 | ⟨k,e,h4,h5,h6⟩
  ·exact .inl h3
  ·exact .inr ⟨k,e,by omega,h5,h6⟩
theorem rtruth_any (b:Bool) (w:World):Calls Tryz.prog 76 #[.bool b] w fun e w'=>e=.returned (.int .i64 (if b then 1 else 0))∧w'=w:=by
 cases b
 ·go_enter Tryz.func76,Tryz.ntmps76
  go_wp2
  go_ret
  exact⟨rfl,rfl⟩
 ·go_enter Tryz.func76,Tryz.ntmps76
  go_wp2
  go_ret
  exact⟨rfl,rfl⟩
theorem rfind_any (s p:List UInt8) (i0:Nat) (hs:s.length≤1000000) (hp:p.length≤1000000) (hi0:i0≤1000000) (w:World):
  Calls Tryz.prog 104 #[.string (txt s),.string (txt p),.int .i64 (i0:Int)] w fun e w'=>e=.returned (.int .i64 (findV s p i0))∧w'=w:=by
 obtain⟨R,hR⟩:∃R,findV s p i0=R:=⟨_,rfl⟩
 rw[hR]
 have HR:=hide hR
 have hS:(txt s).size=s.length:=txt_size s
 have hP:(txt p).size=p.length:=txt_size p
 have hex:=fun i=>ext_txt (txt s) i (i+p.length)
 obtain⟨n,hn⟩:∃n,p.length=n:=⟨_,rfl⟩
 obtain⟨N,hN⟩:∃N,s.length=N:=⟨_,rfl⟩
 have hX:∀i,(txt s).extract i (i+n)=txt ((s.drop i).take p.length):=fun i=>by
  have:=hex i
  rw[txt_toList,Nat.add_sub_cancel_left] at this
  rw[←hn];exact this
 have hEq:∀(b:List UInt8),b=p→((txt b).toList==(txt p).toList)=true:=fun _ h=>str_eq h
 have hNe:∀(b:List UInt8),b≠p→((txt b).toList==(txt p).toList)=false:=fun _ h=>str_ne h
 have HX:=hide hX
 have Hn:=hide hn
 have HN:=hide hN
 have HEq:=hide hEq
 have HNe:=hide hNe
 rw[hn] at hP hp
 rw[hN] at hS hs
 clear hR hex hX hn hN hEq hNe
 generalize hst:txt s=S at *
 generalize hpt:txt p=X at *
 clear hst hpt
 go_enter Tryz.func104,Tryz.ntmps104
 go_wp2
 go_loopg [7] (N+1-i0) (fun r s7 wx=>∃i:Nat,s7=.int .i64 (i:Int)∧i≤1000001∧N+1-i≤r∧wx=w∧Hid (findV s p i=R))
 case atStart=>exact⟨i0,rfl,by omega,Nat.le_refl _,rfl,HR⟩
 case round=>
  obtain⟨i,rfl,hi,hig,hw,hpre⟩:=hrel
  obtain rfl:=hw.symm
  clear hw
  by_cases h1:N<i+n
  ·have z1:¬((i:Int)+(n:Int)≤(N:Int)):=by omega
   have hr:Hid (R= -1):=hide (by rw[←hpre.out];exact findV_end (by rw[HN.out,Hn.out];exact h1))
   clear HX Hn HN HEq HNe hpre HR
   go_wp2
   go_ret
   exact⟨by rw[hr.out];rfl,rfl⟩
  ·have z1:((i:Int)+(n:Int)≤(N:Int)):=by omega
   have hle:i≤i+n:=by omega
   have hle2:i+n≤S.size:=by omega
   have hx:=HX.out i
   by_cases h2:(s.drop i).take p.length=p
   ·have e1:=HEq.out _ h2
    rw[←hx] at e1
    have hr:Hid (R=(i:Int)):=hide (by rw[←hpre.out];exact findV_hit (by rw[HN.out,Hn.out];exact h1) h2)
    clear HX Hn HN HEq HNe hpre HR hx h2
    go_wp2
    go_ret
    exact⟨by rw[hr.out];rfl,rfl⟩
   ·have e1:=HNe.out _ h2
    rw[←hx] at e1
    have hr:Hid (findV s p (i+1)=R):=hide (by rw[←hpre.out];exact (findV_next (by rw[HN.out,Hn.out];exact h1) h2).symm)
    clear HX Hn HN HEq HNe hpre HR hx h2
    go_wp2
    go_roundg (N-i)
    case measure=>omega
    case rel=>exact⟨i+1,by go_num,by omega,by omega,rfl,hr⟩
end Go.Proofs.YtaolhefllfnmiaaGreatDoor
namespace Go.Proofs.YtaolhefllfnmiaaGreatDoor
open Go.RowKit
set_option linter.unusedVariables false
def asV (small:Bool) (p:List UInt8):List UInt8:=if small then lows p else p
theorem asV_len (small:Bool) (p:List UInt8):(asV small p).length=p.length:=by
 unfold asV;split
 ·exact lows_length p
 ·rfl
def piecesFrom (small:Bool) (s:List UInt8):Nat→List (List UInt8)→Bool
 | _,[]=>true
 | k,p::r=>if findV s (asV small p) k<0 then false else piecesFrom small s ((findV s (asV small p) k).toNat+p.length) r
def piecesV (f l:List UInt8) (any:List (List UInt8)) (s:List UInt8) (small:Bool):Bool:=
 if s.length<f.length+l.length then false
 else if ¬s.take f.length=asV small f then false
 else if ¬s.drop (s.length-l.length)=asV small l then false
 else piecesFrom small (s.take (s.length-l.length)) f.length any
theorem pieces_drop {small:Bool} {s:List UInt8} {any:List (List UInt8)} {i k:Nat} {p:List UInt8} (h:any[i]?=some p):
  piecesFrom small s k (any.drop i)=if findV s (asV small p) k<0 then false else piecesFrom small s ((findV s (asV small p) k).toNat+p.length) (any.drop (i+1)):=by
 obtain⟨hi,he⟩:=List.getElem?_eq_some_iff.1 h
 rw[List.drop_eq_getElem_cons hi,he]
 rfl
theorem rpieces_any (k:Int) (a v f l:List UInt8) (any:List (List UInt8)) (ps:List FT) (s:List UInt8) (small:Bool) (hs:s.length≤1000000) (hfl:f.length≤1000) (hll:l.length≤1000) (hal:∀x∈any,x.length≤1000)
  (w:World) (u0 u1 u2 u3 u4 u5 u6:Value) (hF:FIn w w.heap.size (.mk k a v f l any ps) [u0,u1,u2,u3,u4,u5,u6]):
  Calls Tryz.prog 78 #[.agg #[u0,u1,u2,u3,u4,u5,u6],.string (txt s),.bool small] w fun e w'=>e=.returned (.bool (piecesV f l any s small))∧Below w.heap.size w w':=by
 simp only[FIn] at hF
 obtain⟨A,c,D,dd,xs,hcs,⟨hml,hnl⟩,hA,hD,hP⟩:=hF
 cases hcs
 unfold maxLen at hml
 obtain⟨m,hm⟩:∃m,any.length=m:=⟨_,rfl⟩
 obtain⟨np,hnp⟩:∃np,ps.length=np:=⟨_,rfl⟩
 have hmi:(m:Int)≤9223372036854775807:=by omega
 obtain⟨R,hR⟩:∃R,piecesV f l any s small=R:=⟨_,rfl⟩
 rw[hR]
 have hX:=Box7.new w k (txt a) (txt v) (txt f) (txt l) A any.length c D ps.length dd 25
 have hb0:=below1 w (.cells #[.int .i64 k,.string (txt a),.string (txt v),.string (txt f),.string (txt l),.slice A any.length c,.slice D ps.length dd] 25)
 obtain⟨w1,hw1⟩:∃w1,(w.alloc (.cells #[.int .i64 k,.string (txt a),.string (txt v),.string (txt f),.string (txt l),.slice A any.length c,.slice D ps.length dd] 25))=w1:=⟨_,rfl⟩
 rw[hw1] at hX hb0
 rw[hm,hnp] at hX hw1 ⊢
 have hLo:=fun (p:List UInt8) (hp:p.length≤1000) w=>lower_any (txt p) (by rw[txt_size];omega) w
 simp only[txt_toList] at hLo
 have hLf:=fun w=>hLo f hfl w
 have hLl:=fun w=>hLo l hll w
 have hLx:=fun x hx w=>hLo x (hal x hx) w
 have hFi:=fun (t p:List UInt8) (i:Nat) ht hp hi w=>rfind_any t p i ht hp hi w
 have hef:txt (asV small f)=if small then txt (lows f) else txt f:=by unfold asV;split<;>rfl
 have hel:txt (asV small l)=if small then txt (lows l) else txt l:=by unfold asV;split<;>rfl
 have hnf:(txt (asV small f)).size=f.length:=by rw[txt_size,asV_len]
 have hnl':(txt (asV small l)).size=l.length:=by rw[txt_size,asV_len]
 have hN:(txt s).size=s.length:=txt_size s
 have hx1:(txt s).extract 0 f.length=txt (s.take f.length):=by rw[ext_txt,txt_toList];simp
 have hx2:(txt s).extract (s.length-l.length) s.length=txt (s.drop (s.length-l.length)):=by rw[ext_txt,txt_toList,List.take_of_length_le (by rw[List.length_drop];omega)]
 have hx3:(txt s).extract 0 (s.length-l.length)=txt (s.take (s.length-l.length)):=by rw[ext_txt,txt_toList];simp
 obtain⟨nf,hnf0⟩:∃nf,f.length=nf:=⟨_,rfl⟩
 obtain⟨nl,hnl0⟩:∃nl,l.length=nl:=⟨_,rfl⟩
 obtain⟨N,hN0⟩:∃N,s.length=N:=⟨_,rfl⟩
 have hRd:R=if N<nf+nl then false else if ¬s.take nf=asV small f then false else if ¬s.drop (N-nl)=asV small l then false else piecesFrom small (s.take (N-nl)) nf any:=by
  rw[←hR,←hnf0,←hnl0,←hN0];rfl
 rw[hnf0] at hnf hfl hx1
 rw[hnl0] at hnl' hll
 rw[hN0,hnl0] at hx2 hx3
 rw[hN0] at hN hs
 have HRd:=hide hRd
 have HX:=hide hX
 have HB:=hide hb0
 have HLf:=hide hLf
 have HLl:=hide hLl
 have HLx:=hide hLx
 have HFi:=hide hFi
 have Hef:=hide hef
 have Hel:=hide hel
 have HA:=hide hA
 have Hm:=hide hm
 have Hal:=hide hal
 have Hx1:=hide hx1
 have Hx2:=hide hx2
 have Hx3:=hide hx3
 have Hw1:=hide hw1
 have Hs0:=hide hN0
 obtain⟨_,c0,c1,c2,c3,c4,c5,c6⟩:=hX
 clear hR hRd hLo hLf hLl hLx hFi hef hel hA hm hal hx1 hx2 hx3 hw1 hb0 hD hP hml hnl hnp hnf0 hnl0 hN0
 generalize txt a=sa at *
 generalize txt v=sv at *
 generalize hsf:txt f=sf at *
 generalize hsl:txt l=sl at *
 generalize hss:txt s=S at *
 clear hsf hsl hss
 obtain⟨F,hF⟩:∃F,txt (asV small f)=F:=⟨_,rfl⟩
 obtain⟨Lx,hL⟩:∃Lx,txt (asV small l)=Lx:=⟨_,rfl⟩
 rw[hF] at Hef hnf
 rw[hL] at Hel hnl'
 have HF:=hide hF
 have HL:=hide hL
 clear hF hL
 go_enter Tryz.func78,Tryz.ntmps78
 go_upto_region 1 with fail
 rw[Hw1.out]
 go_quiet (fail)
 obtain⟨w9,hw9⟩:∃w9,w1.drewN nq=w9:=⟨_,rfl⟩
 have HX9:Hid (Box7 w9 w.heap.size k sa sv sf sl A m c D np dd):=hide (by rw[←hw9];exact HX.out.below HX.out.lt (Below.drewN (Below.refl _ _) nq))
 have HB9:Hid (Below w.heap.size w w9):=hide (by rw[←hw9];exact Below.drewN HB.out nq)
 rw[hw9]
 clear hw9 HX HB Hw1 c0 c1 c2 c3 c4 c5 c6
 go_upto_if 18 with fail
 go_cut [7,8] from 18 to 22 (fun s7 s8 wx=>s7=.string F∧s8=.string Lx∧Hid (Below w.heap.size w wx∧Box7 wx w.heap.size k sa sv sf sl A m c D np dd))
 case first=>
  have hef:=Hef.out
  have hel:=Hel.out
  have hB9:=HB9.out
  have hX9:=HX9.out
  have hLf:=HLf.out w9
  have hLl:=HLl.out
  clear Hef Hel HRd HLf HLl HLx HFi HA Hm Hal Hx1 Hx2 Hx3 Hs0 HF HL hN hnf hnl'
  cases small with
  | false=>
   simp only[Bool.false_eq_true,if_false] at hef hel
   subst hef hel
   clear hLf hLl
   go_wp2
   go_meet
   case rel=>exact⟨rfl,rfl,hide ⟨hB9,hX9⟩⟩
  | true=>
   simp only[if_true] at hef hel
   subst hef hel
   generalize txt (lows f)=F at *
   generalize txt (lows l)=Lx at *
   go_wp2_with (go_at_call 100;fail)
   refine hLf.mono ?_
   rintro e w10 ⟨rfl,hb10⟩
   have hX10:=hX9.below hX9.lt hb10
   have hB10:=hB9.trans (hb10.mono hB9.size)
   have hLl2:=hLl w10
   clear hLf hLl hb10 hX9 hB9
   go_wp2_with (go_at_call 100;fail)
   refine hLl2.mono ?_
   rintro e w11 ⟨rfl,hb11⟩
   have hX11:=hX10.below hX10.lt hb11
   have hB11:=hB10.trans (hb11.mono hB10.size)
   clear hLl2 hb11 hX10 hB10
   go_wp2
   go_meet
   case rel=>exact⟨rfl,rfl,hide ⟨hB11,hX11⟩⟩
 case rest=>
  obtain⟨rfl,rfl,hXB⟩:=hcut
  obtain⟨hBc,hXc⟩:=hXB.out
  obtain⟨_,c0,c1,c2,c3,c4,c5,c6⟩:=hXc
  clear HX9 HB9 HLf HLl Hef Hel
  have hrd:=HRd.out
  have hf:=HF.out
  have hl:=HL.out
  by_cases q1:N<nf+nl
  ·rw [if_pos q1] at hrd
   have hr:=hide hrd
   have z1:(N:Int)<(nf:Int)+(nl:Int):=by omega
   clear HRd HLx HFi HA Hm Hal Hx1 Hx2 Hx3 Hs0 HF HL hrd hf hl
   go_wp2
   go_ret
   exact⟨by rw[hr.out];rfl,hBc⟩
  rw[if_neg q1] at hrd
  have z1:¬((N:Int)<(nf:Int)+(nl:Int)):=by omega
  have n1:nf≤S.size:=by omega
  have n2:N-nl≤S.size:=by omega
  have n3:((N:Int)-(nl:Int))=((N-nl:Nat):Int):=by omega
  have x1:=Hx1.out
  have x2:=Hx2.out
  by_cases q2:s.take nf=asV small f
  ·rw [if_neg (by simp[q2])] at hrd
   have e1:((S.extract 0 nf).toList==F.toList)=true:=by rw[x1,←hf];exact str_eq q2
   by_cases q3:s.drop (N-nl)=asV small l
   ·rw [if_neg (by simp[q3])] at hrd
    have e2:((S.extract (N-nl) N).toList==Lx.toList)=true:=by rw[x2,←hl];exact str_eq q3
    have hr:=hide hrd
    clear HRd Hx1 Hx2 HF HL hrd hf hl x1 x2 q2 q3 q1
    go_wp2
    go_loopg [9,60] m (fun r s9 s60 wx=>∃(j at_:Nat),j+r=m∧s60=.int .i64 (j:Int)∧s9=.int .i64 (at_:Int)∧at_≤1000000∧Hid (R=piecesFrom small (s.take (N-nl)) at_ (any.drop j))∧Hid (Below w.heap.size w wx∧Box7 wx w.heap.size k sa sv sf sl A m c D np dd))
    case atStart=>exact⟨0,nf,by omega,rfl,rfl,by omega,hr,hXB⟩
    case round=>
     obtain⟨j,at_,hjg,rfl,rfl,hat,hpre,hbr⟩:=hrel
     obtain⟨hb2,hX2⟩:=hbr.out
     clear c0 c1 c2 c3 c4 c5 c6 hBc hr hXB
     have HX2:=hide hX2
     obtain⟨_,c0,c1,c2,c3,c4,c5,c6⟩:=hX2
     cases gk with
     | zero=>
      obtain rfl:j=m:=by omega
      have hjz:¬((j:Int)<(j:Int)):=by omega
      have hq:Hid (R=true):=hide (by
       rw[hpre.out,List.drop_eq_nil_of_le (by rw[Hm.out];exact Nat.le_refl _)]
       rfl)
      clear HLx HFi HA Hm Hal Hx3 Hs0 hpre
      go_wp2
      go_ret
      exact⟨by rw[hq.out];rfl,hb2⟩
     | succ r=>
      have hj:j<m:=by omega
      have hjz:(j:Int)<(m:Int):=by omega
      obtain⟨x,hx⟩:∃x,any[j]?=some x:=⟨_,List.getElem?_eq_getElem (by rw[Hm.out];exact hj)⟩
      have hxm:=List.mem_of_getElem? hx
      have hxl:=Hal.out x hxm
      have HA1:=HA.out
      rw[Hm.out] at HA1
      obtain⟨g,o,hAe,hg,hc⟩:=HA1.texts (fun h=>by rw[h] at hx;simp at hx)
      subst hAe
      have x0:=(hb2.cell (p:=⟨g,o+j,none⟩) hg).trans (hc j x hx)
      have hst:=pieces_drop (small:=small) (s:=s.take (N-nl)) (k:=at_) hx
      rw[←hpre.out] at hst
      have htl:(s.take (N-nl)).length≤1000000:=by rw[List.length_take];omega
      have hpl:(asV small x).length≤1000000:=by rw[asV_len];omega
      have hfind:=HFi.out (s.take (N-nl)) (asV small x) at_ htl hpl hat
      have hrange:=findV_range (s.take (N-nl)) (asV small x) at_
      rw[←Hx3.out] at hfind
      have hps:(txt (asV small x)).size=x.length:=by rw[txt_size,asV_len]
      have hlo:=HLx.out x hxm
      have hax:txt (asV small x)=if small then txt (lows x) else txt x:=by unfold asV;split<;>rfl
      obtain⟨xn,hxn⟩:∃xn,x.length=xn:=⟨_,rfl⟩
      obtain⟨z,hz⟩:∃z,findV (s.take (N-nl)) (asV small x) at_=z:=⟨_,rfl⟩
      rw[hz] at hst hfind hrange
      rw[hxn] at hst hps hxl
      have hzr:z= -1∨(0≤z∧z+(xn:Int)≤1000000):=by
       rcases hrange with h | ⟨q,h1,_,h2,_⟩
       ·exact .inl h
       ·rw [asV_len,hxn] at h2
        exact .inr ⟨by omega,by omega⟩
      have Hst:=hide hst
      have Hax:=hide hax
      clear HLx HFi HA Hm Hal Hs0 hpre HA1 hc hx hxm hst hrange htl hpl hax hz hxn hbr
      generalize hpx:txt (asV small x)=PX at *
      generalize txt x=sx at *
      clear hpx
      cases small with
      | true=>
       have hax:=Hax.out
       simp only[if_true] at hax
       rw[←hax] at hlo
       have hlo2:=hlo wr
       clear Hax hax hlo
       go_wp2_with (go_at_call 100;fail)
       refine hlo2.mono ?_
       rintro e w12 ⟨rfl,hb12⟩
       have hX12:=HX2.out.below HX2.out.lt hb12
       have hB12:=hb2.trans (hb12.mono hb2.size)
       have hXB12:=hide (And.intro hB12 hX12)
       clear hlo2 hb12 hb2 HX2 c0 c1 c2 c3 c4 c5 c6
       obtain⟨_,c0,c1,c2,c3,c4,c5,c6⟩:=hX12
       go_wp2_with (go_at_call 104;fail)
       refine (hfind w12).mono ?_
       rintro e w13 ⟨rfl,hw13⟩
       obtain rfl:=hw13.symm
       clear hfind hw13
       by_cases hz0:z<0
       ·have hq:=Hst.out
        rw[if_pos hz0] at hq
        have Hq:=hide hq
        clear Hst hq Hx3
        go_wp2
        go_ret
        exact⟨by rw[Hq.out];rfl,hB12⟩
       ·have hq:=Hst.out
        rw[if_neg hz0] at hq
        have Hq:=hide hq
        obtain⟨q,hqz⟩:∃q:Nat,z=(q:Int):=⟨z.toNat,by omega⟩
        subst hqz
        clear Hst hq
        go_wp2
        go_roundg r
        case measure=>omega
        case rel=>exact⟨j+1,q+xn,by omega,by go_num,by go_num,by omega,hide (by have:=Hq.out;rwa [Int.toNat_natCast] at this),hXB12⟩
      | false=>
       have hax:=Hax.out
       simp only[Bool.false_eq_true,if_false] at hax
       subst hax
       have hXB12:=hide (And.intro hb2 HX2.out)
       clear Hax hlo HX2
       go_wp2_with (go_at_call 104;fail)
       refine (hfind wr).mono ?_
       rintro e w13 ⟨rfl,hw13⟩
       obtain rfl:=hw13.symm
       clear hfind hw13
       by_cases hz0:z<0
       ·have hq:=Hst.out
        rw[if_pos hz0] at hq
        have Hq:=hide hq
        clear Hst hq Hx3
        go_wp2
        go_ret
        exact⟨by rw[Hq.out];rfl,hb2⟩
       ·have hq:=Hst.out
        rw[if_neg hz0] at hq
        have Hq:=hide hq
        obtain⟨q,hqz⟩:∃q:Nat,z=(q:Int):=⟨z.toNat,by omega⟩
        subst hqz
        clear Hst hq
        go_wp2
        go_roundg r
        case measure=>omega
        case rel=>exact⟨j+1,q+xn,by omega,by go_num,by go_num,by omega,hide (by have:=Hq.out;rwa [Int.toNat_natCast] at this),hXB12⟩
   ·rw [if_pos q3] at hrd
    have hr:=hide hrd
    have e2:((S.extract (N-nl) N).toList==Lx.toList)=false:=by rw[x2,←hl];exact str_ne q3
    have e3:=bne_of e1
    have e4:=bne_of e2
    clear HRd HLx HFi HA Hm Hal Hx1 Hx2 Hx3 Hs0 HF HL hrd hf hl x1 x2 q2 q3 q1
    go_wp2
    go_ret
    exact⟨by rw[hr.out];rfl,hBc⟩
  ·rw [if_pos q2] at hrd
   have hr:=hide hrd
   have e1:((S.extract 0 nf).toList==F.toList)=false:=by rw[x1,←hf];exact str_ne q2
   have e3:=bne_of e1
   clear HRd HLx HFi HA Hm Hal Hx1 Hx2 Hx3 Hs0 HF HL hrd hf hl x1 x2 q2 q1
   go_wp2
   go_ret
   exact⟨by rw[hr.out];rfl,hBc⟩
end Go.Proofs.YtaolhefllfnmiaaGreatDoor
namespace Go.Proofs.YtaolhefllfnmiaaGreatDoor
open Go.RowKit
set_option linter.unusedVariables false
theorem cmp_ex (n a b:List UInt8):∃c,∃x y f,CmpIs n a b x y c f:=by
 obtain⟨x,y,c,f,h⟩:=cmp_or n a b
 exact⟨c,x,y,f,h⟩
theorem near_ex (n a b:List UInt8):∃t,∃x y f,NearIs n a b x y t f:=by
 obtain⟨x,y,t,f,h⟩:=near_or n a b
 exact⟨t,x,y,f,h⟩
noncomputable def cmpV (n a b:List UInt8):Int:=Classical.choose (cmp_ex n a b)
noncomputable def nearV (n a b:List UInt8):Bool:=Classical.choose (near_ex n a b)
theorem cmpV_is (n a b:List UInt8):∃x y f,CmpIs n a b x y (cmpV n a b) f:=Classical.choose_spec (cmp_ex n a b)
theorem nearV_is (n a b:List UInt8):∃x y f,NearIs n a b x y (nearV n a b) f:=Classical.choose_spec (near_ex n a b)
noncomputable def matchV (k:Int) (a v x:List UInt8):Bool:=
 if (valV a x).2≠0 then false
 else if k=3∨(typ a).2=5 then (valV a x).1==(valV a v).1
 else if k=8 then nearV a x v
 else (k==5&&decide (0≤cmpV a x v))||(k==6&&decide (cmpV a x v≤0))
theorem rmatches_any (k:Int) (a v f l:List UInt8) (any:List (List UInt8)) (ps:List FT) (x:List UInt8) (ha:a.length≤3000) (hv:v.length≤3000) (hx:x.length≤1000000)
  (w:World) (u0 u1 u2 u3 u4 u5 u6:Value) (hF:FIn w w.heap.size (.mk k a v f l any ps) [u0,u1,u2,u3,u4,u5,u6]) (hT:TM w):
  Calls Tryz.prog 80 #[.agg #[u0,u1,u2,u3,u4,u5,u6],.string (txt x)] w fun e w'=>e=.returned (.bool (matchV k a v x))∧Below w.heap.size w w':=by
 simp only[FIn] at hF
 obtain⟨A,c,D,dd,xs,hcs,_⟩:=hF
 cases hcs
 obtain⟨m,hm⟩:∃m,any.length=m:=⟨_,rfl⟩
 obtain⟨np,hnp⟩:∃np,ps.length=np:=⟨_,rfl⟩
 obtain⟨R,hR⟩:∃R,matchV k a v x=R:=⟨_,rfl⟩
 rw[hR]
 have hX:=Box7.new w k (txt a) (txt v) (txt f) (txt l) A any.length c D ps.length dd 25
 have hb0:=below1 w (.cells #[.int .i64 k,.string (txt a),.string (txt v),.string (txt f),.string (txt l),.slice A any.length c,.slice D ps.length dd] 25)
 have hT1:=hT.below hb0
 rw[hm,hnp] at hX hb0 hT1 ⊢
 have hTy:=fun w=>rtype_any (txt a) (by rw[txt_size];omega) w
 simp only[txt_toList] at hTy
 have hVx:=fun w hT=>rvalue_big a x (by omega) hx w hT
 have hVv:=fun w hT=>rvalue_big a v (by omega) (by omega) w hT
 obtain⟨x1,y1,f1,hnear⟩:=nearV_is a x v
 obtain⟨x2,y2,f2,hcmp⟩:=cmpV_is a x v
 have hNe:=fun w hT hM=>rrnear_any (txt a) (txt x) (txt v) (by rw[txt_size];omega) (by rw[txt_size];omega) (by rw[txt_size];omega) x1 y1 (nearV a x v) f1 (by simp only[txt_toList];exact hnear) w hT hM
 have hCo:=fun w hT=>rrcmp_any (txt a) (txt x) (txt v) (by rw[txt_size];omega) (by rw[txt_size];omega) (by rw[txt_size];omega) x2 y2 (cmpV a x v) f2 (by simp only[txt_toList];exact hcmp) w hT
 obtain⟨ty,hty⟩:∃ty,(typ a).2=ty:=⟨_,rfl⟩
 obtain⟨tn,htn⟩:∃tn,txt (typ a).1=tn:=⟨_,rfl⟩
 obtain⟨e1,he1⟩:∃e1,(valV a x).2=e1:=⟨_,rfl⟩
 obtain⟨e2,he2⟩:∃e2,(valV a v).2=e2:=⟨_,rfl⟩
 obtain⟨vb,hvb⟩:∃vb,((valV a x).1==(valV a v).1)=vb:=⟨_,rfl⟩
 obtain⟨nv,hnv⟩:∃nv,nearV a x v=nv:=⟨_,rfl⟩
 obtain⟨cv,hcv⟩:∃cv,cmpV a x v=cv:=⟨_,rfl⟩
 have hRd:R=if e1≠0 then false else if k=3∨ty=5 then vb else if k=8 then nv else (k==5&&decide (0≤cv))||(k==6&&decide (cv≤0)):=by
  rw[←hR,matchV,he1,hty,hvb,hnv,hcv]
 have hseq:((txt (valV a x).1).toList==(txt (valV a v).1).toList)=vb:=by rw[txt_bytes,txt_bytes];exact hvb
 rw[hty,htn] at hTy
 rw[he1] at hVx
 rw[he2] at hVv
 rw[hnv] at hNe
 rw[hcv] at hCo
 generalize txt (valV a x).1=sx at *
 generalize txt (valV a v).1=sw at *
 have HTy:=hide hTy
 have HVx:=hide hVx
 have HVv:=hide hVv
 have HNe:=hide hNe
 have HCo:=hide hCo
 have HX:=hide hX
 have HB:=hide hb0
 have HT:=hide hT1
 clear hTy hVx hVv hNe hCo hnear hcmp hR hm hnp hty htn he1 he2 hvb hnv hcv hb0 hT1 hT
 obtain⟨_,c0,c1,c2,c3,c4,c5,c6⟩:=hX
 generalize txt a=sa at *
 generalize txt v=sv at *
 generalize txt f=sf at *
 generalize txt l=sl at *
 generalize txt x=sy at *
 by_cases q1:e1=0
 ·have z1:(e1==0)=true:=by rw[q1];rfl
  have z1':(e1 !=0)=false:=by unfold bne;rw[z1];rfl
  rw[if_neg (by simp[q1])] at hRd
  by_cases q3:k=3
  ·rw [if_pos (Or.inl q3)] at hRd
   have hr:=hide hRd
   subst q3
   clear hRd HNe HCo q1
   go_enter Tryz.func80,Tryz.ntmps80
   go_wp2_with (go_at_call 74;fail)
   refine (HTy.out _).mono ?_
   rintro e w1 ⟨rfl,hb1⟩
   have hX1:=HX.out.below HX.out.lt hb1
   have hT1:=HT.out.below hb1
   have hB1:=HB.out.trans (hb1.mono HB.out.size)
   clear HTy HX HT HB hb1 c0 c1 c2 c3 c4 c5 c6
   have HX1:=hide hX1
   obtain⟨_,c0,c1,c2,c3,c4,c5,c6⟩:=hX1
   go_wp2_with (go_at_call 79;fail)
   refine (HVx.out _ hT1).mono ?_
   rintro e w2 ⟨rfl,hb2⟩
   have hX2:=HX1.out.below HX1.out.lt hb2
   have hT2:=hT1.below hb2
   have hB2:=hB1.trans (hb2.mono hB1.size)
   clear HVx HX1 hT1 hB1 hb2 c0 c1 c2 c3 c4 c5 c6
   have HX2:=hide hX2
   obtain⟨_,c0,c1,c2,c3,c4,c5,c6⟩:=hX2
   go_wp2_with (go_at_call 79;fail)
   refine (HVv.out _ hT2).mono ?_
   rintro e w3 ⟨rfl,hb3⟩
   have hX3:=HX2.out.below HX2.out.lt hb3
   have hT3:=hT2.below hb3
   have hB3:=hB2.trans (hb3.mono hB2.size)
   clear HVv HX2 hT2 hB2 hb3 c0 c1 c2 c3 c4 c5 c6
   have HX3:=hide hX3
   obtain⟨_,c0,c1,c2,c3,c4,c5,c6⟩:=hX3
   clear HX3 hT3
   go_wp2
   go_ret
   exact⟨by rw[hr.out];rfl,hB3⟩
  ·have z3:(k==3)=false:=beq_false_of_ne q3
   by_cases q5:ty=5
   ·rw [if_pos (Or.inr q5)] at hRd
    have hr:=hide hRd
    have z5:(ty==5)=true:=by rw[q5];rfl
    clear hRd HNe HCo q1 q3 q5
    go_enter Tryz.func80,Tryz.ntmps80
    go_wp2_with (go_at_call 74;fail)
    refine (HTy.out _).mono ?_
    rintro e w1 ⟨rfl,hb1⟩
    have hX1:=HX.out.below HX.out.lt hb1
    have hT1:=HT.out.below hb1
    have hB1:=HB.out.trans (hb1.mono HB.out.size)
    clear HTy HX HT HB hb1 c0 c1 c2 c3 c4 c5 c6
    have HX1:=hide hX1
    obtain⟨_,c0,c1,c2,c3,c4,c5,c6⟩:=hX1
    go_wp2_with (go_at_call 79;fail)
    refine (HVx.out _ hT1).mono ?_
    rintro e w2 ⟨rfl,hb2⟩
    have hX2:=HX1.out.below HX1.out.lt hb2
    have hT2:=hT1.below hb2
    have hB2:=hB1.trans (hb2.mono hB1.size)
    clear HVx HX1 hT1 hB1 hb2 c0 c1 c2 c3 c4 c5 c6
    have HX2:=hide hX2
    obtain⟨_,c0,c1,c2,c3,c4,c5,c6⟩:=hX2
    go_wp2_with (go_at_call 79;fail)
    refine (HVv.out _ hT2).mono ?_
    rintro e w3 ⟨rfl,hb3⟩
    have hX3:=HX2.out.below HX2.out.lt hb3
    have hT3:=hT2.below hb3
    have hB3:=hB2.trans (hb3.mono hB2.size)
    clear HVv HX2 hT2 hB2 hb3 c0 c1 c2 c3 c4 c5 c6
    have HX3:=hide hX3
    obtain⟨_,c0,c1,c2,c3,c4,c5,c6⟩:=hX3
    clear HX3 hT3
    go_wp2
    go_ret
    exact⟨by rw[hr.out];rfl,hB3⟩
   ·rw [if_neg (by omega)] at hRd
    have z5:(ty==5)=false:=beq_false_of_ne q5
    by_cases q8:k=8
    ·rw [if_pos q8] at hRd
     have hr:=hide hRd
     subst q8
     clear hRd HCo q1 q3 q5
     go_enter Tryz.func80,Tryz.ntmps80
     go_wp2_with (go_at_call 74;fail)
     refine (HTy.out _).mono ?_
     rintro e w1 ⟨rfl,hb1⟩
     have hX1:=HX.out.below HX.out.lt hb1
     have hT1:=HT.out.below hb1
     have hB1:=HB.out.trans (hb1.mono HB.out.size)
     clear HTy HX HT HB hb1 c0 c1 c2 c3 c4 c5 c6
     have HX1:=hide hX1
     obtain⟨_,c0,c1,c2,c3,c4,c5,c6⟩:=hX1
     go_wp2_with (go_at_call 79;fail)
     refine (HVx.out _ hT1).mono ?_
     rintro e w2 ⟨rfl,hb2⟩
     have hX2:=HX1.out.below HX1.out.lt hb2
     have hT2:=hT1.below hb2
     have hB2:=hB1.trans (hb2.mono hB1.size)
     clear HVx HX1 hT1 hB1 hb2 c0 c1 c2 c3 c4 c5 c6
     have HX2:=hide hX2
     obtain⟨_,c0,c1,c2,c3,c4,c5,c6⟩:=hX2
     go_wp2_with (go_at_call 79;fail)
     refine (HVv.out _ hT2).mono ?_
     rintro e w3 ⟨rfl,hb3⟩
     have hX3:=HX2.out.below HX2.out.lt hb3
     have hT3:=hT2.below hb3
     have hB3:=hB2.trans (hb3.mono hB2.size)
     clear HVv HX2 hT2 hB2 hb3 c0 c1 c2 c3 c4 c5 c6
     have HX3:=hide hX3
     obtain⟨_,c0,c1,c2,c3,c4,c5,c6⟩:=hX3
     go_wp2_with (go_at_call 106;fail)
     refine (HNe.out _ hT3.tt hT3.mx).mono ?_
     rintro e w4 ⟨rfl,hb4⟩
     have hB4:=hB3.trans (hb4.mono hB3.size)
     clear HNe hT3 hB3 hb4 HX3
     go_wp2
     go_ret
     exact⟨by rw[hr.out];rfl,hB4⟩
    ·rw [if_neg q8] at hRd
     have z8:(k==8)=false:=beq_false_of_ne q8
     by_cases k5:k=5
     ·subst k5
      by_cases qc:0≤cv
      ·have hr:Hid (R=true):=hide (by rw[hRd];simp[qc])
       clear hRd HNe q1 q3 q5 q8
       go_enter Tryz.func80,Tryz.ntmps80
       go_wp2_with (go_at_call 74;fail)
       refine (HTy.out _).mono ?_
       rintro e w1 ⟨rfl,hb1⟩
       have hX1:=HX.out.below HX.out.lt hb1
       have hT1:=HT.out.below hb1
       have hB1:=HB.out.trans (hb1.mono HB.out.size)
       clear HTy HX HT HB hb1 c0 c1 c2 c3 c4 c5 c6
       have HX1:=hide hX1
       obtain⟨_,c0,c1,c2,c3,c4,c5,c6⟩:=hX1
       go_wp2_with (go_at_call 79;fail)
       refine (HVx.out _ hT1).mono ?_
       rintro e w2 ⟨rfl,hb2⟩
       have hX2:=HX1.out.below HX1.out.lt hb2
       have hT2:=hT1.below hb2
       have hB2:=hB1.trans (hb2.mono hB1.size)
       clear HVx HX1 hT1 hB1 hb2 c0 c1 c2 c3 c4 c5 c6
       have HX2:=hide hX2
       obtain⟨_,c0,c1,c2,c3,c4,c5,c6⟩:=hX2
       go_wp2_with (go_at_call 79;fail)
       refine (HVv.out _ hT2).mono ?_
       rintro e w3 ⟨rfl,hb3⟩
       have hX3:=HX2.out.below HX2.out.lt hb3
       have hT3:=hT2.below hb3
       have hB3:=hB2.trans (hb3.mono hB2.size)
       clear HVv HX2 hT2 hB2 hb3 c0 c1 c2 c3 c4 c5 c6
       have HX3:=hide hX3
       obtain⟨_,c0,c1,c2,c3,c4,c5,c6⟩:=hX3
       go_wp2_with (go_at_call 107;fail)
       refine (HCo.out _ hT3.tt).mono ?_
       rintro e w4 ⟨rfl,hb4⟩
       have hX4:=HX3.out.below HX3.out.lt hb4
       have hB4:=hB3.trans (hb4.mono hB3.size)
       clear HCo hT3 hB3 hb4 HX3 c0 c1 c2 c3 c4 c5 c6
       obtain⟨_,c0,c1,c2,c3,c4,c5,c6⟩:=hX4
       go_wp2
       go_ret
       exact⟨by rw[hr.out];rfl,hB4⟩
      ·have hr:Hid (R=false):=hide (by rw[hRd];simp;omega)
       have zc:decide (0≤cv)=false:=decide_eq_false qc
       clear hRd HNe q1 q3 q5 q8
       go_enter Tryz.func80,Tryz.ntmps80
       go_wp2_with (go_at_call 74;fail)
       refine (HTy.out _).mono ?_
       rintro e w1 ⟨rfl,hb1⟩
       have hX1:=HX.out.below HX.out.lt hb1
       have hT1:=HT.out.below hb1
       have hB1:=HB.out.trans (hb1.mono HB.out.size)
       clear HTy HX HT HB hb1 c0 c1 c2 c3 c4 c5 c6
       have HX1:=hide hX1
       obtain⟨_,c0,c1,c2,c3,c4,c5,c6⟩:=hX1
       go_wp2_with (go_at_call 79;fail)
       refine (HVx.out _ hT1).mono ?_
       rintro e w2 ⟨rfl,hb2⟩
       have hX2:=HX1.out.below HX1.out.lt hb2
       have hT2:=hT1.below hb2
       have hB2:=hB1.trans (hb2.mono hB1.size)
       clear HVx HX1 hT1 hB1 hb2 c0 c1 c2 c3 c4 c5 c6
       have HX2:=hide hX2
       obtain⟨_,c0,c1,c2,c3,c4,c5,c6⟩:=hX2
       go_wp2_with (go_at_call 79;fail)
       refine (HVv.out _ hT2).mono ?_
       rintro e w3 ⟨rfl,hb3⟩
       have hX3:=HX2.out.below HX2.out.lt hb3
       have hT3:=hT2.below hb3
       have hB3:=hB2.trans (hb3.mono hB2.size)
       clear HVv HX2 hT2 hB2 hb3 c0 c1 c2 c3 c4 c5 c6
       have HX3:=hide hX3
       obtain⟨_,c0,c1,c2,c3,c4,c5,c6⟩:=hX3
       go_wp2_with (go_at_call 107;fail)
       refine (HCo.out _ hT3.tt).mono ?_
       rintro e w4 ⟨rfl,hb4⟩
       have hX4:=HX3.out.below HX3.out.lt hb4
       have hB4:=hB3.trans (hb4.mono hB3.size)
       clear HCo hT3 hB3 hb4 HX3 c0 c1 c2 c3 c4 c5 c6
       obtain⟨_,c0,c1,c2,c3,c4,c5,c6⟩:=hX4
       go_wp2
       go_ret
       exact⟨by rw[hr.out];rfl,hB4⟩
     ·have y5:(k==5)=false:=beq_false_of_ne k5
      by_cases k6:k=6
      ·subst k6
       by_cases qc:cv≤0
       ·have hr:Hid (R=true):=hide (by rw[hRd];simp[qc])
        have zc:decide (cv≤0)=true:=decide_eq_true qc
        clear hRd HNe q1 q3 q5 q8
        go_enter Tryz.func80,Tryz.ntmps80
        go_wp2_with (go_at_call 74;fail)
        refine (HTy.out _).mono ?_
        rintro e w1 ⟨rfl,hb1⟩
        have hX1:=HX.out.below HX.out.lt hb1
        have hT1:=HT.out.below hb1
        have hB1:=HB.out.trans (hb1.mono HB.out.size)
        clear HTy HX HT HB hb1 c0 c1 c2 c3 c4 c5 c6
        have HX1:=hide hX1
        obtain⟨_,c0,c1,c2,c3,c4,c5,c6⟩:=hX1
        go_wp2_with (go_at_call 79;fail)
        refine (HVx.out _ hT1).mono ?_
        rintro e w2 ⟨rfl,hb2⟩
        have hX2:=HX1.out.below HX1.out.lt hb2
        have hT2:=hT1.below hb2
        have hB2:=hB1.trans (hb2.mono hB1.size)
        clear HVx HX1 hT1 hB1 hb2 c0 c1 c2 c3 c4 c5 c6
        have HX2:=hide hX2
        obtain⟨_,c0,c1,c2,c3,c4,c5,c6⟩:=hX2
        go_wp2_with (go_at_call 79;fail)
        refine (HVv.out _ hT2).mono ?_
        rintro e w3 ⟨rfl,hb3⟩
        have hX3:=HX2.out.below HX2.out.lt hb3
        have hT3:=hT2.below hb3
        have hB3:=hB2.trans (hb3.mono hB2.size)
        clear HVv HX2 hT2 hB2 hb3 c0 c1 c2 c3 c4 c5 c6
        have HX3:=hide hX3
        obtain⟨_,c0,c1,c2,c3,c4,c5,c6⟩:=hX3
        go_wp2_with (go_at_call 107;fail)
        refine (HCo.out _ hT3.tt).mono ?_
        rintro e w4 ⟨rfl,hb4⟩
        have hX4:=HX3.out.below HX3.out.lt hb4
        have hB4:=hB3.trans (hb4.mono hB3.size)
        clear HCo hT3 hB3 hb4 HX3 c0 c1 c2 c3 c4 c5 c6
        obtain⟨_,c0,c1,c2,c3,c4,c5,c6⟩:=hX4
        go_wp2
        go_ret
        exact⟨by rw[hr.out];rfl,hB4⟩
       ·have hr:Hid (R=false):=hide (by rw[hRd];simp;omega)
        have zc:decide (cv≤0)=false:=decide_eq_false qc
        clear hRd HNe q1 q3 q5 q8
        go_enter Tryz.func80,Tryz.ntmps80
        go_wp2_with (go_at_call 74;fail)
        refine (HTy.out _).mono ?_
        rintro e w1 ⟨rfl,hb1⟩
        have hX1:=HX.out.below HX.out.lt hb1
        have hT1:=HT.out.below hb1
        have hB1:=HB.out.trans (hb1.mono HB.out.size)
        clear HTy HX HT HB hb1 c0 c1 c2 c3 c4 c5 c6
        have HX1:=hide hX1
        obtain⟨_,c0,c1,c2,c3,c4,c5,c6⟩:=hX1
        go_wp2_with (go_at_call 79;fail)
        refine (HVx.out _ hT1).mono ?_
        rintro e w2 ⟨rfl,hb2⟩
        have hX2:=HX1.out.below HX1.out.lt hb2
        have hT2:=hT1.below hb2
        have hB2:=hB1.trans (hb2.mono hB1.size)
        clear HVx HX1 hT1 hB1 hb2 c0 c1 c2 c3 c4 c5 c6
        have HX2:=hide hX2
        obtain⟨_,c0,c1,c2,c3,c4,c5,c6⟩:=hX2
        go_wp2_with (go_at_call 79;fail)
        refine (HVv.out _ hT2).mono ?_
        rintro e w3 ⟨rfl,hb3⟩
        have hX3:=HX2.out.below HX2.out.lt hb3
        have hT3:=hT2.below hb3
        have hB3:=hB2.trans (hb3.mono hB2.size)
        clear HVv HX2 hT2 hB2 hb3 c0 c1 c2 c3 c4 c5 c6
        have HX3:=hide hX3
        obtain⟨_,c0,c1,c2,c3,c4,c5,c6⟩:=hX3
        go_wp2_with (go_at_call 107;fail)
        refine (HCo.out _ hT3.tt).mono ?_
        rintro e w4 ⟨rfl,hb4⟩
        have hX4:=HX3.out.below HX3.out.lt hb4
        have hB4:=hB3.trans (hb4.mono hB3.size)
        clear HCo hT3 hB3 hb4 HX3 c0 c1 c2 c3 c4 c5 c6
        obtain⟨_,c0,c1,c2,c3,c4,c5,c6⟩:=hX4
        go_wp2
        go_ret
        exact⟨by rw[hr.out];rfl,hB4⟩
      ·have y6:(k==6)=false:=beq_false_of_ne k6
       have hr:Hid (R=false):=hide (by rw[hRd,y5,y6];rfl)
       clear hRd HNe q1 q3 q5 q8 k5 k6
       go_enter Tryz.func80,Tryz.ntmps80
       go_wp2_with (go_at_call 74;fail)
       refine (HTy.out _).mono ?_
       rintro e w1 ⟨rfl,hb1⟩
       have hX1:=HX.out.below HX.out.lt hb1
       have hT1:=HT.out.below hb1
       have hB1:=HB.out.trans (hb1.mono HB.out.size)
       clear HTy HX HT HB hb1 c0 c1 c2 c3 c4 c5 c6
       have HX1:=hide hX1
       obtain⟨_,c0,c1,c2,c3,c4,c5,c6⟩:=hX1
       go_wp2_with (go_at_call 79;fail)
       refine (HVx.out _ hT1).mono ?_
       rintro e w2 ⟨rfl,hb2⟩
       have hX2:=HX1.out.below HX1.out.lt hb2
       have hT2:=hT1.below hb2
       have hB2:=hB1.trans (hb2.mono hB1.size)
       clear HVx HX1 hT1 hB1 hb2 c0 c1 c2 c3 c4 c5 c6
       have HX2:=hide hX2
       obtain⟨_,c0,c1,c2,c3,c4,c5,c6⟩:=hX2
       go_wp2_with (go_at_call 79;fail)
       refine (HVv.out _ hT2).mono ?_
       rintro e w3 ⟨rfl,hb3⟩
       have hX3:=HX2.out.below HX2.out.lt hb3
       have hT3:=hT2.below hb3
       have hB3:=hB2.trans (hb3.mono hB2.size)
       clear HVv HX2 hT2 hB2 hb3 c0 c1 c2 c3 c4 c5 c6
       have HX3:=hide hX3
       obtain⟨_,c0,c1,c2,c3,c4,c5,c6⟩:=hX3
       go_wp2_with (go_at_call 107;fail)
       refine (HCo.out _ hT3.tt).mono ?_
       rintro e w4 ⟨rfl,hb4⟩
       have hX4:=HX3.out.below HX3.out.lt hb4
       have hB4:=hB3.trans (hb4.mono hB3.size)
       clear HCo hT3 hB3 hb4 HX3 c0 c1 c2 c3 c4 c5 c6
       obtain⟨_,c0,c1,c2,c3,c4,c5,c6⟩:=hX4
       go_wp2
       go_ret
       exact⟨by rw[hr.out];rfl,hB4⟩
 ·have z1:(e1==0)=false:=beq_false_of_ne q1
  have z1':(e1 !=0)=true:=by unfold bne;rw[z1];rfl
  rw[if_pos q1] at hRd
  have hr:=hide hRd
  clear hRd HNe HCo HVv q1
  go_enter Tryz.func80,Tryz.ntmps80
  go_wp2_with (go_at_call 74;fail)
  refine (HTy.out _).mono ?_
  rintro e w1 ⟨rfl,hb1⟩
  have hX1:=HX.out.below HX.out.lt hb1
  have hT1:=HT.out.below hb1
  have hB1:=HB.out.trans (hb1.mono HB.out.size)
  clear HTy HX HT HB hb1 c0 c1 c2 c3 c4 c5 c6
  have HX1:=hide hX1
  obtain⟨_,c0,c1,c2,c3,c4,c5,c6⟩:=hX1
  go_wp2_with (go_at_call 79;fail)
  refine (HVx.out _ hT1).mono ?_
  rintro e w2 ⟨rfl,hb2⟩
  have hX2:=HX1.out.below HX1.out.lt hb2
  have hT2:=hT1.below hb2
  have hB2:=hB1.trans (hb2.mono hB1.size)
  clear HVx HX1 hT1 hB1 hb2 c0 c1 c2 c3 c4 c5 c6
  clear hT2 hX2
  go_wp2
  go_ret
  exact⟨by rw[hr.out];rfl,hB2⟩
end Go.Proofs.YtaolhefllfnmiaaGreatDoor
namespace Go.Proofs.YtaolhefllfnmiaaGreatDoor
open Go.RowKit
set_option linter.unusedVariables false
abbrev At2:=List UInt8 × List (List UInt8)
structure AsIn (w:World) (B:Nat) (xs:List Value) (L:List At2):Prop where
 len:xs.length=L.length*2
 each:∀(i:Nat) (a:At2),L[i]?=some a→∃A c,xs[i*2]?=some (.string (txt a.1))∧xs[i*2+1]?=some (.slice A a.2.length c)∧Has w B 1 A a.2.length (strs a.2)
theorem AsIn.below {w w':World} {B:Nat} {xs:List Value} {L:List At2} (h:AsIn w B xs L) (hb:Below B w w'):AsIn w' B xs L:=
 ⟨h.len,fun i a ha=>by obtain⟨A,c,h1,h2,h3⟩:=h.each i a ha;exact⟨A,c,h1,h2,h3.below hb⟩⟩
theorem AsIn.upto {w:World} {B B':Nat} {xs:List Value} {L:List At2} (h:AsIn w B xs L) (hB:B≤B'):AsIn w B' xs L:=
 ⟨h.len,fun i a ha=>by obtain⟨A,c,h1,h2,h3⟩:=h.each i a ha;exact⟨A,c,h1,h2,h3.upto hB⟩⟩
theorem AsIn.grow {w w':World} {xs:List Value} {L:List At2} (h:AsIn w w.heap.size xs L) (hb:Below w.heap.size w w'):AsIn w' w'.heap.size xs L:=(h.below hb).upto hb.size
theorem Has.attr {w:World} {B n:Nat} {A:Option Addr} {xs:List Value} {L:List At2} (h:Has w B 2 A n xs) (hL:AsIn w B xs L) (hn:L≠[]):
  ∃g o,A=some ⟨g,o,none⟩∧g<B∧∀(i:Nat) (a:At2),L[i]?=some a→∃V c,w.cell? ⟨g,o+i*2,none⟩=some (.string (txt a.1))∧w.cell? ⟨g,o+i*2+1,none⟩=some (.slice V a.2.length c)∧Has w B 1 V a.2.length (strs a.2):=by
 have hp:=List.length_pos_iff.2 hn
 obtain⟨g,o,rfl,hg,hc⟩:=h.lies (by rw[hL.len];omega)
 refine⟨g,o,rfl,hg,fun i a ha=>?_⟩
 obtain⟨V,c,h1,h2,h3⟩:=hL.each i a ha
 exact⟨V,c,hc _ _ h1,by have:=hc _ _ h2;rwa [←Nat.add_assoc] at this,h3⟩
noncomputable def valsV (L:List At2) (name:List UInt8):List (List UInt8):=L.flatMap fun a=>if (typ a.1).1=(typ name).1 then a.2 else []
theorem vals_take {L:List At2} {i:Nat} {a:At2} {name:List UInt8} (h:L[i]?=some a):valsV (L.take (i+1)) name=valsV (L.take i) name++(if (typ a.1).1=(typ name).1 then a.2 else []):=by
 unfold valsV
 rw[List.take_add_one,h]
 simp
theorem vals_len:∀(L:List At2) (name:List UInt8),(valsV L name).length≤(L.flatMap (·.2)).length
 | [],_=>by simp[valsV]
 | a::r,name=>by
  have:=vals_len r name
  simp only[valsV,List.flatMap_cons,List.length_append] at this ⊢
  split
  ·omega
  ·simp only[List.length_nil];omega
theorem flat_take_le:∀(L:List At2) (i:Nat),((L.take i).flatMap (·.2)).length≤(L.flatMap (·.2)).length
 | [],i=>by simp
 | p::r,0=>by simp
 | p::r,i+1=>by
  have:=flat_take_le r i
  simp only[List.take_succ_cons,List.flatMap_cons,List.length_append]
  omega
theorem mem_flat_le {L:List At2} {i:Nat} {a:At2} (h:L[i]?=some a):((L.take i).flatMap (·.2)).length+a.2.length≤(L.flatMap (·.2)).length:=by
 have:=flat_take_le L (i+1)
 rw[List.take_add_one,h] at this
 simpa using this
theorem rvalues_any (L:List At2) (name:List UInt8) (w:World) (A:Option Addr) (n c:Nat) (xs:List Value) (hA:Has w w.heap.size 2 A n xs) (hL:AsIn w w.heap.size xs L) (hn:n≤1000000)
  (hname:name.length≤281474976710656) (hty:∀a∈L,a.1.length≤281474976710656) (htot:(L.flatMap (·.2)).length≤900000):
  Calls Tryz.prog 75 #[.slice A n c,.string (txt name)] w fun e w'=>∃v,e=.returned v∧w'.ownsRow w.heap.size 9 1 v (valsV L name).length (strs (valsV L name))∧Below w.heap.size w w':=by
 have hln:L.length=n:=by have h1:=hA.1;have h2:=hL.len;omega
 have hTn:=fun w=>rtype_any (txt name) (by rw[txt_size];exact hname) w
 simp only[txt_toList] at hTn
 have hTa:=fun (a:At2) (ha:a∈L) w=>rtype_any (txt a.1) (by rw[txt_size];exact hty a ha) w
 simp only[txt_toList] at hTa
 have hnl:∀i,(valsV (L.take i) name).length≤900000:=fun i=>by
  have h1:=vals_len (L.take i) name
  have h2:=flat_take_le L i
  omega
 obtain⟨wn,hwn⟩:∃wn,(typ name).1=wn:=⟨_,rfl⟩
 obtain⟨ws,hws⟩:∃ws,(typ name).2=ws:=⟨_,rfl⟩
 rw[hwn,hws] at hTn
 have HA:=hide hA
 have HL:=hide hL
 have Hln:=hide hln
 have HTa:=hide hTa
 have Hwn:=hide hwn
 have Hnl:=hide hnl
 have Htot:=hide htot
 have HTn:=hide (hTn w)
 clear hA hL hln hTa hTn hwn hws hnl htot hname hty
 generalize txt name=sn at *
 go_enter Tryz.func75,Tryz.ntmps75
 go_wp2_with (go_at_call 74;fail)
 refine HTn.out.mono ?_
 rintro e w1 ⟨rfl,hb1⟩
 have HB1:=hide hb1
 clear hb1 HTn
 go_wp2
 go_loopg [7,18] n (fun r s7 s18 wx=>∃j:Nat,j+r=n∧s18=.int .i64 (j:Int)∧Hid (wx.ownsRow w.heap.size 9 1 s7 (valsV (L.take j) name).length (strs (valsV (L.take j) name)))∧Hid (Below w.heap.size w wx))
 case atStart=>exact⟨0,by omega,rfl,hide (by simpa[valsV,strs] using World.ownsRow_nil _ _ _ _),HB1⟩
 case round=>
  obtain⟨j,hjg,rfl,hor,hbr⟩:=hrel
  clear HB1
  cases gk with
  | zero=>
   obtain rfl:j=n:=by omega
   have hjz:¬((j:Int)<(j:Int)):=by omega
   have ho:=hor.out
   rw[List.take_of_length_le (by rw[Hln.out];exact Nat.le_refl _)] at ho
   have Ho:=hide ho
   clear HA HL Hln HTa Hwn Hnl Htot hor ho
   go_wp2
   go_ret
   exact⟨_,rfl,Ho.out,hbr.out⟩
  | succ r=>
   have hj:j<n:=by omega
   have hjz:(j:Int)<(n:Int):=by omega
   obtain⟨a,ha⟩:∃a,L[j]?=some a:=⟨_,List.getElem?_eq_getElem (by rw[Hln.out];exact hj)⟩
   have ham:=List.mem_of_getElem? ha
   obtain⟨g,o,hAe,hg,hat⟩:=HA.out.attr HL.out (fun h=>by rw[h] at ha;simp at ha)
   subst hAe
   obtain⟨V,cv,x0,x1,hV⟩:=hat j a ha
   have y0:=(hbr.out.cell (p:=⟨g,o+j*2,none⟩) hg).trans x0
   have y1:=(hbr.out.cell (p:=⟨g,o+j*2+1,none⟩) hg).trans x1
   have hcall:=HTa.out a ham wr
   have hvt:=vals_take (name:=name) ha
   rw[Hwn.out] at hvt
   have hfl:=mem_flat_le ha
   have hvl:=vals_len (L.take j) name
   have htt:=Htot.out
   obtain⟨q,hq⟩:∃q,a.2.length=q:=⟨_,rfl⟩
   obtain⟨tn,htn⟩:∃tn,(typ a.1).1=tn:=⟨_,rfl⟩
   obtain⟨ts,hts⟩:∃ts,(typ a.1).2=ts:=⟨_,rfl⟩
   rw[htn,hts] at hcall
   rw[htn] at hvt
   rw[hq] at y1 hV hfl
   have hnn:(valsV (L.take j) name).length+q≤10000000:=by omega
   have HV:=hide hV
   have Hvt:=hide hvt
   have Hq:=hide hq
   generalize txt a.1=st at *
   clear HA HL Hln HTa Hwn Hnl Htot hat x0 x1 ha ham hV hvt hfl hvl htt htn hts hq
   by_cases ht:tn=wn
   ·subst ht
    go_wp2_with (go_at_call 74;fail)
    refine hcall.mono ?_
    rintro e w3 ⟨rfl,hb3⟩
    have hor3:=own_below hor.out hb3
    have z1:=(hb3.cell (p:=⟨g,o+j*2+1,none⟩) (Nat.lt_of_lt_of_le hg hbr.out.size)).trans y1
    have hV3:=(HV.out.below hbr.out).below (hb3.mono hbr.out.size)
    have hb4:=hbr.out.trans (hb3.mono hbr.out.size)
    have hs4:=hb4.size
    have H1:=hide (strs_one a.2)
    have h1:=H1.out
    clear hcall hb3 hor hbr y0 y1 HV
    go_wp2_with (at_builtin;go_must (refine appE _ 22 9 _ 1 16 Tryz.underlying22 infoS rfl (by omega) (by omega) rfl (.tmp 33) (.tmp 38) rfl w.heap.size _ _ _ rfl hor3 _ _ q _ (strs a.2) rfl hV3 h1 hnn hs4 ?_))
    intro v' w5 hor5 hb5 _
    have hB5:=hide (hb4.trans hb5)
    have hO5:Hid (w5.ownsRow w.heap.size 9 1 v' (valsV (L.take (j+1)) name).length (strs (valsV (L.take (j+1)) name))):=hide (by
     rw[Hvt.out,if_pos trivial,List.length_append,Hq.out,strs_append]
     exact hor5)
    clear hor3 hb4 hs4 hor5 hb5 hV3 z1 h1 H1 Hvt
    go_wp2
    go_roundg r
    case measure=>omega
    case rel=>exact⟨j+1,by omega,by go_num,hO5,hB5⟩
   ·have e1:=str_ne ht
    have hvt2:=Hvt.out
    rw[if_neg ht,List.append_nil] at hvt2
    have Hv2:=hide hvt2
    clear HV Hvt hvt2 ht
    generalize txt tn=T1 at *
    generalize txt wn=T2 at *
    go_wp2_with (go_at_call 74;fail)
    refine hcall.mono ?_
    rintro e w3 ⟨rfl,hb3⟩
    have hO3:Hid (w3.ownsRow w.heap.size 9 1 u7 (valsV (L.take (j+1)) name).length (strs (valsV (L.take (j+1)) name))):=hide (by rw[Hv2.out];exact own_below hor.out hb3)
    have hB3:=hide (hbr.out.trans (hb3.mono hbr.out.size))
    clear hcall hb3 hor hbr y0 y1
    go_wp2
    go_roundg r
    case measure=>omega
    case rel=>exact⟨j+1,by omega,by go_num,hO3,hB3⟩
end Go.Proofs.YtaolhefllfnmiaaGreatDoor
namespace Go.Proofs.YtaolhefllfnmiaaGreatDoor
set_option linter.unusedVariables false
theorem findV_le {s p:List UInt8} {q:Nat} (h1:q+p.length≤s.length) (h2:(s.drop q).take p.length=p):∀(i:Nat),i≤q→∃r:Nat,findV s p i=(r:Int)∧i≤r∧r≤q:=by
 intro i
 induction h:q-i generalizing i with
 | zero=>
  intro hi
  obtain rfl:i=q:=by omega
  exact⟨i,findV_hit (by omega) h2,Nat.le_refl _,Nat.le_refl _⟩
 | succ n ih=>
  intro hi
  by_cases h3:(s.drop i).take p.length=p
  ·exact ⟨i,findV_hit (by omega) h3,Nat.le_refl _,hi⟩
  ·obtain ⟨r,e,h4,h5⟩:=ih (i+1) (by omega) (by omega)
   exact⟨r,(findV_next (by omega) h3).trans e,by omega,h5⟩
end Go.Proofs.YtaolhefllfnmiaaGreatDoor
