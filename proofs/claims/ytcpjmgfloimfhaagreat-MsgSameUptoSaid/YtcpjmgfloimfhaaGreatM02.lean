/- Several texts in one: BerBool, LMath, Base8, HTree, HNew, GrowL, GrowZ, LState, LRead1, LRead2. By an AI agent. -/
import Derived.Test.YtcpjmgfloimfhaaGreatRows
import Derived.Test.YtcpjmgfloimfhaaGreatWords
import Derived.Test.YtcpjmgfloimfhaaGreatHMath
import Derived.Test.YtcpjmgfloimfhaaGreatM01
import Derived.Test.YtcpjmgfloimfhaaGreatSeat
import Derived.Deep.LoopGhost
import Derived.Deep.QuietTactic
import Derived.BigQuiet
import Derived.Handy
import Derived.Deep.CutRange
import Derived.Deep.CutBlock
import Derived.Laws.MakeOwn
import Derived.Laws.ResultCell
import Derived.Lib.Strings
import Derived.Lib.IndexBytes
import Derived.Deep.WholeRow
import Derived.Deep.RegionWith
import Derived.WalkLawsBesides
import Derived.Shelf.Abstract
import Derived.Deep.MidRow
import Derived.Laws.IdiomCopy
import Derived.Test.YtcpjmgfloimfhaaGreatGrow
set_option linter.unusedSimpArgs false
set_option linter.unusedVariables false
set_option maxRecDepth 100000
set_option maxHeartbeats 16000000
namespace Go.Proofs.YtcpjmgfloimfhaaGreat.Ber
open Go.RowKit
def toBool:List UInt8→Bool × Int
 | [b]=>((b.toNat:Int)!=0,0)
 | _=>(false,2)
theorem tobool_any (w:World) (B:Nat) (A:Option Addr) (n c:Nat) (l:List UInt8) (h:Has w B 1 A n (bys l)) (hc:n≤c) (_hm:c≤maxLen):
  Calls Tryz.prog 162 #[.slice A n c] w fun e w'=>e=.returned (.tuple #[.bool (toBool l).1,.int .i64 (toBool l).2])∧w=w':=by
 have hn:l.length=n:=by simpa[bys] using h.1
 unfold maxLen at _hm
 by_cases h1:n=1
 ·subst h1
  obtain⟨b,rfl⟩:=List.length_eq_one_iff.1 hn
  obtain⟨g,o,rfl,_,hcell⟩:=h.lies (by simp[bys])
  have h0:=hcell 0 (c8 b) rfl
  simp only[c8,Nat.add_zero] at h0
  have hb:=b.toNat_lt
  clear h hcell
  go_enter Tryz.func162,Tryz.ntmps162
  go_wp2
  go_ret2
  exact⟨rfl,rfl⟩
 ·have ht:toBool l=(false,2):=by
   unfold toBool
   split
   ·simp at hn;omega
   ·rfl
  rw[ht]
  have h2:((n:Int)!=1)=true:=by rw[bne_iff_ne];omega
  clear h hn ht
  go_enter Tryz.func162,Tryz.ntmps162
  go_wp2
  go_ret2
  exact⟨rfl,rfl⟩
end Go.Proofs.YtcpjmgfloimfhaaGreat.Ber
namespace Go.Proofs.YtcpjmgfloimfhaaGreat
open Go.RowKit
set_option linter.unusedVariables false
abbrev Fd:=UInt8 × List UInt8
abbrev Rdr (α:Type):=List Fd→Option (α × List Fd)
structure Ct where
 oid:List UInt8
 crit:Bool
 hasv:Bool
 value:List UInt8
abbrev Atr:=List UInt8 × List (List UInt8)
structure MT where
 id:Int
 kind:Int
 name:List UInt8:=[]
 pw:List UInt8:=[]
 ver:Int:=0
 scope:Int:=0
 deref:Int:=0
 size:Int:=0
 time:Int:=0
 tonly:Bool:=false
 filt:FT:=.mk 0 [] [] [] [] [] []
 attrs:List (List UInt8):=[]
 lst:List Atr:=[]
 chs:List (Int × Atr):=[]
 nrdn:List UInt8:=[]
 delold:Bool:=false
 hassup:Bool:=false
 sup:List UInt8:=[]
 attr:List UInt8:=[]
 value:List UInt8:=[]
 target:Int:=0
 code:Int:=0
 matched:List UInt8:=[]
 text:List UInt8:=[]
 refs:List (List UInt8):=[]
 ctls:List Ct:=[]
namespace Rd
def fieldsOf (c:List UInt8):Option (List Fd):=
 if (Ber.listGo c.length [] [] c).2.2=0 then some ((Ber.listGo c.length [] [] c).1.zip (Ber.listGo c.length [] [] c).2.1) else none
def takeR (t:UInt8):Rdr (List UInt8)
 |(t',c)::r=>if t'=t then some (c,r) else none
 | []=>none
def taggedR (t:UInt8):Rdr (List UInt8):=fun F=>match takeR t F with
 | some (c,r)=>if c.length≤1000 then some (c,r) else none
 | none=>none
def textR:Rdr (List UInt8):=taggedR 4
def numR (t:UInt8) (most:Int):Rdr Int:=fun F=>match takeR t F with
 | some (c,r)=>if (Ber.toInt c).2=0∧0≤(Ber.toInt c).1∧(Ber.toInt c).1≤most then some ((Ber.toInt c).1,r) else none
 | none=>none
def flagR:Rdr Bool:=fun F=>match takeR 1 F with
 | some (c,r)=>if (Ber.toBool c).2=0 then some ((Ber.toBool c).1,r) else none
 | none=>none
def wholeR {α:Type} (c:List UInt8) (p:Rdr α):Option α:=match fieldsOf c with
 | none=>none
 | some G=>match p G with
  | some (x,[])=>some x
  | _=>none
def innerR {α:Type} (t:UInt8) (p:Rdr α):Rdr α:=fun F=>match takeR t F with
 | none=>none
 | some (c,r)=>(wholeR c p).map fun x=>(x,r)
def manyGo {α:Type} (p:Rdr α):Nat→List Fd→List α→Option (List α)
 | _,[],acc=>some acc
 | 0,_::_,_=>none
 | n+1,f::r,acc=>match p (f::r) with
  | none=>none
  | some (x,F)=>manyGo p n F (acc++[x])
def manyR {α:Type} (p:Rdr α):Rdr (List α):=fun F=>(manyGo p F.length F []).map fun l=>(l,[])
def listR {α:Type} (t:UInt8) (p:Rdr α):Rdr (List α):=innerR t (manyR p)
def someR {α:Type} (t:UInt8) (p:Rdr α):Rdr (List α):=fun F=>match listR t p F with
 | some (x::l,r)=>some (x::l,r)
 | _=>none
def andR {α β γ:Type} (p:Rdr α) (q:Rdr β) (f:α→β→γ):Rdr γ:=fun F=>match p F with
 | none=>none
 | some (x,G)=>match q G with
  | none=>none
  | some (y,H)=>some (f x y,H)
def nextIs (t:UInt8):List Fd→Bool
 |(t',_)::_=>t'==t
 | []=>false
def attrR:Rdr Atr:=innerR 0x30 (andR textR (listR 0x31 textR) Prod.mk)
def changeR:Rdr (Int × Atr):=innerR 0x30 (andR (numR 0x0a 3) attrR Prod.mk)
def critR:Rdr Bool:=fun F=>if nextIs 1 F then flagR F else some (false,F)
def valueR:Rdr (Bool × List UInt8):=fun F=>if F=[] then some ((false,[]),F) else (textR F).map fun p=>((true,p.1),p.2)
def controlR:Rdr Ct:=innerR 0x30 (andR (andR textR critR Prod.mk) valueR fun a v=>⟨a.1,a.2,v.1,v.2⟩)
def pieceR (t:UInt8):Rdr (List UInt8):=fun F=>match taggedR t F with
 | some (x::l,r)=>some (x::l,r)
 | _=>none
def optR (t:UInt8):Rdr (List UInt8):=fun F=>if nextIs t F then pieceR t F else some ([],F)
def anyGo:Nat→List Fd→List (List UInt8)→Option (List (List UInt8) × List Fd)
 | 0,F,acc=>if nextIs 0x81 F then none else some (acc,F)
 | n+1,F,acc=>if nextIs 0x81 F then (match pieceR 0x81 F with
   | none=>none
   | some (x,G)=>anyGo n G (acc++[x])) else some (acc,F)
def anyR:Rdr (List (List UInt8)):=fun F=>anyGo F.length F []
def piecesR:Rdr (List UInt8 × List (List UInt8) × List UInt8):=andR (andR (optR 0x80) anyR Prod.mk) (optR 0x82) fun a l=>(a.1,a.2,l)
def filterR:Nat→Rdr FT
 | 0=>fun _=>none
 | d+1=>fun F=>match F with
  | []=>none
  |(t,c)::r=>if t=0x87 then (taggedR t F).map fun p=>(.mk 7 p.1 [] [] [] [] [],p.2)
   else if t=0xa0∨t=0xa1∨t=0xa2 then innerR t (fun G=>(manyR (filterR d) G).map fun p=>(FT.mk ((t.toNat:Int)-160) [] [] [] [] [] p.1,p.2)) F
   else if t=0xa4 then innerR t (andR textR (innerR 0x30 piecesR) fun a p=>FT.mk 4 a [] p.1 p.2.2 p.2.1 []) F
   else if t=0xa3∨t=0xa5∨t=0xa6∨t=0xa8 then innerR t (andR textR textR fun a v=>FT.mk ((t.toNat:Int)-160) a v [] [] [] []) F
   else none
def formedR:Rdr FT:=fun F=>match filterR 20 F with
 | some (f,r)=>if f.formed then some (f,r) else none
 | none=>none
end Rd
end Go.Proofs.YtcpjmgfloimfhaaGreat
namespace Go.Proofs.YtcpjmgfloimfhaaGreat
open Go.RowKit
set_option linter.unusedVariables false
theorem below1 (w:World) (o:Obj):Below w.heap.size w (w.alloc o):=(Below.refl _ w).alloc (Nat.le_refl _) _
theorem txt_size (l:List UInt8):(txt l).size=l.length:=by simp[txt,ByteArray.size]
def strs (L:List (List UInt8)):List Value:=L.map fun x=>.string (txt x)
theorem strs_length (L:List (List UInt8)):(strs L).length=L.length:=by simp[strs]
theorem strs_one (L:List (List UInt8)):∀u∈strs L,u.oneCell'=true:=by
 intro u hu
 obtain⟨b,_,rfl⟩:=List.mem_map.1 hu
 rfl
theorem Has.strs_n {w:World} {B:Nat} {A:Option Addr} {n:Nat} {L:List (List UInt8)} (h:Has w B 1 A n (strs L)):n=L.length:=by
 have:=h.1
 rw[strs_length] at this
 omega
theorem Has.texts {w:World} {B:Nat} {A:Option Addr} {n:Nat} {L:List (List UInt8)} (h:Has w B 1 A n (strs L)) (hl:L≠[]):
  ∃g o,A=some ⟨g,o,none⟩∧g<B∧∀(i:Nat) (x:List UInt8),L[i]?=some x→w.cell? ⟨g,o+i,none⟩=some (.string (txt x)):=by
 obtain⟨g,o,rfl,hb,hc⟩:=h.lies (by rw[strs_length];exact List.length_pos_iff.2 hl)
 exact⟨g,o,rfl,hb,fun i x hx=>hc i _ (by simp[strs,hx])⟩
theorem infoS:(Tryz.prog.info? 9).map (fun i=>(i.zero,i.size,i.bytes))=some (some (.string .empty),1,16):=by kernel_rfl
theorem str_ne {a b:List UInt8} (h:a≠b):((txt a).toList==(txt b).toList)=false:=by rw[txt_bytes,txt_bytes];simpa using h
theorem app8g {ops:Array Oper} {rest:List Oper} {o:Oper} {a:Act} {Q:Exit→Act→World→Prop} (W:World) (hgd:o.guard=none) (s x:Operand)
  (ho:o.op=.call { callee:=.builtin .append,args:=#[s,x],argTypes:=#[33,33] })
  (base:Nat) (v:Value) (n:Nat) (xs:List UInt8) (hs:a.eval s=v) (hown:W.ownsRow base 5 1 v n (bys xs))
  (B:Nat) (A:Option Addr) (m c:Nat) (l:List UInt8) (hx:a.eval x=.slice A m c) (hr:Has W B 1 A m (bys l)) (ys:List UInt8) (hys:Hid (xs++l=ys)) (hlen:Hid (n+m=ys.length))
  (hb:n+m≤140737488355328) (hbase:base≤W.heap.size)
  (h:∀v' w',w'.ownsRow base 5 1 v' ys.length (bys ys)→Below base W w'→W.grownBy w' v.ownBlock→wpList Tryz.prog ops Q rest (a.put o.dst v') w'):
  wpList Tryz.prog ops Q (o::rest) a W:=by
 obtain⟨i0,hi,hz0,hz1,hz2⟩:=info_parts info8
 refine wpList_app W hgd s x 33 ho base 5 i0 _ 1 1 Tryz.underlying33 hi hz0 hz1 hz2 rfl (by omega) v n (bys xs) hs hown B A m c (bys l) hx hr (bys_one _) (by unfold maxLen;omega) (by omega) hbase ?_
 intro v' w' h1 h2 h3
 rw[←bys_append,hys.out,hlen.out] at h1
 exact h v' w' h1 (below_grown hown h2 hbase) h2
end Go.Proofs.YtcpjmgfloimfhaaGreat
namespace Go.Proofs.YtcpjmgfloimfhaaGreat
open Go.RowKit
set_option linter.unusedVariables false
mutual
def FIn (w:World) (B:Nat):FT→List Value→Prop
 | .mk k a v f l any ps,cs=>∃A c D d xs,cs=[.int .i64 k,.string (txt a),.string (txt v),.string (txt f),.string (txt l),.slice A any.length c,.slice D ps.length d]∧
   (any.length≤maxLen∧ps.length≤maxLen)∧Has w B 1 A any.length (strs any)∧Has w B 7 D ps.length xs∧FsIn w B ps xs
def FsIn (w:World) (B:Nat):List FT→List Value→Prop
 | [],xs=>xs=[]
 | p::r,xs=>FIn w B p (xs.take 7)∧FsIn w B r (xs.drop 7)
end
section
variable {w w':World} {B B':Nat}
theorem FIn.len:∀{t:FT} {cs:List Value},FIn w B t cs→cs.length=7
 | .mk ..,cs,h=>by simp only[FIn] at h;obtain⟨A,c,D,d,xs,rfl,_⟩:=h;rfl
theorem FsIn.len:∀{ps:List FT} {xs:List Value},FsIn w B ps xs→xs.length=7*ps.length
 | [],xs,h=>by simp only[FsIn] at h;subst h;rfl
 | p::r,xs,h=>by
  simp only[FsIn] at h
  have h1:=FIn.len h.1
  have h2:=FsIn.len h.2
  simp only[List.length_take,List.length_drop,List.length_cons] at h1 h2 ⊢
  omega
mutual
theorem FIn.move (hH:∀(sz:Nat) (A:Option Addr) (n:Nat) (xs:List Value),Has w B sz A n xs→Has w' B' sz A n xs):∀(t:FT) (cs:List Value),FIn w B t cs→FIn w' B' t cs
 | .mk k a v f l any ps,cs,h=>by
  simp only[FIn] at h ⊢
  obtain⟨A,c,D,d,xs,h1,hm,h2,h3,h4⟩:=h
  exact⟨A,c,D,d,xs,h1,hm,hH _ _ _ _ h2,hH _ _ _ _ h3,FsIn.move hH ps xs h4⟩
theorem FsIn.move (hH:∀(sz:Nat) (A:Option Addr) (n:Nat) (xs:List Value),Has w B sz A n xs→Has w' B' sz A n xs):∀(ps:List FT) (xs:List Value),FsIn w B ps xs→FsIn w' B' ps xs
 | [],xs,h=>by simp only[FsIn] at h ⊢;exact h
 | p::r,xs,h=>by
  simp only[FsIn] at h ⊢
  exact⟨FIn.move hH p _ h.1,FsIn.move hH r _ h.2⟩
end
theorem FIn.below {t:FT} {cs:List Value} (h:FIn w B t cs) (hb:Below B w w'):FIn w' B t cs:=FIn.move (fun _ _ _ _ h=>h.below hb) t cs h
theorem FIn.upto {t:FT} {cs:List Value} (h:FIn w B t cs) (hB:B≤B'):FIn w B' t cs:=FIn.move (fun _ _ _ _ h=>h.upto hB) t cs h
theorem FsIn.below {ps:List FT} {xs:List Value} (h:FsIn w B ps xs) (hb:Below B w w'):FsIn w' B ps xs:=FsIn.move (fun _ _ _ _ h=>h.below hb) ps xs h
theorem FsIn.upto {ps:List FT} {xs:List Value} (h:FsIn w B ps xs) (hB:B≤B'):FsIn w B' ps xs:=FsIn.move (fun _ _ _ _ h=>h.upto hB) ps xs h
theorem FIn.grow {t:FT} {cs:List Value} (h:FIn w w.heap.size t cs) (hb:Below w.heap.size w w'):FIn w' w'.heap.size t cs:=(h.below hb).upto hb.size
theorem FsIn.at_:∀{ps:List FT} {xs:List Value} (h:FsIn w B ps xs) (i:Nat) (p:FT),ps[i]?=some p→FIn w B p ((xs.drop (i*7)).take 7)
 | [],xs,h,i,p,hp=>by simp at hp
 | q::r,xs,h,0,p,hp=>by
  simp only[FsIn] at h
  simp only[List.getElem?_cons_zero,Option.some.injEq] at hp
  subst hp
  simpa using h.1
 | q::r,xs,h,i+1,p,hp=>by
  simp only[FsIn] at h
  simp only[List.getElem?_cons_succ] at hp
  have:=FsIn.at_ h.2 i p hp
  rw[List.drop_drop] at this
  rwa [show (i+1)*7=7+i*7 by omega]
theorem FsIn.snoc:∀{ps:List FT} {xs:List Value} {p:FT} {cs:List Value},FsIn w B ps xs→FIn w B p cs→FsIn w B (ps++[p]) (xs++cs)
 | [],xs,p,cs,h,hp=>by
  simp only[FsIn] at h
  subst h
  have:=hp.len
  simp only[List.nil_append,FsIn]
  refine⟨by rw[List.take_of_length_le (by omega)];exact hp,List.drop_eq_nil_of_le (by omega)⟩
 | q::r,xs,p,cs,h,hp=>by
  have hl:=h.len
  simp only[List.length_cons] at hl
  simp only[FsIn] at h
  simp only[List.cons_append,FsIn]
  refine⟨by rw[List.take_append_of_le_length (by omega)];exact h.1,?_⟩
  rw[List.drop_append_of_le_length (by omega)]
  exact FsIn.snoc h.2 hp
structure Box7 (w:World) (b:Nat) (k:Int) (a v f l:ByteArray) (A:Option Addr) (m c:Nat) (D:Option Addr) (n d:Nat):Prop where
 lt:b<w.heap.size
 c0:w.cell? ⟨b,0,none⟩=some (.int .i64 k)
 c1:w.cell? ⟨b,1,none⟩=some (.string a)
 c2:w.cell? ⟨b,2,none⟩=some (.string v)
 c3:w.cell? ⟨b,3,none⟩=some (.string f)
 c4:w.cell? ⟨b,4,none⟩=some (.string l)
 c5:w.cell? ⟨b,5,none⟩=some (.slice A m c)
 c6:w.cell? ⟨b,6,none⟩=some (.slice D n d)
variable {k:Int} {a v f l:ByteArray} {A D:Option Addr} {m c n d b:Nat}
theorem Box7.new (w:World) (k:Int) (a v f l:ByteArray) (A:Option Addr) (m c:Nat) (D:Option Addr) (n d:Nat) (e:TypeId):
  Box7 (w.alloc (.cells #[.int .i64 k,.string a,.string v,.string f,.string l,.slice A m c,.slice D n d] e)) w.heap.size k a v f l A m c D n d:=by
 refine⟨by simp,?_,?_,?_,?_,?_,?_,?_⟩<;>(rw[World.cell?_alloc_at (hn:=by simp)];rfl)
theorem Box7.below {E:Nat} (h:Box7 w b k a v f l A m c D n d) (hE:b<E) (hb:Below E w w'):Box7 w' b k a v f l A m c D n d:=
 ⟨Nat.lt_of_lt_of_le h.lt hb.size,(hb.cell (p:=⟨b,0,none⟩) hE).trans h.c0,(hb.cell (p:=⟨b,1,none⟩) hE).trans h.c1,(hb.cell (p:=⟨b,2,none⟩) hE).trans h.c2,(hb.cell (p:=⟨b,3,none⟩) hE).trans h.c3,
  (hb.cell (p:=⟨b,4,none⟩) hE).trans h.c4,(hb.cell (p:=⟨b,5,none⟩) hE).trans h.c5,(hb.cell (p:=⟨b,6,none⟩) hE).trans h.c6⟩
structure Part7 (w:World) (B g o:Nat) (p:FT) (u0 u1 u2 u3 u4 u5 u6:Value):Prop where
 fin:FIn w B p [u0,u1,u2,u3,u4,u5,u6]
 lt:g<B
 e0:w.cell? ⟨g,o,none⟩=some u0
 e1:w.cell? ⟨g,o+1,none⟩=some u1
 e2:w.cell? ⟨g,o+2,none⟩=some u2
 e3:w.cell? ⟨g,o+3,none⟩=some u3
 e4:w.cell? ⟨g,o+4,none⟩=some u4
 e5:w.cell? ⟨g,o+5,none⟩=some u5
 e6:w.cell? ⟨g,o+6,none⟩=some u6
theorem Part7.below {g o:Nat} {p:FT} {u0 u1 u2 u3 u4 u5 u6:Value} (h:Part7 w B g o p u0 u1 u2 u3 u4 u5 u6) (hb:Below B w w'):Part7 w' B g o p u0 u1 u2 u3 u4 u5 u6:=
 ⟨h.fin.below hb,h.lt,(hb.cell (p:=⟨g,o,none⟩) h.lt).trans h.e0,(hb.cell (p:=⟨g,o+1,none⟩) h.lt).trans h.e1,(hb.cell (p:=⟨g,o+2,none⟩) h.lt).trans h.e2,(hb.cell (p:=⟨g,o+3,none⟩) h.lt).trans h.e3,
  (hb.cell (p:=⟨g,o+4,none⟩) h.lt).trans h.e4,(hb.cell (p:=⟨g,o+5,none⟩) h.lt).trans h.e5,(hb.cell (p:=⟨g,o+6,none⟩) h.lt).trans h.e6⟩
theorem Part7.up {g o:Nat} {p:FT} {u0 u1 u2 u3 u4 u5 u6:Value} (h:Part7 w B g o p u0 u1 u2 u3 u4 u5 u6) (hB:B≤B'):Part7 w B' g o p u0 u1 u2 u3 u4 u5 u6:=
 ⟨h.fin.upto hB,Nat.lt_of_lt_of_le h.lt hB,h.e0,h.e1,h.e2,h.e3,h.e4,h.e5,h.e6⟩
theorem seven {cs:List Value} (h:cs.length=7):∃u0 u1 u2 u3 u4 u5 u6,cs=[u0,u1,u2,u3,u4,u5,u6]:=by
 match cs,h with
 | [u0,u1,u2,u3,u4,u5,u6],_=>exact⟨_,_,_,_,_,_,_,rfl⟩
theorem Has.part {xs:List Value} {ps:List FT} (h:Has w B 7 D ps.length xs) (hf:FsIn w B ps xs) (hn:ps≠[]):
  ∃g o,D=some ⟨g,o,none⟩∧g<B∧∀(i:Nat) (p:FT),ps[i]?=some p→∃u0 u1 u2 u3 u4 u5 u6,Part7 w B g (o+i*7) p u0 u1 u2 u3 u4 u5 u6:=by
 have hl:=hf.len
 have hp:=List.length_pos_iff.2 hn
 obtain⟨g,o,rfl,hg,hc⟩:=h.lies (by omega)
 refine⟨g,o,rfl,hg,fun i p hi=>?_⟩
 have hfin:=hf.at_ i p hi
 obtain⟨u0,u1,u2,u3,u4,u5,u6,he⟩:=seven hfin.len
 have key:∀(j:Nat) (u:Value),[u0,u1,u2,u3,u4,u5,u6][j]?=some u→w.cell? ⟨g,o+i*7+j,none⟩=some u:=by
  intro j u hu
  rw[←he] at hu
  have:=hc (i*7+j) u (by
   rw[List.getElem?_take] at hu
   split at hu
   ·rwa [List.getElem?_drop] at hu
   ·cases hu)
  rwa [←Nat.add_assoc] at this
 rw[he] at hfin
 exact⟨u0,u1,u2,u3,u4,u5,u6,hfin,hg,key 0 _ rfl,key 1 _ rfl,key 2 _ rfl,key 3 _ rfl,key 4 _ rfl,key 5 _ rfl,key 6 _ rfl⟩
end
theorem bne_of {b c:List UInt8} {x:Bool} (h:(b==c)=x):(b !=c)= !x:=by unfold bne;rw[h]
theorem infoF:(Tryz.prog.info? 39).map (fun i=>(i.zero,i.size,i.bytes))=some (some (.agg #[.int .i64 0,.string .empty,.string .empty,.string .empty,.string .empty,.slice none 0 0,.slice none 0 0]),7,120):=by kernel_rfl
end Go.Proofs.YtcpjmgfloimfhaaGreat
namespace Go.Proofs.YtcpjmgfloimfhaaGreat
open Go.RowKit
set_option linter.unusedVariables false
def HasP (w:World) (P:Nat→Prop) (size:Nat) (A:Option Addr) (n:Nat) (xs:List Value):Prop:=
 xs.length=n*size∧(xs=[]∨∃ad,A=some ad∧P ad.block∧∀j u,xs[j]?=some u→w.cell? (ad.add j)=some u)
section
variable {w w':World} {P P':Nat→Prop} {B size n:Nat} {A:Option Addr} {xs:List Value}
theorem HasP.has (h:HasP w P size A n xs) (hP:∀b,P b→b<B):Has w B size A n xs:=
 ⟨h.1,h.2.imp id fun ⟨ad,e,hb,hc⟩=>⟨ad,e,hP _ hb,hc⟩⟩
theorem HasP.move (h:HasP w P size A n xs) (hc:∀p:Addr,P p.block→w'.cell? p=w.cell? p) (hP:∀b,P b→P' b):HasP w' P' size A n xs:=
 ⟨h.1,h.2.imp id fun ⟨ad,e,hb,hx⟩=>⟨ad,e,hP _ hb,fun j u hu=>(hc _ (by rw[block_add];exact hb)).trans (hx j u hu)⟩⟩
theorem Has.hasP (h:Has w B size A n xs):HasP w (fun b=>b<B) size A n xs:=h
theorem own_formP {base:Nat} {e:TypeId} {v:Value} (h:w.ownsRow base e size v n xs):∃A c,v=.slice A n c∧n≤c∧HasP w (fun b=>base≤b∧b<w.heap.size) size A n xs:=by
 rcases h.2 with⟨rfl,rfl⟩ | ⟨g,cap,cur,rfl,hb,hh,hnc,_,hs,ht⟩
 ·exact ⟨none,0,rfl,Nat.le_refl _,h.1,.inl (List.eq_nil_of_length_eq_zero (by simpa using h.1))⟩
 ·refine ⟨_,cap,rfl,hnc,h.1,?_⟩
  have hlt:g<w.heap.size:=(Array.getElem?_eq_some_iff.1 hh).1
  rcases Nat.eq_zero_or_pos n with h0 | h0
  ·subst h0
   exact .inl (List.eq_nil_of_length_eq_zero (by simpa using h.1))
  ·obtain ⟨g',cap',hv,_,hlt'⟩:=h.form h0
   injection hv with hA
   injection hA with hA
   injection hA with hg
   subst hg
   exact .inr ⟨_,rfl,⟨hb,hlt⟩,h.cells (g:=g) rfl⟩
end
mutual
def FInP (w:World) (P:Nat→Prop):FT→List Value→Prop
 | .mk k a v f l any ps,cs=>∃A c D d xs,cs=[.int .i64 k,.string (txt a),.string (txt v),.string (txt f),.string (txt l),.slice A any.length c,.slice D ps.length d]∧
   (any.length≤maxLen∧ps.length≤maxLen)∧HasP w P 1 A any.length (strs any)∧HasP w P 7 D ps.length xs∧FsInP w P ps xs
def FsInP (w:World) (P:Nat→Prop):List FT→List Value→Prop
 | [],xs=>xs=[]
 | p::r,xs=>FInP w P p (xs.take 7)∧FsInP w P r (xs.drop 7)
end
section
variable {w w':World} {P P':Nat→Prop} {B:Nat}
mutual
theorem FInP.fin (hP:∀b,P b→b<B):∀{t:FT} {cs:List Value},FInP w P t cs→FIn w B t cs
 | .mk k a v f l any ps,cs,h=>by
  simp only[FInP] at h
  simp only[FIn]
  obtain⟨A,c,D,d,xs,h1,hm,h2,h3,h4⟩:=h
  exact⟨A,c,D,d,xs,h1,hm,h2.has hP,h3.has hP,FsInP.fin hP h4⟩
theorem FsInP.fin (hP:∀b,P b→b<B):∀{ps:List FT} {xs:List Value},FsInP w P ps xs→FsIn w B ps xs
 | [],xs,h=>by simp only[FsInP] at h;simp only[FsIn];exact h
 | p::r,xs,h=>by
  simp only[FsInP] at h
  simp only[FsIn]
  exact⟨FInP.fin hP h.1,FsInP.fin hP h.2⟩
end
mutual
theorem FInP.move (hc:∀p:Addr,P p.block→w'.cell? p=w.cell? p) (hP:∀b,P b→P' b):∀{t:FT} {cs:List Value},FInP w P t cs→FInP w' P' t cs
 | .mk k a v f l any ps,cs,h=>by
  simp only[FInP] at h ⊢
  obtain⟨A,c,D,d,xs,h1,hm,h2,h3,h4⟩:=h
  exact⟨A,c,D,d,xs,h1,hm,h2.move hc hP,h3.move hc hP,FsInP.move hc hP h4⟩
theorem FsInP.move (hc:∀p:Addr,P p.block→w'.cell? p=w.cell? p) (hP:∀b,P b→P' b):∀{ps:List FT} {xs:List Value},FsInP w P ps xs→FsInP w' P' ps xs
 | [],xs,h=>by simp only[FsInP] at h ⊢;exact h
 | p::r,xs,h=>by
  simp only[FsInP] at h ⊢
  exact⟨FInP.move hc hP h.1,FsInP.move hc hP h.2⟩
end
theorem FInP.len {t:FT} {cs:List Value} (h:FInP w P t cs):cs.length=7:=by
 cases t with
 | mk k a v f l any ps=>
  simp only[FInP] at h
  obtain⟨A,c,D,d,xs,rfl,_⟩:=h
  rfl
theorem FInP.one {t:FT} {cs:List Value} (h:FInP w P t cs):∀u∈cs,u.oneCell'=true:=by
 cases t with
 | mk k a v f l any ps=>
  simp only[FInP] at h
  obtain⟨A,c,D,d,xs,rfl,_⟩:=h
  intro u hu
  simp only[List.mem_cons,List.not_mem_nil,or_false] at hu
  rcases hu with rfl | rfl | rfl | rfl | rfl | rfl | rfl<;>rfl
theorem FsInP.len:∀{ps:List FT} {xs:List Value},FsInP w P ps xs→xs.length=7*ps.length
 | [],xs,h=>by simp only[FsInP] at h;subst h;rfl
 | p::r,xs,h=>by
  simp only[FsInP] at h
  have h1:=h.1.len
  have h2:=FsInP.len h.2
  simp only[List.length_take,List.length_drop,List.length_cons] at h1 h2 ⊢
  omega
theorem FsInP.snoc:∀{ps:List FT} {xs:List Value} {p:FT} {cs:List Value},FsInP w P ps xs→FInP w P p cs→FsInP w P (ps++[p]) (xs++cs)
 | [],xs,p,cs,h,hp=>by
  simp only[FsInP] at h
  subst h
  have:=hp.len
  simp only[List.nil_append,FsInP]
  refine⟨by rw[List.take_of_length_le (by omega)];exact hp,List.drop_eq_nil_of_le (by omega)⟩
 | q::r,xs,p,cs,h,hp=>by
  have hl:=h.len
  simp only[List.length_cons] at hl
  simp only[FsInP] at h
  simp only[List.cons_append,FsInP]
  refine⟨by rw[List.take_append_of_le_length (by omega)];exact h.1,?_⟩
  rw[List.drop_append_of_le_length (by omega)]
  exact FsInP.snoc h.2 hp
structure Out7 (w:World) (h:Nat) (u0 u1 u2 u3 u4 u5 u6:Value):Prop where
 lt:h<w.heap.size
 c0:w.cell? ⟨h,0,none⟩=some u0
 c1:w.cell? ⟨h,1,none⟩=some u1
 c2:w.cell? ⟨h,2,none⟩=some u2
 c3:w.cell? ⟨h,3,none⟩=some u3
 c4:w.cell? ⟨h,4,none⟩=some u4
 c5:w.cell? ⟨h,5,none⟩=some u5
 c6:w.cell? ⟨h,6,none⟩=some u6
 fz:∀i,w.frozen? ⟨h,i,none⟩=false
variable {h:Nat} {u0 u1 u2 u3 u4 u5 u6:Value}
theorem Out7.new (w:World) (e:TypeId):Out7 (w.alloc (.cells #[u0,u1,u2,u3,u4,u5,u6] e)) w.heap.size u0 u1 u2 u3 u4 u5 u6:=by
 refine⟨by simp,?_,?_,?_,?_,?_,?_,?_,fun i=>World.frozen?_alloc_at _ _ _ _ rfl⟩<;>(rw[World.cell?_alloc_at (hn:=by simp)];rfl)
theorem Out7.keep (t:Out7 w h u0 u1 u2 u3 u4 u5 u6) (hs:w.heap.size≤w'.heap.size) (hb:w'.heap[h]?=w.heap[h]?):Out7 w' h u0 u1 u2 u3 u4 u5 u6:=
 have k:∀i,w'.cell? ⟨h,i,none⟩=w.cell? ⟨h,i,none⟩:=fun i=>World.cell?_of_block (a:=⟨h,i,none⟩) hb
 ⟨Nat.lt_of_lt_of_le t.lt hs,(k 0).trans t.c0,(k 1).trans t.c1,(k 2).trans t.c2,(k 3).trans t.c3,(k 4).trans t.c4,(k 5).trans t.c5,(k 6).trans t.c6,
  fun i=>(World.frozen?_of_block (a:=⟨h,i,none⟩) hb).trans (t.fz i)⟩
theorem Out7.below (t:Out7 w h u0 u1 u2 u3 u4 u5 u6) {D:Nat} (hD:h<D) (hb:Below D w w'):Out7 w' h u0 u1 u2 u3 u4 u5 u6:=t.keep hb.size (hb.block h hD)
theorem Out7.set6 (t:Out7 w h u0 u1 u2 u3 u4 u5 u6) (u:Value):Out7 (w.setCell ⟨h,6,none⟩ u) h u0 u1 u2 u3 u4 u5 u:=by
 have k:∀i,i≠6→(w.setCell ⟨h,6,none⟩ u).cell? ⟨h,i,none⟩=w.cell? ⟨h,i,none⟩:=fun i hi=>World.cell?_setCell_other _ _ _ _ (by simp;try omega)
 exact⟨by simpa[World.setCell] using t.lt,(k 0 (by omega)).trans t.c0,(k 1 (by omega)).trans t.c1,(k 2 (by omega)).trans t.c2,(k 3 (by omega)).trans t.c3,(k 4 (by omega)).trans t.c4,(k 5 (by omega)).trans t.c5,
  World.cell?_setCell_same _ _ _ t.c6,fun i=>by rw[World.frozen?_setCell];exact t.fz i⟩
theorem Out7.sets {v0 v1 v2 v3 v4 v5 v6:Value} (t:Out7 w h u0 u1 u2 u3 u4 u5 u6):Out7 (w.setCells h 0 [v0,v1,v2,v3,v4,v5,v6]) h v0 v1 v2 v3 v4 v5 v6:=by
 have hs:∀j,j<7→(w.cell? ⟨h,0+j,none⟩).isSome=true:=fun j hj=>by
  match j,hj with
  | 0,_=>rw[Nat.zero_add,t.c0];rfl
  | 1,_=>rw[Nat.zero_add,t.c1];rfl
  | 2,_=>rw[Nat.zero_add,t.c2];rfl
  | 3,_=>rw[Nat.zero_add,t.c3];rfl
  | 4,_=>rw[Nat.zero_add,t.c4];rfl
  | 5,_=>rw[Nat.zero_add,t.c5];rfl
  | 6,_=>rw[Nat.zero_add,t.c6];rfl
 have key:=World.cell?_setCells_in h [v0,v1,v2,v3,v4,v5,v6] 0 w hs
 have hsz:∀(vs:List Value) (o:Nat) (w:World),(w.setCells h o vs).heap.size=w.heap.size:=by
  intro vs
  induction vs with
  | nil=>intro o w;rfl
  | cons v r ih=>intro o w;rw[World.setCells,ih];simp[World.setCell]
 refine⟨by rw[hsz];exact t.lt,?_,?_,?_,?_,?_,?_,?_,fun i=>by rw[World.frozen?_setCells];exact t.fz i⟩
 ·simpa using key 0 (by simp)
 ·simpa using key 1 (by simp)
 ·simpa using key 2 (by simp)
 ·simpa using key 3 (by simp)
 ·simpa using key 4 (by simp)
 ·simpa using key 5 (by simp)
 ·simpa using key 6 (by simp)
theorem Out7.there (t:Out7 w h u0 u1 u2 u3 u4 u5 u6):w.there h 0 7:=fun j hj=>by
 refine⟨?_,t.fz _⟩
 match j,hj with
 | 0,_=>rw[Nat.zero_add,t.c0];rfl
 | 1,_=>rw[Nat.zero_add,t.c1];rfl
 | 2,_=>rw[Nat.zero_add,t.c2];rfl
 | 3,_=>rw[Nat.zero_add,t.c3];rfl
 | 4,_=>rw[Nat.zero_add,t.c4];rfl
 | 5,_=>rw[Nat.zero_add,t.c5];rfl
 | 6,_=>rw[Nat.zero_add,t.c6];rfl
theorem grown_setCell (w:World) (h i:Nat) (u:Value):w.grownBy (w.setCell ⟨h,i,none⟩ u) (some h):=⟨rfl,rfl,rfl,by simp[World.setCell],fun k hk hne=>by
 simp only[World.setCell,Array.getElem?_modify]
 rw[if_neg (fun e=>hne (by rw[←e]))]⟩
theorem grown_setCells (h:Nat):∀(vs:List Value) (o:Nat) (w:World),w.grownBy (w.setCells h o vs) (some h)
 | [],o,w=>⟨rfl,rfl,rfl,Nat.le_refl _,fun _ _ _=>rfl⟩
 | v::r,o,w=>by
  have h1:=grown_setCell w h o v
  have h2:=grown_setCells h r (o+1) (w.setCell ⟨h,o,none⟩ v)
  rw[World.setCells]
  exact⟨h2.os.trans h1.os,h2.tape.trans h1.tape,h2.output.trans h1.output,Nat.le_trans h1.size h2.size,fun k hk hne=>(h2.block k (Nat.lt_of_lt_of_le hk h1.size) hne).trans (h1.block k hk hne)⟩
theorem below_of_grown {base:Nat} {row:Option Nat} (hg:w.grownBy w' row) (hrow:∀k,row=some k→base≤k) (hb:base≤w.heap.size):Below base w w':=
 (Below.refl _ _).grown hg hb hrow
end
section
variable {P:Program}
theorem step_store {ops:Array Oper} {o:Oper} {a:Act} {K:Act→World→Prop} {Q:Exit→Act→World→Prop} {E:Prop} (W:World) (d:Option Tmp) (hd:o.dst=d) (hgd:o.guard=none) (ty:TypeId) (x y:Operand) (ho:o.op=.store ty x y)
  (b off:Nat) (cells:Array Value) (hx:a.eval x=.pointer (some ⟨b,off,none⟩)) (hy:a.eval y=.agg cells) (ht:W.there b off cells.size) (hi:(P.info? ty).map (·.size)=some cells.size) (h1:cells.all (·.oneCell')=true)
  (h:K (a.put d undef) (W.setCells b off cells.toList)):if Region.wanted o (yielded ops a.tmps)=true then Oper.wp P o a W K Q else E:=by
 subst hd
 have hw:Region.wanted o (yielded ops a.tmps)=true:=by simp[Region.wanted,hgd]
 rw[if_pos hw]
 exact wp_store_mid ty x y ho b off cells hx hy ht hi h1 h
end
end Go.Proofs.YtcpjmgfloimfhaaGreat
namespace Go.Proofs.YtcpjmgfloimfhaaGreat
open Go Go.RowKit
def waitsOn (md:Region.Mode) (ops:Array Oper) (z i:Nat):Bool:=
 match ops[z]? with
 | some o=>o.after.any fun e=>Region.binds md e&&e.on==i
 | none=>true
theorem waitsOn_spec {md:Region.Mode} {ops:Array Oper} {z i:Nat} (h:waitsOn md ops z i=true):∀oz,ops[z]?=some oz→∃e∈oz.after,Region.binds md e=true∧e.on=i:=by
 intro oz hoz
 unfold waitsOn at h
 rw[hoz] at h
 simp only[Array.any_eq_true,Bool.and_eq_true,beq_iff_eq] at h
 obtain⟨k,hk,h1,h2⟩:=h
 exact⟨oz.after[k],Array.getElem_mem hk,h1,h2⟩
section
variable {P:Program} {ops:Array Oper} {Q:Exit→Act→World→Prop} {md:Region.Mode} {z:Nat}
variable {R:World→World→Prop} [Way R]
def wpAnyL (R:World→World→Prop) (P:Program) (md:Region.Mode) (ops:Array Oper) (Q:Exit→Act→World→Prop) (z:Nat):Nat→Array Bool→Act→World→Prop
 | 0,listed,a,w=>Region.ready md ops listed=[]∧Q .normal a w
 | fuel+1,listed,a,w=>
  (Region.ready md ops listed=[]→Q .normal a w)∧
  ∀i∈Region.ready md ops listed,wpOp P ops Q i (fun a' w'=>(i≠z→R w w')∧wpAnyL R P md ops Q z fuel (listed.setIfInBounds i true) a' w') a w
omit [Way R] in
theorem wpAny_of_growL:∀(fuel:Nat) (listed:Array Bool) (a:Act) (w:World),wpAnyL R P md ops Q z fuel listed a w→wpAny P md ops Q fuel listed a w
 | 0,_,_,_,h=>h
 | fuel+1,_,_,_,h=>⟨h.1,fun i hi=>wpOp_mono (fun a' w' h'=>wpAny_of_growL fuel _ a' w' h'.2) (h.2 i hi)⟩
theorem grow_firstL {i:Nat} {oi:Oper} {v:Value} (hi:ops[i]?=some oi) (hsel:∀(j:Nat) (o:Oper) cs b,ops[j]?=some o→o.op≠.select cs b)
  (hQ:∀c a w,Q (.panic c) (a.put oi.dst v) w→Q (.panic c) a w) (hz:∀oz,ops[z]?=some oz→∃e∈oz.after,Region.binds md e=true∧e.on=i):
  ∀(fuel:Nat) (listed:Array Bool) (a:Act) (w:World),
   (∀j oj,ops[j]?=some oj→j≠i→listed.getD j true=false→(∀e∈oj.after,Region.binds md e=true→e.on≠i)→oi.apart ops oj=true)→
   i∈Region.ready md ops listed→YieldsIf P ops (R w) oi v a→
   wpAnyL R P md ops Q z fuel (listed.setIfInBounds i true) (a.put oi.dst v) w→wpAnyL R P md ops Q z (fuel+1) listed a w:=by
 intro fuel
 induction fuel with
 | zero=>
  intro listed a w _ hr hy H
  refine⟨fun h=>(by rw[h] at hr;cases hr),fun j hj=>?_⟩
  rcases Nat.decEq j i with hne | rfl
  ·have hm:=ready_mono hj hne
   rw[H.1] at hm
   cases hm
  ·exact hy.wpOp hi (Way.refl w) ⟨fun _=>Way.refl w,H⟩
 | succ fuel ih=>
  intro listed a w hfree hr hy H
  refine⟨fun h=>(by rw[h] at hr;cases hr),fun j hj=>?_⟩
  rcases Nat.decEq j i with hne | rfl
  ·obtain ⟨hun,oj,hoj,hwait⟩:=mem_ready.1 hj
   have hno:∀e∈oj.after,Region.binds md e=true→e.on≠i:=by
    intro e he hb hon
    have h1:=hwait e he hb
    have h0:=(mem_ready.1 hr).1
    rw[hon] at h1
    rcases Nat.lt_or_ge i listed.size with hlt | hge
    ·simp [hlt] at h0 h1
     rw[h0] at h1
     cases h1
    ·simp [Array.getElem?_eq_none hge] at h1
   have hjz:j≠z:=fun e=>by
    subst e
    obtain⟨e,he,hb,hon⟩:=hz oj hoj
    exact hno e he hb hon
   have hstep:=wpOp_putIf hoj (hfree j oj hoj hne hun hno) (fun cs b=>hsel i oi cs b hi) (fun cs b=>hsel j oj cs b hoj) hQ hy (H.2 j (ready_mono hj hne))
   refine wpOp_mono (fun a' w' hh=>⟨hh.2.1,ih (listed.setIfInBounds j true) a' w' ?_ (ready_mono hr (Ne.symm hne)) (yields_later (hh.2.1 hjz) hh.1) ?_⟩) hstep
   ·intro k ok hk hki hkun hkno
    refine hfree k ok hk hki ?_ hkno
    rcases Nat.decEq j k with hjk | rfl
    ·rwa [getD_set_ne true hjk] at hkun
    ·exact hun
   ·rw [Array.setIfInBounds_comm _ _ hne]
    exact hh.2.2
  ·exact hy.wpOp hi (Way.refl w) ⟨fun _=>Way.refl w,H⟩
theorem grow_takeL (i:Nat) (d:Option Tmp) {oi:Oper} {v:Value} {fuel:Nat} {listed:Array Bool} {a:Act} {w:World} (hi:ops[i]?=some oi) (hd:oi.dst=d)
  (hs:Region.noSelect ops=true) (hf:Region.free md ops listed i=true) (hr:(Region.ready md ops listed).contains i=true)
  (hQ:∀c a w,Q (.panic c) (a.put d v) w→Q (.panic c) a w) (hz:waitsOn md ops z i=true) (hw:Region.wanted oi (yielded ops a.tmps)=true) (hy:∀W,R w W→(execOp a.eval oi).run P W=.ok (.value v) W)
  (h:wpAnyL R P md ops Q z fuel (listed.setIfInBounds i true) (a.put d v) w):wpAnyL R P md ops Q z (fuel+1) listed a w:=by
 subst hd
 exact grow_firstL hi (Region.noSelect_spec hs) hQ (waitsOn_spec hz) fuel listed a w (Region.free_spec hi hf) (by simpa using hr) (.inl ⟨hw,hy⟩) h
omit [Way R] in
theorem grow_onlyL (i:Nat) {oi:Oper} {fuel:Nat} {listed:Array Bool} {a:Act} {w:World} (hi:ops[i]?=some oi) (hr:Region.ready md ops listed=[i])
  (h:∀K':Act→World→Prop,Shut (∀a' w',(i≠z→R w w')→wpAnyL R P md ops Q z fuel (listed.setIfInBounds i true) a' w'→K' a' w')→if Region.wanted oi (yielded ops a.tmps)=true then Oper.wp P oi a w K' Q else K' (a.put oi.dst undef) w):
  wpAnyL R P md ops Q z (fuel+1) listed a w:=by
 refine⟨fun h0=>(by rw[hr] at h0;cases h0),fun j hj=>?_⟩
 rw[hr] at hj
 obtain rfl:j=i:=by simpa using hj
 exact wpOp_step hi (fun K' hK=>h K' (fun a' w' hb hg=>hK a' w' ⟨hb,hg⟩))
omit [Way R] in
theorem grow_doneL {listed:Array Bool} {a:Act} {w:World} (hr:Region.ready md ops listed=[]) (h:Q .normal a w):
  ∀fuel,wpAnyL R P md ops Q z fuel listed a w
 | 0=>⟨hr,h⟩
 | _+1=>⟨fun _=>h,by rw[hr];simp⟩
theorem grow_begin_atL (B z:Nat) {id:Nat} {a:Act} {w:World} (hm:P.follows .mixedOrders=true)
  (h:wpAnyL (upAt B) P .any ops Q z ops.size (Array.replicate ops.size false) a w.drew):(Code.region id ops true).wp P Q a w:=
 wp_region_any hm (wpAny_of_growL _ _ _ _ h)
end
end Go.Proofs.YtcpjmgfloimfhaaGreat
namespace Go.Proofs.YtcpjmgfloimfhaaGreat
open Go Go.RowKit
def waitZ (md:Region.Mode) (ops:Array Oper) (Z:List Nat) (listed:Array Bool) (i:Nat):Bool:=Z.all fun z=>listed.getD z false||waitsOn md ops z i
section
variable {P:Program} {ops:Array Oper} {Q:Exit→Act→World→Prop} {md:Region.Mode} {Z:List Nat}
variable {R:World→World→Prop} [Way R]
def wpAnyZ (R:World→World→Prop) (P:Program) (md:Region.Mode) (ops:Array Oper) (Q:Exit→Act→World→Prop) (Z:List Nat):Nat→Array Bool→Act→World→Prop
 | 0,listed,a,w=>Region.ready md ops listed=[]∧Q .normal a w
 | fuel+1,listed,a,w=>
  (Region.ready md ops listed=[]→Q .normal a w)∧
  ∀i∈Region.ready md ops listed,wpOp P ops Q i (fun a' w'=>(i ∉ Z→R w w')∧wpAnyZ R P md ops Q Z fuel (listed.setIfInBounds i true) a' w') a w
omit [Way R] in
theorem wpAny_of_growZ:∀(fuel:Nat) (listed:Array Bool) (a:Act) (w:World),wpAnyZ R P md ops Q Z fuel listed a w→wpAny P md ops Q fuel listed a w
 | 0,_,_,_,h=>h
 | fuel+1,_,_,_,h=>⟨h.1,fun i hi=>wpOp_mono (fun a' w' h'=>wpAny_of_growZ fuel _ a' w' h'.2) (h.2 i hi)⟩
theorem grow_firstZ {S:World→World→Prop} (hS0:∀w,S w w) {i:Nat} {oi:Oper} {v:Value} (hi:ops[i]?=some oi) (hsel:∀(j:Nat) (o:Oper) cs b,ops[j]?=some o→o.op≠.select cs b)
  (hQ:∀c a w,Q (.panic c) (a.put oi.dst v) w→Q (.panic c) a w):
  ∀(fuel:Nat) (listed:Array Bool) (a:Act) (w:World),
   ((∀w w' W,S w' W→S w W)∨((∀w w' W,R w w'→S w' W→S w W)∧waitZ md ops Z listed i=true))→
   (∀j oj,ops[j]?=some oj→j≠i→listed.getD j true=false→(∀e∈oj.after,Region.binds md e=true→e.on≠i)→oi.apart ops oj=true)→
   i∈Region.ready md ops listed→YieldsIf P ops (S w) oi v a→
   wpAnyZ R P md ops Q Z fuel (listed.setIfInBounds i true) (a.put oi.dst v) w→wpAnyZ R P md ops Q Z (fuel+1) listed a w:=by
 intro fuel
 induction fuel with
 | zero=>
  intro listed a w _ _ hr hy H
  refine⟨fun h=>(by rw[h] at hr;cases hr),fun j hj=>?_⟩
  rcases Nat.decEq j i with hne | rfl
  ·have hm:=ready_mono hj hne
   rw[H.1] at hm
   cases hm
  ·exact hy.wpOp hi (hS0 w) ⟨fun _=>Way.refl w,H⟩
 | succ fuel ih=>
  intro listed a w hS hfree hr hy H
  refine⟨fun h=>(by rw[h] at hr;cases hr),fun j hj=>?_⟩
  rcases Nat.decEq j i with hne | rfl
  ·obtain ⟨hun,oj,hoj,hwait⟩:=mem_ready.1 hj
   have hno:∀e∈oj.after,Region.binds md e=true→e.on≠i:=by
    intro e he hb hon
    have h1:=hwait e he hb
    have h0:=(mem_ready.1 hr).1
    rw[hon] at h1
    rcases Nat.lt_or_ge i listed.size with hlt | hge
    ·simp [hlt] at h0 h1
     rw[h0] at h1
     cases h1
    ·simp [Array.getElem?_eq_none hge] at h1
   have hjl:listed.getD j false=false:=by
    rcases Nat.lt_or_ge j listed.size with hlt | hge
    ·simp [hlt] at hun ⊢;exact hun
    ·simp [Array.getElem?_eq_none hge]
   have hstep:=wpOp_putIf hoj (hfree j oj hoj hne hun hno) (fun cs b=>hsel i oi cs b hi) (fun cs b=>hsel j oj cs b hoj) hQ hy (H.2 j (ready_mono hj hne))
   refine wpOp_mono (fun a' w' hh=>⟨hh.2.1,ih (listed.setIfInBounds j true) a' w' ?_ ?_ (ready_mono hr (Ne.symm hne)) ?_ ?_⟩) hstep
   ·rcases hS with hS | ⟨hS,hw⟩
    ·exact .inl hS
    ·refine .inr ⟨hS,?_⟩
     unfold waitZ at hw ⊢
     rw[List.all_eq_true] at hw ⊢
     intro z hz
     have:=hw z hz
     simp only[Bool.or_eq_true] at this ⊢
     rcases this with h | h
     ·left
      rcases Nat.decEq j z with hjz | rfl
      ·simp only[Array.getD_eq_getD_getElem?,Array.getElem?_setIfInBounds] at h ⊢
       rw[if_neg hjz];exact h
      ·rw [h] at hjl;cases hjl
     ·exact .inr h
   ·intro k ok hk hki hkun hkno
    refine hfree k ok hk hki ?_ hkno
    rcases Nat.decEq j k with hjk | rfl
    ·rwa [getD_set_ne true hjk] at hkun
    ·exact hun
   ·refine hh.1.imp (fun ⟨x,y⟩=>⟨x,fun W hW=>y W ?_⟩) id
    rcases hS with hS | ⟨hS,hw⟩
    ·exact hS _ _ _ hW
    ·refine hS _ _ _ (hh.2.1 fun hz=>?_) hW
     unfold waitZ at hw
     rw[List.all_eq_true] at hw
     have:=hw j hz
     rw[hjl,Bool.false_or] at this
     obtain⟨e,he,hb,hon⟩:=waitsOn_spec this oj hoj
     exact hno e he hb hon
   ·rw [Array.setIfInBounds_comm _ _ hne]
    exact hh.2.2
  ·exact hy.wpOp hi (hS0 w) ⟨fun _=>Way.refl w,H⟩
theorem grow_takeZ (i:Nat) (d:Option Tmp) {oi:Oper} {v:Value} {fuel:Nat} {listed:Array Bool} {a:Act} {w:World} (hi:ops[i]?=some oi) (hd:oi.dst=d)
  (hs:Region.noSelect ops=true) (hf:Region.free md ops listed i=true) (hr:(Region.ready md ops listed).contains i=true)
  (hQ:∀c a w,Q (.panic c) (a.put d v) w→Q (.panic c) a w) (hz:waitZ md ops Z listed i=true) (hw:Region.wanted oi (yielded ops a.tmps)=true) (hy:∀W,R w W→(execOp a.eval oi).run P W=.ok (.value v) W)
  (h:wpAnyZ R P md ops Q Z fuel (listed.setIfInBounds i true) (a.put d v) w):wpAnyZ R P md ops Q Z (fuel+1) listed a w:=by
 subst hd
 exact grow_firstZ (S:=R) Way.refl hi (Region.noSelect_spec hs) hQ fuel listed a w (.inr ⟨fun _ _ _ h k=>Way.trans h k,hz⟩) (Region.free_spec hi hf) (by simpa using hr) (.inl ⟨hw,hy⟩) h
theorem grow_takeP (i:Nat) (d:Option Tmp) {oi:Oper} {v:Value} {fuel:Nat} {listed:Array Bool} {a:Act} {w:World} (hi:ops[i]?=some oi) (hd:oi.dst=d)
  (hs:Region.noSelect ops=true) (hf:Region.free md ops listed i=true) (hr:(Region.ready md ops listed).contains i=true)
  (hQ:∀c a w,Q (.panic c) (a.put d v) w→Q (.panic c) a w) (hw:Region.wanted oi (yielded ops a.tmps)=true) (hy:∀W,(execOp a.eval oi).run P W=.ok (.value v) W)
  (h:wpAnyZ R P md ops Q Z fuel (listed.setIfInBounds i true) (a.put d v) w):wpAnyZ R P md ops Q Z (fuel+1) listed a w:=by
 subst hd
 exact grow_firstZ (S:=fun _ _=>True) (fun _=>trivial) hi (Region.noSelect_spec hs) hQ fuel listed a w (.inl fun _ _ _ _=>trivial) (Region.free_spec hi hf) (by simpa using hr) (.inl ⟨hw,fun W _=>hy W⟩) h
omit [Way R] in
theorem grow_onlyZ (i:Nat) {oi:Oper} {fuel:Nat} {listed:Array Bool} {a:Act} {w:World} (hi:ops[i]?=some oi) (hr:Region.ready md ops listed=[i])
  (h:∀K':Act→World→Prop,Shut (∀a' w',(i ∉ Z→R w w')→wpAnyZ R P md ops Q Z fuel (listed.setIfInBounds i true) a' w'→K' a' w')→if Region.wanted oi (yielded ops a.tmps)=true then Oper.wp P oi a w K' Q else K' (a.put oi.dst undef) w):
  wpAnyZ R P md ops Q Z (fuel+1) listed a w:=by
 refine⟨fun h0=>(by rw[hr] at h0;cases h0),fun j hj=>?_⟩
 rw[hr] at hj
 obtain rfl:j=i:=by simpa using hj
 exact wpOp_step hi (fun K' hK=>h K' (fun a' w' hb hg=>hK a' w' ⟨hb,hg⟩))
omit [Way R] in
theorem grow_doneZ {listed:Array Bool} {a:Act} {w:World} (hr:Region.ready md ops listed=[]) (h:Q .normal a w):
  ∀fuel,wpAnyZ R P md ops Q Z fuel listed a w
 | 0=>⟨hr,h⟩
 | _+1=>⟨fun _=>h,by rw[hr];simp⟩
def AllZ (R:World→World→Prop) (P:Program) (md:Region.Mode) (ops:Array Oper) (Q:Exit→Act→World→Prop) (Z:List Nat) (fuel:Nat) (listed:Array Bool) (a:Act) (w:World) (rs:List Nat):Prop:=
 ∀i∈rs,wpOp P ops Q i (fun a' w'=>(i ∉ Z→R w w')∧wpAnyZ R P md ops Q Z fuel (listed.setIfInBounds i true) a' w') a w
omit [Way R] in
theorem AllZ.nil {fuel:Nat} {listed:Array Bool} {a:Act} {w:World}:AllZ R P md ops Q Z fuel listed a w []:=fun _ h=>by cases h
omit [Way R] in
theorem AllZ.cons {fuel:Nat} {listed:Array Bool} {a:Act} {w:World} {i:Nat} {oi:Oper} {rs:List Nat} (hi:ops[i]?=some oi)
  (h:∀K':Act→World→Prop,Shut (∀a' w',(i ∉ Z→R w w')→wpAnyZ R P md ops Q Z fuel (listed.setIfInBounds i true) a' w'→K' a' w')→if Region.wanted oi (yielded ops a.tmps)=true then Oper.wp P oi a w K' Q else K' (a.put oi.dst undef) w)
  (hs:AllZ R P md ops Q Z fuel listed a w rs):AllZ R P md ops Q Z fuel listed a w (i::rs):=fun j hj=>by
 rcases List.mem_cons.1 hj with rfl | hj
 ·exact wpOp_step hi (fun K' hK=>h K' (fun a' w' hb hg=>hK a' w' ⟨hb,hg⟩))
 ·exact hs j hj
omit [Way R] in
theorem grow_eachZ (rs:List Nat) {fuel:Nat} {listed:Array Bool} {a:Act} {w:World} (hr:Region.ready md ops listed=rs) (hne:rs≠[]) (h:AllZ R P md ops Q Z fuel listed a w rs):
  wpAnyZ R P md ops Q Z (fuel+1) listed a w:=by
 refine⟨fun h0=>absurd (hr ▸ h0) hne,fun j hj=>?_⟩
 rw[hr] at hj
 exact h j hj
theorem grow_beginZ (R:World→World→Prop) [Way R] (Z:List Nat) {id:Nat} {a:Act} {w:World} (hm:P.follows .mixedOrders=true)
  (h:wpAnyZ R P .any ops Q Z ops.size (Array.replicate ops.size false) a w.drew):(Code.region id ops true).wp P Q a w:=
 wp_region_any hm (wpAny_of_growZ _ _ _ _ h)
end
end Go.Proofs.YtcpjmgfloimfhaaGreat
namespace Go.Proofs.YtcpjmgfloimfhaaGreat
open Go.RowKit
set_option linter.unusedVariables false
structure Fr (X:Nat→Prop) (w w':World):Prop where
 os:w'.os=w.os
 tape:w'.tape=w.tape
 output:w'.output=w.output
 size:w.heap.size≤w'.heap.size
 same:∀k,k<w.heap.size→¬X k→w'.heap[k]?=w.heap[k]?
section
variable {X Y:Nat→Prop} {w w' w1:World}
theorem Fr.refl (X:Nat→Prop) (w:World):Fr X w w:=⟨rfl,rfl,rfl,Nat.le_refl _,fun _ _ _=>rfl⟩
theorem Fr.trans (h:Fr X w w1) (k:Fr X w1 w'):Fr X w w':=
 ⟨k.os.trans h.os,k.tape.trans h.tape,k.output.trans h.output,Nat.le_trans h.size k.size,fun i hi hx=>(k.same i (Nat.lt_of_lt_of_le hi h.size) hx).trans (h.same i hi hx)⟩
theorem Fr.mono (h:Fr X w w') (hx:∀k,k<w.heap.size→X k→Y k):Fr Y w w':=⟨h.os,h.tape,h.output,h.size,fun i hi hy=>h.same i hi fun q=>hy (hx i hi q)⟩
theorem Fr.trans' (h:Fr X w w1) (k:Fr Y w1 w') (hx:∀i,i<w.heap.size→Y i→X i):Fr X w w':=
 ⟨k.os.trans h.os,k.tape.trans h.tape,k.output.trans h.output,Nat.le_trans h.size k.size,fun i hi hn=>(k.same i (Nat.lt_of_lt_of_le hi h.size) (fun q=>hn (hx i hi q))).trans (h.same i hi hn)⟩
theorem Fr.of (h:Below w.heap.size w w'):Fr X w w':=⟨h.os,h.tape,h.output,h.size,fun i hi _=>h.block i hi⟩
theorem Fr.below {B:Nat} (h:Fr X w w') (hB:B≤w.heap.size) (hx:∀k,X k→B≤k):Below B w w':=
 ⟨h.os,h.tape,h.output,h.size,fun i hi=>h.same i (by omega) fun q=>by have:=hx i q;omega⟩
theorem Fr.setCell (w:World) (p:Addr) (u:Value) (hp:X p.block):Fr X w (w.setCell p u):=
 ⟨rfl,rfl,rfl,by simp[World.setCell],fun i _ hx=>Below.heap_setCell w p u i (fun e=>hx (e ▸ hp))⟩
theorem Fr.alloc (X:Nat→Prop) (w:World) (o:Obj):Fr X w (w.alloc o):=Fr.of ((Below.refl _ w).alloc (Nat.le_refl _) o)
theorem Fr.drew (X:Nat→Prop) (w:World):Fr X w w.drew:=Fr.of (Below.refl _ w).drew
theorem Fr.cell (h:Fr X w w') {p:Addr} (hp:p.block<w.heap.size) (hx:¬X p.block):w'.cell? p=w.cell? p:=World.cell?_of_block (w:=w) (h.same p.block hp hx)
theorem Fr.frozen (h:Fr X w w') {p:Addr} (hp:p.block<w.heap.size) (hx:¬X p.block):w'.frozen? p=w.frozen? p:=World.frozen?_of_block (w:=w) (h.same p.block hp hx)
theorem Fr.grown {row:Option Nat} (hg:w.grownBy w' row) (hr:∀k,row=some k→X k):Fr X w w':=
 ⟨hg.os,hg.tape,hg.output,hg.size,fun i hi hx=>hg.block i hi fun e=>hx (hr i e.symm)⟩
theorem HasP.fr {P P':Nat→Prop} {size n:Nat} {A:Option Addr} {xs:List Value} (h:HasP w P size A n xs) (hf:Fr X w w') (hP:∀b,P b→b<w.heap.size∧¬X b∧P' b):HasP w' P' size A n xs:=
 h.move (fun p hp=>hf.cell (hP _ hp).1 (hP _ hp).2.1) fun b hb=>(hP b hb).2.2
theorem HasP.lies {P:Nat→Prop} {size n:Nat} {A:Option Addr} {xs:List Value} (h:HasP w P size A n xs) (hn:0<xs.length):∃g o,A=some ⟨g,o,none⟩∧P g∧∀j u,xs[j]?=some u→w.cell? ⟨g,o+j,none⟩=some u:=by
 rcases h.2 with rfl | ⟨ad,rfl,hb,hc⟩
 ·simp at hn
 ·obtain ⟨g,o,sp⟩:=ad
  have h0:=hc 0 _ (List.getElem?_eq_getElem hn)
  have hsp:sp=none:=by simpa[Addr.add] using World.cell?_spot h0
  subst hsp
  refine⟨g,o,rfl,hb,fun j u hu=>?_⟩
  have:=hc j u hu
  rwa [show (⟨g,o,none⟩:Addr).add j=⟨g,o+j,none⟩ by unfold Addr.add;split<;>simp_all] at this
theorem HasP.tail {P:Nat→Prop} {n g o:Nat} {x:Value} {xs:List Value} (h:HasP w P 1 (some ⟨g,o,none⟩) (n+1) (x::xs)):HasP w P 1 (some ⟨g,o+1,none⟩) n xs:=by
 have h1:=h.1
 refine⟨by simpa using h1,?_⟩
 rcases h.2 with h0 | ⟨ad,e,hb,hc⟩
 ·cases h0
 ·cases e
  refine .inr ⟨_,rfl,hb,fun j u hu=>?_⟩
  have:=hc (j+1) u (by simpa using hu)
  have e:(⟨g,o,none⟩:Addr).add (j+1)=(⟨g,o+1,none⟩:Addr).add j:=by
   unfold Addr.add
   split<;>split<;>simp_all<;>omega
  rwa [e] at this
theorem HasP.none {P:Nat→Prop} {size:Nat} (w:World):HasP w P size none 0 []:=⟨by simp,.inl rfl⟩
end
structure RdS (w:World) (lo g b:Nat) (F:List Fd) (φ:Bool):Prop where
 lt:g<w.heap.size
 log:lo≤g
 blo:b<lo
 mem:∃A c A' c' xs,w.cell? ⟨g,0,none⟩=some (.slice A F.length c)∧w.cell? ⟨g,1,none⟩=some (.slice A' F.length c')∧(F.length≤c∧c≤maxLen∧F.length≤c'∧c'≤maxLen)∧
  HasP w (fun k=>lo≤k∧k<g) 1 A F.length (bys (F.map Prod.fst))∧HasP w (fun k=>lo≤k∧k<g) 1 A' F.length xs∧
  ∀(i:Nat) (f:Fd),F[i]?=some f→∃B d,xs[i]?=some (Value.slice B f.2.length d)∧f.2.length≤d∧d≤maxLen∧HasP w (fun k=>lo≤k∧k<g) 1 B f.2.length (bys f.2)
 c2:w.cell? ⟨g,2,none⟩=some (.pointer (some ⟨b,0,none⟩))
 fz:∀i,w.frozen? ⟨g,i,none⟩=false
 fc:w.cell? ⟨b,0,none⟩=some (.bool φ)
 fzb:∀i,w.frozen? ⟨b,i,none⟩=false
 small:F.length≤16384∧∀f∈F,f.2.length≤16384
section
variable {w w':World} {lo g b:Nat} {F:List Fd} {φ:Bool} {X:Nat→Prop}
theorem RdS.fr (h:RdS w lo g b F φ) (hf:Fr X w w') (hg:¬X g) (hb:¬X b) (hI:∀k,lo≤k→k<g→¬X k):RdS w' lo g b F φ:=by
 have hlt:=h.lt
 have hlog:=h.log
 have hblo:=h.blo
 refine⟨Nat.lt_of_lt_of_le h.lt hf.size,h.log,h.blo,?_,(hf.cell h.lt hg).trans h.c2,fun i=>(hf.frozen h.lt hg).trans (h.fz i),(hf.cell (by simp only;omega) hb).trans h.fc,fun i=>(hf.frozen (by simp only;omega) hb).trans (h.fzb i),h.small⟩
 obtain⟨A,c,A',c',xs,h1,h2,h3,h4,h5,h6⟩:=h.mem
 have key:∀k,(lo≤k∧k<g)→k<w.heap.size∧¬X k∧(lo≤k∧k<g):=fun k hk=>⟨by omega,hI k hk.1 hk.2,hk⟩
 refine⟨A,c,A',c',xs,(hf.cell h.lt hg).trans h1,(hf.cell h.lt hg).trans h2,h3,h4.fr hf key,h5.fr hf key,fun i f hi=>?_⟩
 obtain⟨B,d,q1,q2,q3,q4⟩:=h6 i f hi
 exact⟨B,d,q1,q2,q3,q4.fr hf key⟩
def own2 (g b:Nat):Nat→Prop:=fun k=>k=g∨k=b
theorem RdS.failed (h:RdS w lo g b F φ):RdS (w.setCell ⟨b,0,none⟩ (.bool true)) lo g b F true:=by
 have hlog:=h.log
 have hblo:=h.blo
 have hf:Fr (fun k=>k=b) w (w.setCell ⟨b,0,none⟩ (.bool true)):=Fr.setCell w _ _ rfl
 have h1:=h.lt
 have kb:∀k,k<w.heap.size→k≠b→(w.setCell ⟨b,0,none⟩ (.bool true)).heap[k]?=w.heap[k]?:=fun k hk hn=>hf.same k hk hn
 obtain⟨A,c,A',c',xs,q1,q2,q3,q4,q5,q6⟩:=h.mem
 have key:∀k,(lo≤k∧k<g)→k<w.heap.size∧¬(k=b)∧(lo≤k∧k<g):=fun k hk=>⟨by omega,by omega,hk⟩
 have hgb:¬(g=b):=by omega
 refine⟨Nat.lt_of_lt_of_le h.lt hf.size,h.log,h.blo,⟨A,c,A',c',xs,(hf.cell h.lt hgb).trans q1,(hf.cell h.lt hgb).trans q2,q3,q4.fr hf key,q5.fr hf key,fun i f hi=>?_⟩,(hf.cell h.lt hgb).trans h.c2,fun i=>(hf.frozen h.lt hgb).trans (h.fz i),
  World.cell?_setCell_same _ _ _ h.fc,fun i=>by rw[World.frozen?_setCell];exact h.fzb i,h.small⟩
 obtain⟨B,d,p1,p2,p3,p4⟩:=q6 i f hi
 exact⟨B,d,p1,p2,p3,p4.fr hf key⟩
theorem RdS.step {f:Fd} {gt ot ct gc oc cc:Nat} {A1 A2:Option Addr} (hA1:F=[]∨A1=some ⟨gt,ot+1,none⟩) (hA2:F=[]∨A2=some ⟨gc,oc+1,none⟩) (h:RdS w lo g b (f::F) φ) (e0:w.cell? ⟨g,0,none⟩=some (.slice (some ⟨gt,ot,none⟩) (F.length+1) ct)) (e1:w.cell? ⟨g,1,none⟩=some (.slice (some ⟨gc,oc,none⟩) (F.length+1) cc)):
  RdS ((w.setCell ⟨g,0,none⟩ (.slice A1 F.length (ct-1))).setCell ⟨g,1,none⟩ (.slice A2 F.length (cc-1))) lo g b F φ:=by
 have hlog:=h.log
 have hblo:=h.blo
 have h1:=h.lt
 obtain⟨A,c,A',c',xs,q1,q2,q3,q4,q5,q6⟩:=h.mem
 rw[e0] at q1
 rw[e1] at q2
 simp only[Option.some.injEq,Value.slice.injEq,List.length_cons] at q1 q2
 obtain⟨rfl,_,rfl⟩:=q1
 obtain⟨rfl,_,rfl⟩:=q2
 have hf1:Fr (fun k=>k=g) w (w.setCell ⟨g,0,none⟩ (.slice A1 F.length (ct-1))):=Fr.setCell w _ _ rfl
 have hf2:Fr (fun k=>k=g) (w.setCell ⟨g,0,none⟩ (.slice A1 F.length (ct-1))) ((w.setCell ⟨g,0,none⟩ (.slice A1 F.length (ct-1))).setCell ⟨g,1,none⟩ (.slice A2 F.length (cc-1))):=Fr.setCell _ _ _ rfl
 have hf:=hf1.trans hf2
 have key:∀k,(lo≤k∧k<g)→k<w.heap.size∧¬(k=g)∧(lo≤k∧k<g):=fun k hk=>⟨by omega,by omega,hk⟩
 have hbg:¬(b=g):=by omega
 have hbs:b<w.heap.size:=by omega
 simp only[List.length_cons] at q3 q4 q5
 obtain⟨r1,r2,r3,r4⟩:=q3
 obtain⟨x,ys,rfl⟩:∃x ys,xs=x::ys:=by
  cases xs with
  | nil=>have:=q5.1;simp at this
  | cons x ys=>exact⟨x,ys,rfl⟩
 have t4:=HasP.tail (x:=c8 f.1) (xs:=bys (F.map Prod.fst)) (by simpa[bys] using q4)
 have t5:=HasP.tail q5
 have t4:HasP w (fun k=>lo≤k∧k<g) 1 A1 F.length (bys (F.map Prod.fst)):=by
  rcases hA1 with rfl | rfl
  ·exact ⟨rfl,.inl rfl⟩
  ·exact t4
 have t5:HasP w (fun k=>lo≤k∧k<g) 1 A2 F.length ys:=by
  rcases hA2 with rfl | rfl
  ·have:=t5.1
   exact⟨this,.inl (List.eq_nil_of_length_eq_zero (by simpa using this))⟩
  ·exact t5
 refine⟨Nat.lt_of_lt_of_le h.lt hf.size,h.log,h.blo,⟨_,ct-1,_,cc-1,ys,?_,?_,⟨by omega,by omega,by omega,by omega⟩,t4.fr hf key,t5.fr hf key,fun i f' hi=>?_⟩,?_,fun i=>by rw[World.frozen?_setCell,World.frozen?_setCell];exact h.fz i,
  (hf.cell (p:=⟨b,0,none⟩) hbs hbg).trans h.fc,fun i=>by rw[World.frozen?_setCell,World.frozen?_setCell];exact h.fzb i,⟨by have:=h.small.1;simp at this;omega,fun f' hf'=>h.small.2 f' (List.mem_cons_of_mem _ hf')⟩⟩
 ·rw [World.cell?_setCell_other _ _ _ _ (by simp)]
  exact World.cell?_setCell_same _ _ _ e0
 ·refine World.cell?_setCell_same _ _ _ (u:=.slice (some ⟨gc,oc,none⟩) (F.length+1) cc) ?_
  rw[World.cell?_setCell_other _ _ _ _ (by simp)]
  exact e1
 ·obtain ⟨B,d,p1,p2,p3,p4⟩:=q6 (i+1) f' (by simpa using hi)
  exact⟨B,d,by simpa using p1,p2,p3,p4.fr hf key⟩
 ·rw [World.cell?_setCell_other _ _ _ _ (by simp),World.cell?_setCell_other _ _ _ _ (by simp)]
  exact h.c2
theorem RdS.back (h:RdS w lo g b F φ):b<w.heap.size:=by have:=h.lt;have:=h.log;have:=h.blo;omega
end
structure RdPost {α:Type} (rep:World→(Nat→Prop)→α→Value→Prop) (p:Rdr α) (w:World) (X:Nat→Prop) (lo g b:Nat) (F:List Fd) (φ:Bool) (e:Ending) (w':World):Prop where
 out:∃x v F',e=.returned v∧rep w' (fun k=>w.heap.size≤k∧k<w'.heap.size) x v∧RdS w' lo g b F' (φ||(p F).isNone)∧Fr X w w'∧(φ=false→∀x0 F0,p F=some (x0,F0)→x=x0∧F'=F0)
def repT:World→(Nat→Prop)→List UInt8→Value→Prop:=fun _ _ x v=>v=.string (txt x)
def repI:World→(Nat→Prop)→Int→Value→Prop:=fun _ _ x v=>v=.int .i64 x
def repB:World→(Nat→Prop)→Bool→Value→Prop:=fun _ _ x v=>v=.bool x
end Go.Proofs.YtcpjmgfloimfhaaGreat
namespace Go.Proofs.YtcpjmgfloimfhaaGreat
open Go.RowKit
set_option linter.unusedVariables false
theorem fail_b (w:World) (lo g b:Nat) (F:List Fd) (φ:Bool) (h:RdS w lo g b F φ):
  Calls Tryz.prog 78 #[.pointer (some ⟨g,0,none⟩)] w fun e w'=>e=.returned (.tuple #[])∧RdS w' lo g b F true∧Fr (fun k=>k=b) w w':=by
 have HR:=hide h.failed
 have c2:=h.c2
 have fc:=h.fc
 have fz:=h.fzb
 clear h
 go_enter Tryz.func78,Tryz.ntmps78
 go_wp2
 go_returns
 exact⟨rfl,HR.out,Fr.setCell _ _ _ rfl⟩
theorem fail_any (w:World) (lo g b:Nat) (F:List Fd) (φ:Bool) (h:RdS w lo g b F φ):
  Calls Tryz.prog 78 #[.pointer (some ⟨g,0,none⟩)] w fun e w'=>e=.returned (.tuple #[])∧RdS w' lo g b F true∧Fr (own2 g b) w w':=
 (fail_b w lo g b F φ h).mono fun e w' q=>⟨q.1,q.2.1,q.2.2.mono fun _ _ r=>.inr r⟩
theorem RdS.c0 {w:World} {lo g b:Nat} {F:List Fd} {φ:Bool} (h:RdS w lo g b F φ):∃A c,w.cell? ⟨g,0,none⟩=some (.slice A F.length c):=by
 obtain⟨A,c,A',c',xs,q1,_⟩:=h.mem
 exact⟨A,c,q1⟩
def moreB (F:List Fd) (φ:Bool):Bool:= !φ&& !F.isEmpty
theorem more_any (w:World) (lo g b:Nat) (F:List Fd) (φ:Bool) (h:RdS w lo g b F φ):
  Calls Tryz.prog 79 #[.pointer (some ⟨g,0,none⟩)] w fun e w'=>e=.returned (.bool (moreB F φ))∧w'=w:=by
 have c2:=h.c2
 have fc:=h.fc
 obtain⟨A,c,c0⟩:=h.c0
 cases φ with
 | true=>
  clear h c0
  go_enter Tryz.func79,Tryz.ntmps79
  go_wp2
  go_ret
  exact⟨rfl,rfl⟩
 | false=>
  cases F with
  | nil=>
   clear h
   go_enter Tryz.func79,Tryz.ntmps79
   go_wp2
   go_ret
   exact⟨rfl,rfl⟩
  | cons x F=>
   rw[List.length_cons] at c0
   obtain⟨n,hn⟩:∃n,F.length+1=n:=⟨_,rfl⟩
   rw[hn] at c0
   have z:(0:Int)<(n:Int):=by omega
   have z0:0<n:=by omega
   clear h hn
   go_enter Tryz.func79,Tryz.ntmps79
   go_wp2
   go_ret
   exact⟨by simp[moreB,z0],rfl⟩
theorem RdS.hd {w:World} {lo g b:Nat} {f:Fd} {F:List Fd} {φ:Bool} (h:RdS w lo g b (f::F) φ):∃gt ot ct gc oc cc B d,w.cell? ⟨g,0,none⟩=some (.slice (some ⟨gt,ot,none⟩) (F.length+1) ct)∧w.cell? ⟨g,1,none⟩=some (.slice (some ⟨gc,oc,none⟩) (F.length+1) cc)∧
  w.cell? ⟨gt,ot,none⟩=some (c8 f.1)∧w.cell? ⟨gc,oc,none⟩=some (.slice B f.2.length d)∧(F.length+1≤ct∧ct≤maxLen∧F.length+1≤cc∧cc≤maxLen)∧(f.2.length≤d∧d≤maxLen)∧HasP w (fun k=>lo≤k∧k<g) 1 B f.2.length (bys f.2):=by
 obtain⟨A,c,A',c',xs,q1,q2,q3,q4,q5,q6⟩:=h.mem
 obtain⟨B,d,p1,p2,p3,p4⟩:=q6 0 f rfl
 obtain⟨gt,ot,rfl,_,k1⟩:=q4.lies (by simp[bys])
 obtain⟨gc,oc,rfl,_,k2⟩:=q5.lies (by rw[q5.1];simp)
 exact⟨gt,ot,c,gc,oc,c',B,d,q1,q2,k1 0 _ (by simp[bys]),k2 0 _ p1,by simpa using q3,⟨p2,p3⟩,p4⟩
theorem next_any (w:World) (lo g b:Nat) (F:List Fd) (φ:Bool) (t:UInt8) (h:RdS w lo g b F φ):
  Calls Tryz.prog 126 #[.pointer (some ⟨g,0,none⟩),c8 t] w fun e w'=>e=.returned (.bool (!φ&&Rd.nextIs t F))∧w'=w:=by
 have hM:=more_any w lo g b F φ h
 have hc8:∀x:UInt8,c8 x=.int .u8 (x.toNat:Int):=fun _=>rfl
 cases φ with
 | true=>
  rw[show moreB F true=false from rfl] at hM
  clear h
  go_enter Tryz.func126,Tryz.ntmps126
  go_wp2_with (go_at_call 79;fail)
  refine hM.mono ?_
  rintro e w1 ⟨rfl,rfl⟩
  go_wp2
  go_ret
  exact⟨rfl,rfl⟩
 | false=>
  cases F with
  | nil=>
   rw[show moreB [] false=false from rfl] at hM
   clear h
   go_enter Tryz.func126,Tryz.ntmps126
   go_wp2_with (go_at_call 79;fail)
   refine hM.mono ?_
   rintro e w1 ⟨rfl,rfl⟩
   go_wp2
   go_ret
   exact⟨rfl,rfl⟩
  | cons x F=>
   rw[show moreB (x::F) false=true from rfl] at hM
   obtain⟨gt,ot,ct,gc,oc,cc,B,d,e0,e1,k1,k2,_,_,_⟩:=h.hd
   obtain⟨n,hn⟩:∃n,F.length+1=n:=⟨_,rfl⟩
   rw[hn] at e0
   have z:(0:Int)<(n:Int):=by omega
   obtain⟨t',x2⟩:=x
   simp only at k1
   rw[hc8] at k1 ⊢
   have hv:Rd.nextIs t ((t',x2)::F)=(t'==t):=rfl
   have hq:(((t'.toNat:Int))==((t.toNat:Int)))=(t'==t):=by
    by_cases h:t'=t
    ·subst h;simp
    ·rw [beq_false_of_ne h];exact beq_false_of_ne fun e=>h (UInt8.toNat_inj.1 (by omega))
   rw[hv,←hq]
   clear h hn hv hq e1 k2
   go_enter Tryz.func126,Tryz.ntmps126
   go_wp2_with (go_at_call 79;fail)
   refine hM.mono ?_
   rintro e w1 ⟨rfl,rfl⟩
   go_wp2
   go_ret
   exact⟨by simp,rfl⟩
structure TakePost (t:UInt8) (w:World) (lo g b:Nat) (F:List Fd) (φ:Bool) (e:Ending) (w':World):Prop where
 out:∃A c x F',e=.returned (.slice A x.length c)∧x.length≤c∧c≤maxLen∧x.length≤16384∧HasP w' (fun k=>lo≤k∧k<g) 1 A x.length (bys x)∧RdS w' lo g b F' (φ||(Rd.takeR t F).isNone)∧Fr (own2 g b) w w'∧(φ=false→∀x0 F0,Rd.takeR t F=some (x0,F0)→x=x0∧F'=F0)
theorem TakePost.no {t:UInt8} {w w':World} {lo g b:Nat} {F:List Fd} {φ:Bool} (hr:RdS w' lo g b F true) (hf:Fr (own2 g b) w w') (hno:φ=true∨Rd.takeR t F=none):TakePost t w lo g b F φ (.returned (.slice none 0 0)) w':=by
 refine⟨none,0,[],F,rfl,Nat.le_refl _,Nat.zero_le _,Nat.zero_le _,HasP.none _,?_,hf,fun h x0 F0 h0=>?_⟩
 ·have:(φ||(Rd.takeR t F).isNone)=true:=by
   rcases hno with h | h
   ·rw [h];rfl
   ·rw [h];simp
  rw[this];exact hr
 ·rcases hno with h' | h'
  ·rw [h'] at h;cases h
  ·rw [h'] at h0;cases h0
theorem take_any (w:World) (lo g b:Nat) (F:List Fd) (φ:Bool) (t:UInt8) (h:RdS w lo g b F φ):
  Calls Tryz.prog 80 #[.pointer (some ⟨g,0,none⟩),c8 t] w (TakePost t w lo g b F φ):=by
 have hN:=next_any w lo g b F φ t h
 have hno:(!φ&&Rd.nextIs t F)=false→φ=true∨Rd.takeR t F=none:=by
  intro h0
  cases φ with
  | true=>exact .inl rfl
  | false=>
   right
   cases F with
   | nil=>rfl
   | cons x F=>
    obtain⟨t',x2⟩:=x
    simp only[Rd.nextIs,Bool.not_false,Bool.true_and,beq_eq_false_iff_ne] at h0
    simp only[Rd.takeR]
    rw[if_neg h0]
 cases hb:(!φ&&Rd.nextIs t F) with
 | false=>
  have hno:=hide (hno hb)
  have hF:=fail_any w lo g b F φ h
  rw[hb] at hN
  clear h hb
  go_enter Tryz.func80,Tryz.ntmps80
  go_wp2_with (go_at_call 126;fail)
  refine hN.mono ?_
  rintro e w1 ⟨rfl,rfl⟩
  go_wp2_with (go_at_call 78;fail)
  refine hF.mono ?_
  rintro e w2 ⟨rfl,hr,hf⟩
  clear hN hF
  go_wp2
  go_ret
  exact TakePost.no hr hf hno.out
 | true=>
  rw[hb] at hN
  clear hno
  cases φ with
  | true=>cases hb
  | false=>
  cases F with
  | nil=>cases hb
  | cons x F=>
  obtain⟨t',x2⟩:=x
  obtain rfl:t'=t:=by simpa[Rd.nextIs] using hb
  obtain⟨gt,ot,ct,gc,oc,cc,B,d,e0,e1,k1,k2,k3,k4,k5⟩:=h.hd
  have hs0:=h.hd
  have ha1:F=[]∨(if ct=1 then some ⟨gt,ot,none⟩ else some ⟨gt,ot+1,none⟩)=some (⟨gt,ot+1,none⟩:Addr):=by
   by_cases q:ct=1
   ·exact .inl (List.eq_nil_of_length_eq_zero (by omega))
   ·exact .inr (if_neg q)
  have ha2:F=[]∨(if cc=1 then some ⟨gc,oc,none⟩ else some ⟨gc,oc+1,none⟩)=some (⟨gc,oc+1,none⟩:Addr):=by
   by_cases q:cc=1
   ·exact .inl (List.eq_nil_of_length_eq_zero (by omega))
   ·exact .inr (if_neg q)
  have e0d:w.drew.cell? ⟨g,0,none⟩=some (.slice (some ⟨gt,ot,none⟩) (F.length+1) ct):=e0
  have e1d:w.drew.cell? ⟨g,1,none⟩=some (.slice (some ⟨gc,oc,none⟩) (F.length+1) cc):=e1
  have hfzd:∀i,w.drew.frozen? ⟨g,i,none⟩=false:=h.fz
  have hltd:g<w.drew.heap.size:=h.lt
  have hx2:x2.length≤16384:=h.small.2 _ List.mem_cons_self
  have hT:Rd.takeR t' ((t',x2)::F)=some (x2,F):=by simp[Rd.takeR]
  have hlt:=h.lt
  have hfz:=h.fz
  have hfr2:Fr (fun k=>k=g) w ((w.setCell ⟨g,0,none⟩ (.slice (if ct=1 then some ⟨gt,ot,none⟩ else some ⟨gt,ot+1,none⟩) F.length (ct-1))).setCell ⟨g,1,none⟩ (.slice (if cc=1 then some ⟨gc,oc,none⟩ else some ⟨gc,oc+1,none⟩) F.length (cc-1))):=(Fr.setCell (X:=fun k=>k=g) _ _ _ rfl).trans (Fr.setCell (X:=fun k=>k=g) _ _ _ rfl)
  have hfr:Fr (own2 g b) w ((w.setCell ⟨g,0,none⟩ (.slice (if ct=1 then some ⟨gt,ot,none⟩ else some ⟨gt,ot+1,none⟩) F.length (ct-1))).setCell ⟨g,1,none⟩ (.slice (if cc=1 then some ⟨gc,oc,none⟩ else some ⟨gc,oc+1,none⟩) F.length (cc-1))):=hfr2.mono fun _ _ hk=>.inl hk
  have hs1:=h.step ha1 ha2 e0 e1
  have HS:=hide (hs1.fr (Fr.drew (fun _=>False) _) id id (fun _ _ _=>id))
  have hP:=(k5.fr hfr2 (P':=fun k=>lo≤k∧k<g) (fun k hk=>⟨by omega,by omega,hk⟩)).fr (Fr.drew (fun _=>False) _) (P':=fun k=>lo≤k∧k<g) (fun k hk=>⟨by have:=hs1.lt;omega,id,hk⟩)
  have HP:=hide hP
  have HF:=hide (hfr.trans (Fr.drew (own2 g b) _))
  have HT:=hide hT
  simp only at k1 k2 k4
  obtain⟨m,hm⟩:∃m,x2.length=m:=⟨_,rfl⟩
  obtain⟨n,hn⟩:∃n,F.length=n:=⟨_,rfl⟩
  have Hn:=hide hn
  have Hm:=hide hm
  have Hk4:=hide k4
  have Hx2:=hide hx2
  rw[hm] at k2
  rw[hn] at e0 e1 e0d e1d k3
  obtain⟨z1,z2,z3,z4⟩:=k3
  unfold maxLen at z2 z4
  have zz:(1:Int)≤(n:Int)+1:=by omega
  have zz2:(n:Int)+1≤(ct:Int):=by omega
  have zz3:(n:Int)+1≤(cc:Int):=by omega
  have zz4:(n:Int)+1≤9223372036854775807:=by omega
  clear h hs1 hs0 ha1 ha2 hb k5 hT hP hfr hfr2 hm hn k1 k4 hx2
  go_enter Tryz.func80,Tryz.ntmps80
  go_wp2_with (go_at_call 126;fail)
  refine hN.mono ?_
  rintro e w1 ⟨rfl,hw1⟩
  obtain rfl:=hw1
  clear hN
  go_wp2
  refine grow_beginZ (upOf) [14,17] (by kernel_rfl) ?_
  refine grow_takeP 0 (some 18) (v:=?vt0) rfl rfl (by kernel_rfl) (by kernel_rfl) (by kernel_rfl) (fun _ _ _ h=>h) (by rfl) (fun W=>?yt0) ?_
  case yt0=>
   go_simp<;>with_reducible rfl
  try simp only[Act.put,List.setIfInBounds_toArray,List.set_cons_zero,List.set_cons_succ]
  refine grow_takeP 1 (some 19) (v:=?vt1) rfl rfl (by kernel_rfl) (by kernel_rfl) (by kernel_rfl) (fun _ _ _ h=>h) (by rfl) (fun W=>?yt1) ?_
  case yt1=>
   go_simp<;>with_reducible rfl
  try simp only[Act.put,List.setIfInBounds_toArray,List.set_cons_zero,List.set_cons_succ]
  refine grow_takeP 2 (some 20) (v:=?vt2) rfl rfl (by kernel_rfl) (by kernel_rfl) (by kernel_rfl) (fun _ _ _ h=>h) (by rfl) (fun W=>?yt2) ?_
  case yt2=>
   go_simp<;>with_reducible rfl
  try simp only[Act.put,List.setIfInBounds_toArray,List.set_cons_zero,List.set_cons_succ]
  refine grow_takeP 3 (some 21) (v:=?vt3) rfl rfl (by kernel_rfl) (by kernel_rfl) (by kernel_rfl) (fun _ _ _ h=>h) (by rfl) (fun W=>?yt3) ?_
  case yt3=>
   go_simp<;>with_reducible rfl
  try simp only[Act.put,List.setIfInBounds_toArray,List.set_cons_zero,List.set_cons_succ]
  refine grow_takeP 4 (some 22) (v:=?vt4) rfl rfl (by kernel_rfl) (by kernel_rfl) (by kernel_rfl) (fun _ _ _ h=>h) (by rfl) (fun W=>?yt4) ?_
  case yt4=>
   go_simp<;>with_reducible rfl
  try simp only[Act.put,List.setIfInBounds_toArray,List.set_cons_zero,List.set_cons_succ]
  refine grow_takeZ 5 (some 23) (v:=?vt5) rfl rfl (by kernel_rfl) (by kernel_rfl) (by kernel_rfl) (fun _ _ _ h=>h) (by kernel_rfl) (by rfl) (fun W hW=>?yt5) ?_
  case yt5=>
   have e0W:W.cell? ⟨g,0,none⟩=some (.slice (some ⟨gt,ot,none⟩) (n+1) ct):=by rw[hW.cell (p:=⟨g,0,none⟩) hltd];exact e0d
   go_simp<;>with_reducible rfl
  try simp only[Act.put,List.setIfInBounds_toArray,List.set_cons_zero,List.set_cons_succ]
  refine grow_takeP 6 (some 24) (v:=?vt6) rfl rfl (by kernel_rfl) (by kernel_rfl) (by kernel_rfl) (fun _ _ _ h=>h) (by rfl) (fun W=>?yt6) ?_
  case yt6=>
   go_simp<;>with_reducible rfl
  try simp only[Act.put,List.setIfInBounds_toArray,List.set_cons_zero,List.set_cons_succ]
  refine grow_takeP 7 (some 25) (v:=?vt7) rfl rfl (by kernel_rfl) (by kernel_rfl) (by kernel_rfl) (fun _ _ _ h=>h) (by rfl) (fun W=>?yt7) ?_
  case yt7=>
   go_simp<;>with_reducible rfl
  try simp only[Act.put,List.setIfInBounds_toArray,List.set_cons_zero,List.set_cons_succ]
  refine grow_takeP 8 (some 26) (v:=?vt8) rfl rfl (by kernel_rfl) (by kernel_rfl) (by kernel_rfl) (fun _ _ _ h=>h) (by rfl) (fun W=>?yt8) ?_
  case yt8=>
   go_simp<;>with_reducible rfl
  try simp only[Act.put,List.setIfInBounds_toArray,List.set_cons_zero,List.set_cons_succ]
  refine grow_takeP 9 (some 27) (v:=?vt9) rfl rfl (by kernel_rfl) (by kernel_rfl) (by kernel_rfl) (fun _ _ _ h=>h) (by rfl) (fun W=>?yt9) ?_
  case yt9=>
   go_simp<;>with_reducible rfl
  try simp only[Act.put,List.setIfInBounds_toArray,List.set_cons_zero,List.set_cons_succ]
  refine grow_takeZ 10 (some 28) (v:=?vt10) rfl rfl (by kernel_rfl) (by kernel_rfl) (by kernel_rfl) (fun _ _ _ h=>h) (by kernel_rfl) (by rfl) (fun W hW=>?yt10) ?_
  case yt10=>
   have e1W:W.cell? ⟨g,1,none⟩=some (.slice (some ⟨gc,oc,none⟩) (n+1) cc):=by rw[hW.cell (p:=⟨g,1,none⟩) hltd];exact e1d
   go_simp<;>with_reducible rfl
  try simp only[Act.put,List.setIfInBounds_toArray,List.set_cons_zero,List.set_cons_succ]
  refine grow_takeP 11 (some 29) (v:=?vt11) rfl rfl (by kernel_rfl) (by kernel_rfl) (by kernel_rfl) (fun _ _ _ h=>h) (by rfl) (fun W=>?yt11) ?_
  case yt11=>
   go_simp<;>with_reducible rfl
  try simp only[Act.put,List.setIfInBounds_toArray,List.set_cons_zero,List.set_cons_succ]
  refine grow_takeP 12 (some 30) (v:=?vt12) rfl rfl (by kernel_rfl) (by kernel_rfl) (by kernel_rfl) (fun _ _ _ h=>h) (by rfl) (fun W=>?yt12) ?_
  case yt12=>
   go_simp<;>with_reducible rfl
  try simp only[Act.put,List.setIfInBounds_toArray,List.set_cons_zero,List.set_cons_succ]
  refine grow_takeP 13 (some 31) (v:=?vt13) rfl rfl (by kernel_rfl) (by kernel_rfl) (by kernel_rfl) (fun _ _ _ h=>h) (by rfl) (fun W=>?yt13) ?_
  case yt13=>
   go_simp<;>with_reducible rfl
  try simp only[Act.put,List.setIfInBounds_toArray,List.set_cons_zero,List.set_cons_succ]
  refine grow_onlyZ 14 rfl (by kernel_rfl) (fun K hK=>?_)
  go_simp
  refine hK.out _ _ (fun h=>absurd (by decide) h) ?_
  clear hK K
  refine grow_takeP 15 (some 32) (v:=?vt15) rfl rfl (by kernel_rfl) (by kernel_rfl) (by kernel_rfl) (fun _ _ _ h=>h) (by rfl) (fun W=>?yt15) ?_
  case yt15=>
   go_simp<;>with_reducible rfl
  try simp only[Act.put,List.setIfInBounds_toArray,List.set_cons_zero,List.set_cons_succ]
  refine grow_takeP 16 (some 33) (v:=?vt16) rfl rfl (by kernel_rfl) (by kernel_rfl) (by kernel_rfl) (fun _ _ _ h=>h) (by rfl) (fun W=>?yt16) ?_
  case yt16=>
   go_simp<;>with_reducible rfl
  try simp only[Act.put,List.setIfInBounds_toArray,List.set_cons_zero,List.set_cons_succ]
  refine grow_onlyZ 17 rfl (by kernel_rfl) (fun K hK=>?_)
  go_simp
  refine hK.out _ _ (fun h=>absurd (by decide) h) ?_
  clear hK K
  refine grow_doneZ (by kernel_rfl) ?_ _
  clear e0 e1 e0d e1d k2 zz zz2 zz3 zz4 z1 z2 z3 z4 hlt hltd hfz hfzd
  rw[Hn.out] at HS HP HF
  generalize (if ct=1 then some (⟨gt,ot,none⟩:Addr) else some ⟨gt,ot+1,none⟩)=A1 at *
  generalize (if cc=1 then some (⟨gc,oc,none⟩:Addr) else some ⟨gc,oc+1,none⟩)=A2 at *
  generalize ((w1.setCell ⟨g,0,none⟩ (.slice A1 n (ct-1))).setCell ⟨g,1,none⟩ (.slice A2 n (cc-1))).drew=wz at *
  go_wp2
  go_ret
  refine⟨_,_,x2,F,by rw[Hm.out];rfl,Hk4.out.1,Hk4.out.2,Hx2.out,HP.out,by rw[HT.out];exact HS.out,HF.out,fun _ x0 F0 h0=>by rw[HT.out] at h0;simpa using h0⟩
end Go.Proofs.YtcpjmgfloimfhaaGreat
namespace Go.Proofs.YtcpjmgfloimfhaaGreat
open Go.RowKit
set_option linter.unusedVariables false
theorem test_take {α:Type} {t:UInt8} {F F':List Fd} {φ:Bool} {x:List UInt8} {ok:List UInt8→Option α} {p:Rdr α} (hp:p F=match Rd.takeR t F with | some (c,r)=>(ok c).map fun y=>(y,r) | none=>none)
  (hx:φ=false→∀x0 F0,Rd.takeR t F=some (x0,F0)→x=x0∧F'=F0):
  (ok x=none→(φ||(p F).isNone)=true)∧(∀y,ok x=some y→(φ||(p F).isNone)=(φ||(Rd.takeR t F).isNone)∧(φ=false→∀x0 F0,p F=some (x0,F0)→y=x0∧F'=F0)):=by
 rw[hp]
 cases φ with
 | true=>exact⟨fun _=>rfl,fun y _=>⟨rfl,fun h=>by cases h⟩⟩
 | false=>
  cases ht:Rd.takeR t F with
  | none=>exact⟨fun _=>rfl,fun y _=>⟨rfl,fun _ x0 F0 h0=>by cases h0⟩⟩
  | some q=>
   obtain⟨c,r⟩:=q
   obtain⟨rfl,rfl⟩:=hx rfl _ _ ht
   refine⟨fun h=>?_,fun y h=>?_⟩
   ·simp only[h];rfl
   ·simp only[h]
    exact⟨rfl,fun _ x0 F0 h0=>by simpa using h0⟩
theorem tagged_eq (t:UInt8) (F:List Fd):Rd.taggedR t F=match Rd.takeR t F with | some (c,r)=>(if c.length≤1000 then some c else none).map fun y=>(y,r) | none=>none:=by
 unfold Rd.taggedR
 cases Rd.takeR t F with
 | none=>rfl
 | some q=>obtain⟨c,r⟩:=q;simp only;split<;>rfl
theorem num_eq (t:UInt8) (most:Int) (F:List Fd):Rd.numR t most F=match Rd.takeR t F with | some (c,r)=>(if (Ber.toInt c).2=0∧0≤(Ber.toInt c).1∧(Ber.toInt c).1≤most then some (Ber.toInt c).1 else none).map fun y=>(y,r) | none=>none:=by
 unfold Rd.numR
 cases Rd.takeR t F with
 | none=>rfl
 | some q=>obtain⟨c,r⟩:=q;simp only;split<;>rfl
theorem flag_eq (F:List Fd):Rd.flagR F=match Rd.takeR 1 F with | some (c,r)=>(if (Ber.toBool c).2=0 then some (Ber.toBool c).1 else none).map fun y=>(y,r) | none=>none:=by
 unfold Rd.flagR
 cases Rd.takeR 1 F with
 | none=>rfl
 | some q=>obtain⟨c,r⟩:=q;simp only;split<;>rfl
theorem own_range {lo g b:Nat} (hb:b<lo):∀k,lo≤k→k<g→¬own2 g b k:=fun k h1 h2 h=>by rcases h with h | h<;>omega
theorem tagged_any (w:World) (lo g b:Nat) (F:List Fd) (φ:Bool) (t:UInt8) (h:RdS w lo g b F φ):
  Calls Tryz.prog 128 #[.pointer (some ⟨g,0,none⟩),c8 t] w (RdPost repT (Rd.taggedR t) w (own2 g b) lo g b F φ):=by
 go_enter Tryz.func128,Tryz.ntmps128
 go_wp2_with (go_at_call 80;fail)
 refine (take_any w lo g b F φ t h).mono ?_
 rintro e w1 hpost
 obtain⟨A,c,x,F',rfl,hc,hm,hx,hP,hr,hf,hq⟩:=hpost.out
 clear hpost
 have hTT:=test_take (tagged_eq t F) hq
 have HFl:=hide (fail_any w1 lo g b F' _ hr)
 obtain⟨m,hm2⟩:∃m,x.length=m:=⟨_,rfl⟩
 have hlog:=h.log
 have hblo:=h.blo
 have hlt1:=hr.lt
 rw[hm2] at hx hc hP ⊢
 by_cases hl:1000<m
 ·have z:(1000:Int)<(m:Int):=by omega
  have hno:=hTT.1 (by rw[if_neg (by omega)])
  have Hno:=hide hno
  have HP:=hide hP
  have Hlo:=hide (And.intro hlog hblo)
  have Hlt:=hide hlt1
  clear hTT hno hq hP hlog hblo hm2 hlt1
  go_wp2_with (go_at_call 78;fail)
  refine HFl.out.mono ?_
  rintro e w2 ⟨rfl,hr2,hf2⟩
  have hfT:=hf.trans hf2
  have hP2:=HP.out.fr hf2 (P':=fun k=>k<w2.heap.size) (fun k hk=>⟨by have:=Hlt.out;omega,own_range Hlo.out.2 k hk.1 hk.2,by have:=hr2.lt;omega⟩)
  have htx:=txt8 w2 c (hP2.has (B:=w2.heap.size) (fun _ h=>h))
  clear hP2
  go_wp2
  go_ret
  exact⟨⟨x,_,F',rfl,rfl,by rw[Hno.out];exact hr2,hfT,fun h0 x0 F0 hh=>by have:=Hno.out;rw[h0,hh] at this;cases this⟩⟩
 ·have z:¬((1000:Int)<(m:Int)):=by omega
  have hyes:=hTT.2 x (by rw[if_pos (by omega)])
  have Hyes:=hide hyes
  have htx:=txt8 w1 c (hP.has (B:=w1.heap.size) (fun k hk=>by omega))
  clear hTT hyes hq hP HFl hlog hblo hm2 hlt1
  go_wp2
  go_ret
  exact⟨⟨x,_,F',rfl,rfl,by rw[Hyes.out.1];exact hr,hf,Hyes.out.2⟩⟩
theorem text_any (w:World) (lo g b:Nat) (F:List Fd) (φ:Bool) (h:RdS w lo g b F φ):
  Calls Tryz.prog 130 #[.pointer (some ⟨g,0,none⟩)] w (RdPost repT Rd.textR w (own2 g b) lo g b F φ):=by
 have hT:=tagged_any w lo g b F φ 4 h
 rw[show c8 4=.int .u8 4 from rfl] at hT
 clear h
 go_enter Tryz.func130,Tryz.ntmps130
 go_wp2_with (go_at_call 128;fail)
 refine hT.mono ?_
 rintro e w1 hpost
 obtain⟨x,v,F',rfl,hv,h1,h2,h3⟩:=hpost.out
 clear hpost hT
 unfold repT at hv
 subst hv
 go_wp2
 go_ret
 exact⟨⟨x,_,F',rfl,rfl,h1,h2,h3⟩⟩
theorem number_any (w:World) (lo g b:Nat) (F:List Fd) (φ:Bool) (t:UInt8) (most:Int) (h:RdS w lo g b F φ):
  Calls Tryz.prog 81 #[.pointer (some ⟨g,0,none⟩),c8 t,.int .i64 most] w (RdPost repI (Rd.numR t most) w (own2 g b) lo g b F φ):=by
 go_enter Tryz.func81,Tryz.ntmps81
 go_wp2_with (go_at_call 80;fail)
 refine (take_any w lo g b F φ t h).mono ?_
 rintro e w1 hpost
 obtain⟨A,c,x,F',rfl,hc,hm,hx,hP,hr,hf,hq⟩:=hpost.out
 clear hpost
 have hTT:=test_take (num_eq t most F) hq
 have HFl:=hide (fail_any w1 lo g b F' _ hr)
 have hti:=Ber.toint_any w1 w1.heap.size A x.length c x (hP.has (B:=w1.heap.size) (fun k hk=>by have:=hr.lt;omega)) hc hm
 obtain⟨n,E,hnE⟩:∃n E,Ber.toInt x=(n,E):=⟨_,_,rfl⟩
 rw[hnE] at hti hTT
 simp only at hti hTT
 clear hP hq hc hm hx
 go_wp2_with (go_at_call 127;fail)
 refine hti.mono ?_
 rintro e w9 ⟨rfl,hw9⟩
 obtain rfl:=hw9
 clear hti hnE h
 by_cases ok:E=0∧0≤n∧n≤most
 ·have hyes:=hTT.2 n (by rw[if_pos ok])
  have Hyes:=hide hyes
  obtain⟨rfl,h2,h3⟩:=ok
  have z2:¬(n<0):=by omega
  have z3:¬(most<n):=by omega
  clear hTT hyes HFl
  go_wp2
  go_ret
  exact⟨⟨n,_,F',rfl,rfl,by rw[Hyes.out.1];exact hr,hf,Hyes.out.2⟩⟩
 ·have hno:=hTT.1 (by rw[if_neg ok])
  have Hno:=hide hno
  have fin:∀(w2:World),RdS w2 lo g b F' true→Fr (own2 g b) w w2→RdPost repI (Rd.numR t most) w (own2 g b) lo g b F φ (.returned (.int .i64 n)) w2:=fun w2 q1 q2=>⟨⟨n,_,F',rfl,rfl,by rw[Hno.out];exact q1,q2,fun h0 x0 F0 hh=>by have:=Hno.out;rw[h0,hh] at this;cases this⟩⟩
  have Fin:=hide fin
  clear hTT hno fin
  by_cases k1:E=0
  ·subst k1
   by_cases k2:n<0
   ·clear ok
    go_wp2_with (go_at_call 78;fail)
    refine HFl.out.mono ?_
    rintro e w2 ⟨rfl,hr2,hf2⟩
    have hfT:=hf.trans hf2
    go_wp2
    go_ret
    exact Fin.out _ hr2 hfT
   ·have k3:most<n:=by omega
    clear ok
    go_wp2_with (go_at_call 78;fail)
    refine HFl.out.mono ?_
    rintro e w2 ⟨rfl,hr2,hf2⟩
    have hfT:=hf.trans hf2
    go_wp2
    go_ret
    exact Fin.out _ hr2 hfT
  ·have z1:(E==0)=false:=beq_false_of_ne k1
   have z2:(E !=0)=true:=by unfold bne;rw[z1];rfl
   clear ok
   go_wp2_with (go_at_call 78;fail)
   refine HFl.out.mono ?_
   rintro e w2 ⟨rfl,hr2,hf2⟩
   have hfT:=hf.trans hf2
   go_wp2
   go_ret
   exact Fin.out _ hr2 hfT
theorem flag_any (w:World) (lo g b:Nat) (F:List Fd) (φ:Bool) (h:RdS w lo g b F φ):
  Calls Tryz.prog 135 #[.pointer (some ⟨g,0,none⟩)] w (RdPost repB Rd.flagR w (own2 g b) lo g b F φ):=by
 go_enter Tryz.func135,Tryz.ntmps135
 go_wp2_with (go_at_call 80;fail)
 refine (take_any w lo g b F φ 1 h).mono ?_
 rintro e w1 hpost
 obtain⟨A,c,x,F',rfl,hc,hm,hx,hP,hr,hf,hq⟩:=hpost.out
 clear hpost
 have hTT:=test_take (flag_eq F) hq
 have HFl:=hide (fail_any w1 lo g b F' _ hr)
 have hti:=Ber.tobool_any w1 w1.heap.size A x.length c x (hP.has (B:=w1.heap.size) (fun k hk=>by have:=hr.lt;omega)) hc hm
 obtain⟨n,E,hnE⟩:∃n E,Ber.toBool x=(n,E):=⟨_,_,rfl⟩
 rw[hnE] at hti hTT
 simp only at hti hTT
 clear hP hq hc hm hx
 go_wp2_with (go_at_call 162;fail)
 refine hti.mono ?_
 rintro e w9 ⟨rfl,hw9⟩
 obtain rfl:=hw9
 clear hti hnE h
 by_cases ok:E=0
 ·have hyes:=hTT.2 n (by rw[if_pos ok])
  have Hyes:=hide hyes
  subst ok
  clear hTT hyes HFl
  go_wp2
  go_ret
  exact⟨⟨n,_,F',rfl,rfl,by rw[Hyes.out.1];exact hr,hf,Hyes.out.2⟩⟩
 ·have hno:=hTT.1 (by rw[if_neg ok])
  have Hno:=hide hno
  have z1:(E==0)=false:=beq_false_of_ne ok
  have z2:(E !=0)=true:=by unfold bne;rw[z1];rfl
  clear hTT hno ok
  go_wp2_with (go_at_call 78;fail)
  refine HFl.out.mono ?_
  rintro e w2 ⟨rfl,hr2,hf2⟩
  have hfT:=hf.trans hf2
  go_wp2
  go_ret
  exact⟨⟨n,_,F',rfl,rfl,by rw[Hno.out];exact hr2,hfT,fun h0 x0 F0 hh=>by have:=Hno.out;rw[h0,hh] at this;cases this⟩⟩
end Go.Proofs.YtcpjmgfloimfhaaGreat
