/- Several texts in one: QMath, QRows, QText, QParse, QRParse, QParts, QCall, QUnder, QComp, QRComp. By an AI agent. -/
import Derived.Laws.MakeOwn
import Derived.Laws.ResultCell
import Derived.Lib.Join
import Derived.Sort.EncStr
import Derived.Test.YtdkekamkmlpnhaaGreatDoorMG
set_option linter.unusedSimpArgs false
set_option linter.unusedVariables false
set_option maxRecDepth 100000
set_option maxHeartbeats 32000000
namespace Go.Proofs.YtdkekamkmlpnhaaGreatDoor
def joinC:List (List UInt8)->List UInt8
 | []=>[]
 | [a]=>a
 | a::b::r=>a++44::joinC (b::r)
theorem zGm:∀(T:List (List UInt8)),T≠[]->(∀t∈T,Whole 44 t)->cuts 44 (joinC T)=T
 | [],h,_=>absurd rfl h
 | [a],_,h=>by rw[joinC,zPu (h a (by simp))]
 | a::b::r,_,h=>by
  rw[joinC,zRx (by decide) (h a (by simp)),zGm (b::r) (by simp) fun t ht=>h t (by simp only[List.mem_cons] at ht ⊢;exact Or.inr ht)]
theorem zEc:∀(T:List (List UInt8)) (a:List UInt8),joinC (T++[a])=if T=[] then a else joinC T++44::a
 | [],a=>rfl
 | [b],a=>by simp[joinC]
 | b::c::r,a=>by
  have ih:=zEc (c::r) a;rw[if_neg (by simp)] at ih ⊢;rw[List.cons_append,List.cons_append,joinC,<-List.cons_append,ih,joinC];simp
theorem zQq (a:List UInt8) (T:List (List UInt8)):(joinC T).length<=(joinC (a::T)).length:=by
 cases T with
 | nil=>simp[joinC]
 | cons b r=>rw[joinC,List.length_append,List.length_cons];omega
noncomputable def nameV (s:List UInt8):Option (List (List P2)) × Int:=
 if 1000<s.length then (none,4)
 else if s=[] then (some [],0)
 else if 12<(cuts 44 s).length then (none,4)
 else match (cuts 44 s).mapM parseP with
  | none=>(none,2)
  | some L=>(some L,0)
inductive Nway (s:List UInt8):Prop where
 | long (h:1000<s.length) (e:nameV s=(none,4))
 | root (h:s=[]) (e:nameV s=(some [],0))
 | many (h:s.length<=1000) (hn:s≠[]) (hc:12<(cuts 44 s).length) (e:nameV s=(none,4))
 | form (h:s.length<=1000) (hn:s≠[]) (hc:(cuts 44 s).length<=12) (hm:(cuts 44 s).mapM parseP=none) (e:nameV s=(none,2))
 | name (L:List (List P2)) (h:s.length<=1000) (hn:s≠[]) (hc:(cuts 44 s).length<=12) (hm:(cuts 44 s).mapM parseP=some L) (e:nameV s=(some L,0))
theorem nway (s:List UInt8):Nway s:=by
 by_cases h1:1000<s.length
 ·exact .long h1 (by unfold nameV;rw[if_pos h1])
 ·by_cases h2:s=[]
  ·exact .root h2 (by unfold nameV;rw[if_neg h1,if_pos h2])
  ·by_cases h3:12<(cuts 44 s).length
   ·exact .many (by omega) h2 h3 (by unfold nameV;rw[if_neg h1,if_neg h2,if_pos h3])
   ·cases hm:(cuts 44 s).mapM parseP with
    | none=>exact .form (by omega) h2 (by omega) hm (by unfold nameV;rw[if_neg h1,if_neg h2,if_neg h3,hm])
    | some L=>exact .name L (by omega) h2 (by omega) hm (by unfold nameV;rw[if_neg h1,if_neg h2,if_neg h3,hm])
theorem zI7 {α β:Type} {f:α->Option β}:∀{ps:List α} {L:List β} {b:β},ps.mapM f=some L->b∈L->∃p∈ps,f p=some b
 | [],L,b,h,hb=>by obtain rfl:=Option.some.inj h;cases hb
 | x::r,L,b,h,hb=>by
  rw[mapM_cons'] at h;cases hx:f x with
  | none=>rw[hx] at h;cases h
  | some y=>
   rw[hx] at h;cases hr:r.mapM f with
   | none=>rw[hr] at h;cases h
   | some M=>
    rw[hr] at h;obtain rfl:=Option.some.inj h;rcases List.mem_cons.1 hb with rfl | hb
    ·exact ⟨x,by simp,hx⟩
    ·obtain ⟨p,hp,he⟩:=zI7 hr hb;exact⟨p,by simp[hp],he⟩
structure NameOk (L:List (List P2)):Prop where
 le:L.length<=12
 each:∀p∈L,PartOk p
theorem zCf {s:List UInt8} {L:List (List P2)} {e:Int} (h:nameV s=(some L,e)):e=0/\NameOk L:=by
 cases nway s with
 | long _ e'=>rw[e'] at h;cases h
 | root _ e'=>rw[e'] at h;cases h;exact⟨rfl,⟨by simp,fun p hp=>by cases hp⟩⟩
 | many _ _ _ e'=>rw[e'] at h;cases h
 | form _ _ _ _ e'=>rw[e'] at h;cases h
 | name M _ _ hc hm e'=>
  rw[e'] at h;cases h;refine⟨rfl,⟨by rw[zFi hm];exact hc,fun p hp=>?_⟩⟩;obtain⟨t,_,ht⟩:=zI7 hm hp;exact parse_ok ht
theorem zEd {s:List UInt8} {e:Int} (h:nameV s=(none,e)):e=2\/e=4:=by
 cases nway s with
 | long _ e'=>rw[e'] at h;cases h;exact Or.inr rfl
 | root _ e'=>rw[e'] at h;cases h
 | many _ _ _ e'=>rw[e'] at h;cases h;exact Or.inr rfl
 | form _ _ _ _ e'=>rw[e'] at h;cases h;exact Or.inl rfl
 | name M _ _ hc hm e'=>rw[e'] at h;cases h
theorem prP_ne {l:List P2} (h:PartOk l):prP l≠[]:=by
 have hp:=h.pos
 match l,hp with
 | [a],_=>simp[prP,onePr]
 | a::b::r,_=>simp[prP,onePr]
theorem prP_whole' {l:List P2} (h:PartOk l):Whole 44 (prP l):=prP_whole l fun a ha=>(h.each a ha).plain
theorem zM1:∀(L:List (List P2)),(∀p∈L,PartOk p)->(L.map prP).mapM parseP=some L
 | [],_=>rfl
 | p::r,h=>by
  rw[List.map_cons,mapM_cons',parse_pr (h p (by simp)),zM1 r fun q hq=>h q (by simp[hq])];rfl
theorem zJd {L:List (List P2)} (h:NameOk L) (hl:(joinC (L.map prP)).length<=1000):nameV (joinC (L.map prP))=(some L,0):=by
 cases L with
 | nil=>unfold nameV;rw[if_neg (by simp[joinC]),if_pos (by simp[joinC])]
 | cons p r=>
  have hw:∀t∈(p::r).map prP,Whole 44 t:=fun t ht=>by
   obtain⟨q,hq,rfl⟩:=List.mem_map.1 ht;exact prP_whole' (h.each q hq)
  have hc:=zGm ((p::r).map prP) (by simp) hw;have hne:joinC ((p::r).map prP)≠[]:=by
   have:=prP_ne (h.each p (by simp));cases r with
   | nil=>simpa[joinC] using this
   | cons q s=>simp[joinC]
  unfold nameV;rw[if_neg (by omega),if_neg hne,hc,if_neg (by rw[List.length_map];have:=h.le;omega),zM1 _ h.each]
noncomputable def ptx (p:List P2):List UInt8:=prP (normP p)
def NT (t:List UInt8):Prop:=∃p,PartOk p/\normP p=p/\prP p=t
theorem nt_ptx {p:List P2} (h:PartOk p):NT (ptx p):=⟨normP p,(zEh h).1,(zEh h).2,rfl⟩
noncomputable def partsV (s:List UInt8):Option (List (List UInt8)) × Int:=
 match nameV s with
 |(none,e)=>(none,e)
 |(some L,_)=>if 1000<(joinC (L.map ptx)).length then (none,4) else (some (L.map ptx),0)
structure TextsOk (T:List (List UInt8)):Prop where
 le:T.length<=12
 len:(joinC T).length<=1000
 each:∀t∈T,NT t
inductive Pway (s:List UInt8):Prop where
 | none (e:Int) (he:e=2\/e=4) (hn:nameV s=(.none,e)) (h:partsV s=(.none,e))
 | long (L:List (List P2)) (hn:nameV s=(some L,0)) (ho:NameOk L) (hl:1000<(joinC (L.map ptx)).length) (h:partsV s=(.none,4))
 | ok (L:List (List P2)) (hn:nameV s=(some L,0)) (ho:NameOk L) (hl:(joinC (L.map ptx)).length<=1000) (h:partsV s=(some (L.map ptx),0))
theorem pway (s:List UInt8):Pway s:=by
 cases h:nameV s with
 | mk o e=>
  cases o with
  | none=>exact .none e (zEd h) h (by unfold partsV;rw[h])
  | some L=>
   obtain⟨rfl,ho⟩:=zCf h;by_cases hl:1000<(joinC (L.map ptx)).length
   ·exact .long L h ho hl (by unfold partsV;rw[h];simp only;rw[if_pos hl])
   ·exact .ok L h ho (by omega) (by unfold partsV;rw[h];simp only;rw[if_neg hl])
theorem texts_of {L:List (List P2)} (ho:NameOk L) (hl:(joinC (L.map ptx)).length<=1000):TextsOk (L.map ptx):=
 ⟨by rw[List.length_map];exact ho.le,hl,fun t ht=>by obtain⟨p,hp,rfl⟩:=List.mem_map.1 ht;exact nt_ptx (ho.each p hp)⟩
inductive Pt (s:List UInt8):Prop where
 | no (e:Int) (he:e=2\/e=4) (h:partsV s=(none,e))
 | ok (T:List (List UInt8)) (ho:TextsOk T) (h:partsV s=(some T,0))
theorem pt (s:List UInt8):Pt s:=by
 cases pway s with
 | none e he _ h=>exact .no e he h
 | long L _ _ _ h=>exact .no 4 (Or.inr rfl) h
 | ok L _ ho hl h=>exact .ok _ (texts_of ho hl) h
theorem NT.parts:∀{T:List (List UInt8)},(∀t∈T,NT t)->∃L:List (List P2),(∀p∈L,PartOk p)/\L.map prP=T/\L.map ptx=T
 | [],_=>⟨[],fun p hp=>(by cases hp),rfl,rfl⟩
 | t::r,h=>by
  obtain⟨p,hp,hn,ht⟩:=h t (by simp);obtain⟨L,hL,h1,h2⟩:=NT.parts (T:=r) fun u hu=>h u (by simp[hu])
  refine⟨p::L,fun q hq=>?_,by rw[List.map_cons,ht,h1],by rw[List.map_cons,h2];unfold ptx;rw[hn,ht]⟩;rcases List.mem_cons.1 hq with rfl | hq
  ·exact hp
  ·exact hL q hq
theorem zBf {T:List (List UInt8)} (h:TextsOk T):partsV (joinC T)=(some T,0):=by
 obtain⟨L,hL,h1,h2⟩:=NT.parts h.each;have hlen:L.length=T.length:=by rw[<-h1,List.length_map]
 have hn:=zJd (L:=L) ⟨by rw[hlen];exact h.le,hL⟩ (by rw[h1];exact h.len);rw[h1] at hn;unfold partsV;rw[hn];simp only;rw[h2,if_neg (by have:=h.len;omega)]
theorem TextsOk.tail {a:List UInt8} {T:List (List UInt8)} (h:TextsOk (a::T)):TextsOk T:=
 ⟨by have:=h.le;simp only[List.length_cons] at this;omega,Nat.le_trans (zQq a T) h.len,fun t ht=>h.each t (by simp[ht])⟩
theorem TextsOk.root:TextsOk []:=⟨by simp,by simp[joinC],fun t ht=>by cases ht⟩
noncomputable def normT (s:List UInt8):List UInt8 × Int:=
 match partsV s with
 |(none,e)=>([],e)
 |(some T,_)=>(joinC T,0)
theorem norm_yes' {s:List UInt8} {T:List (List UInt8)} (h:partsV s=(some T,0)):normT s=(joinC T,0):=by unfold normT;rw[h]
theorem norm_no' {s:List UInt8} {e:Int} (h:partsV s=(none,e)):normT s=([],e):=by unfold normT;rw[h]
def fitV (T:List (List UInt8)):List UInt8 × Int:=if 12<T.length\/1000<(joinC T).length then ([],4) else (joinC T,0)
theorem fit_yes {T:List (List UInt8)} (h:TextsOk T):fitV T=(joinC T,0):=by unfold fitV;rw[if_neg];have:=h.le;have:=h.len;omega
def cmpL:List (List UInt8)->List (List UInt8)->Int
 | [],[]=>0
 | [],_::_=> -1
 | _::_,[]=>1
 | x::r,y::q=>if x<y then -1 else if y<x then 1 else cmpL r q
theorem zF0 (x:List UInt8):¬x<x:=List.lt_irrefl x
theorem zNp {x y:List UInt8} (h1:¬x<y) (h2:¬y<x):x=y:=by
 have a:=List.not_lt.1 h1;have b:=List.not_lt.1 h2;exact List.le_antisymm b a
theorem zNb:∀(a b:List (List UInt8)),cmpL a b= -1\/cmpL a b=0\/cmpL a b=1
 | [],[]=>Or.inr (Or.inl rfl)
 | [],_::_=>Or.inl rfl
 | _::_,[]=>Or.inr (Or.inr rfl)
 | x::r,y::q=>by
  unfold cmpL;split
  ·exact Or.inl rfl
  ·split
   ·exact Or.inr (Or.inr rfl)
   ·exact zNb r q
theorem zCn:∀(a b:List (List UInt8)),cmpL b a= -cmpL a b
 | [],[]=>rfl
 | [],_::_=>rfl
 | _::_,[]=>rfl
 | x::r,y::q=>by
  have ih:=zCn r q;unfold cmpL;by_cases h1:x<y
  ·have h2:¬y<x:=fun h=>zF0 x (List.lt_trans h1 h)
   rw[if_pos h1,if_neg h2,if_pos h1];rfl
  ·by_cases h2:y<x
   ·rw [if_pos h2,if_neg h1,if_pos h2]
   ·rw [if_neg h1,if_neg h2,if_neg h2,if_neg h1];exact ih
theorem zIc:∀(a b c:List (List UInt8)),cmpL a b<=0->cmpL b c<=0->cmpL a c<=0
 | [],_,[],_,_=>by simp[cmpL]
 | [],_,_::_,_,_=>by simp[cmpL]
 | _::_,[],_,h,_=>by simp[cmpL] at h
 | _::_,_::_,[],_,h=>by simp[cmpL] at h
 | x::r,y::q,z::p,h1,h2=>by
  unfold cmpL at h1 h2 ⊢;by_cases a1:x<y
  ·by_cases b1:y<z
   ·rw [if_pos (List.lt_trans a1 b1)];omega
   ·by_cases b2:z<y
    ·rw [if_neg b1,if_pos b2] at h2;omega
    ·obtain rfl:=zNp b1 b2;rw[if_pos a1];omega
  ·by_cases a2:y<x
   ·rw [if_neg a1,if_pos a2] at h1;omega
   ·obtain rfl:=zNp a1 a2;rw[if_neg a1,if_neg a1] at h1;by_cases b1:x<z
    ·rw [if_pos b1];omega
    ·by_cases b2:z<x
     ·rw [if_neg b1,if_pos b2] at h2;omega
     ·rw [if_neg b1,if_neg b2] at h2 ⊢;exact zIc r q p h1 h2
def undB (T U:List (List UInt8)):Bool:=decide (U.length<=T.length/\T.drop (T.length-U.length)=U)
theorem und_app (X U:List (List UInt8)):undB (X++U) U=true:=by
 unfold undB;rw[List.length_append];refine decide_eq_true ⟨by omega,?_⟩;rw[show X.length+U.length-U.length=X.length by omega,List.drop_left]
open Go.RowKit
structure Rows2 (w:World) (B:Nat) (vs:List Value) (L:List (List P2)):Prop where
 len:vs.length=L.length
 each:∀(i:Nat) (p:List P2),L[i]?=some p->∃A c,vs[i]?=some (.slice A p.length c)/\Has w B 2 A p.length (prs p)
theorem Rows2.nil (w:World) (B:Nat):Rows2 w B [] []:=⟨rfl,fun i p h=>by simp at h⟩
theorem Rows2.below {w w':World} {B:Nat} {vs:List Value} {L:List (List P2)} (h:Rows2 w B vs L) (hb:Below B w w'):Rows2 w' B vs L:=
 ⟨h.len,fun i p hp=>by obtain⟨A,c,h1,h2⟩:=h.each i p hp;exact⟨A,c,h1,h2.below hb⟩⟩
theorem Rows2.upto {w:World} {B B':Nat} {vs:List Value} {L:List (List P2)} (h:Rows2 w B vs L) (hB:B<=B'):Rows2 w B' vs L:=
 ⟨h.len,fun i p hp=>by obtain⟨A,c,h1,h2⟩:=h.each i p hp;exact⟨A,c,h1,h2.upto hB⟩⟩
theorem Rows2.grow {w w':World} {vs:List Value} {L:List (List P2)} (h:Rows2 w w.heap.size vs L) (hb:Below w.heap.size w w'):Rows2 w' w'.heap.size vs L:=(h.below hb).upto hb.size
theorem Rows2.snoc {w:World} {B:Nat} {vs:List Value} {L:List (List P2)} (h:Rows2 w B vs L) {A:Option Addr} {p:List P2} (c:Nat) (hH:Has w B 2 A p.length (prs p)):Rows2 w B (vs++[.slice A p.length c]) (L++[p]):=by
 refine⟨by simp[h.len],fun i q hq=>?_⟩;by_cases hi:i<L.length
 ·rw [List.getElem?_append_left hi] at hq;obtain⟨A',c',h1,h2⟩:=h.each i q hq;exact⟨A',c',by rw[List.getElem?_append_left (by rw[h.len];exact hi)];exact h1,h2⟩
 ·have hi2:i=L.length:=by
   have:=(List.getElem?_eq_some_iff.1 hq).1;simp at this;omega
  subst hi2;simp at hq;subst hq;exact⟨A,c,by rw[List.getElem?_append_right (by rw[h.len];exact Nat.le_refl _),h.len];simp,hH⟩
def OffP (base:Nat) (v:Value) (A:Option Addr) (p:List P2):Prop:=p=[]\/∀ad,A=some ad->base<=ad.block/\some ad.block≠v.ownBlock
structure RowOf (w:World) (base:Nat) (E:TypeId) (v:Value) (vs:List Value) (L:List (List P2)):Prop where
 own:w.ownsRow base E 1 v L.length vs
 rows:Rows2 w w.heap.size vs L
 off:∀(i:Nat) (p:List P2) (A:Option Addr) (c:Nat),L[i]?=some p->vs[i]?=some (.slice A p.length c)->OffP base v A p
theorem zGq {w w':World} {B n:Nat} {row:Option Nat} {A:Option Addr} {p:List P2} (h:Has w B 2 A n (prs p)) (hB:B<=w.heap.size) (hg:w.grownBy w' row) (ho:p=[]\/∀ad,A=some ad->some ad.block≠row):Has w' B 2 A n (prs p):=by
 refine⟨h.1,?_⟩;rcases h.2 with h0 | ⟨ad,rfl,hb,hc⟩
 ·exact .inl h0
 ·rcases ho with rfl | ho
  ·exact .inl rfl
  ·refine .inr ⟨ad,rfl,hb,fun j u hu=>?_⟩;refine (World.cell?_of_block ?_).trans (hc j u hu);rw[zA6];exact hg.block _ (by omega) (ho ad rfl)
theorem zQx {w:World} {B n:Nat} {A:Option Addr} {p:List P2} (h:Has w B 2 A n (prs p)):p=[]\/∀ad,A=some ad->ad.block<B:=by
 rcases h.2 with h0 | ⟨ad,rfl,hb,_⟩
 ·refine .inl ?_;have:=congrArg List.length h0;rw[zBg] at this;simp only[List.length_nil] at this;exact List.eq_nil_of_length_eq_zero (by omega)
 ·exact .inr fun ad' ha=>by obtain rfl:=Option.some.inj ha;exact hb
section
variable {w w':World} {base:Nat} {E:TypeId} {v v':Value} {vs:List Value} {L:List (List P2)}
theorem RowOf.start (h:w.ownsRow base E 1 v 0 []):RowOf w base E v [] []:=⟨h,Rows2.nil _ _,fun i p A c h _=>by simp at h⟩
theorem RowOf.below (h:RowOf w base E v vs L) (hb:Below w.heap.size w w'):RowOf w' base E v vs L:=⟨zAc h.own hb,h.rows.grow hb,h.off⟩
theorem RowOf.set (h:RowOf w base E v vs L) {B0:Nat} (hB:B0<base) (u:Value):RowOf (w.setCell ⟨B0,0,none⟩ u) base E v vs L:=by
 have hg:w.grownBy (w.setCell ⟨B0,0,none⟩ u) (some B0):=⟨rfl,rfl,rfl,by simp[World.setCell],fun k hk hne=>by
  simp only[World.setCell,Array.getElem?_modify]
  rw[if_neg (fun e=>hne (by rw[<-e]))]⟩
 refine⟨h.own.kept hg ?_,⟨h.rows.len,fun i p hp=>?_⟩,h.off⟩
 ·rcases h.own.2 with⟨rfl,_⟩ | ⟨g,cap,cur,rfl,hb,_⟩
  ·exact .inl rfl
  ·exact .inr fun e=>by simp[Value.ownBlock] at e;omega
 ·obtain ⟨A,c,h1,h2⟩:=h.rows.each i p hp;refine⟨A,c,h1,(zGq h2 (Nat.le_refl _) hg ?_).upto hg.size⟩;rcases h.off i p A c hp h1 with h0 | ho
  ·exact .inl h0
  ·exact .inr fun ad ha e=>by have:=(ho ad ha).1;have:=Option.some.inj e;omega
theorem OffP.new {A:Option Addr} {p:List P2} {n:Nat} (ho:w.ownsRow base E 1 v n vs) (hb:base<=w.heap.size) (hl:∀ad,A=some ad->w.heap.size<=ad.block):OffP base v A p:=by
 refine .inr fun ad ha=>?_
 have h1:=hl ad ha;refine⟨by omega,fun e=>?_⟩;rcases ho.2 with⟨rfl,_⟩ | ⟨g,cap,cur,rfl,_,hh,_⟩
 ·cases e
 ·have:ad.block=g:=by simpa[Value.ownBlock] using e
  have hlt:g<w.heap.size:=(Array.getElem?_eq_some_iff.1 hh).1;omega
theorem OffP.row {A:Option Addr} {p:List P2} (h:OffP base v A p):p=[]\/∀ad,A=some ad->some ad.block≠v.ownBlock:=h.imp id fun h ad ha=>(h ad ha).2
theorem RowOf.snoc (h:RowOf w base E v vs L) {A:Option Addr} {c:Nat} {p:List P2} (hH:Has w w.heap.size 2 A p.length (prs p)) (ho:OffP base v A p)
  (hown:w'.ownsRow base E 1 v' (L.length+1) (vs++[.slice A p.length c])) (hg:w.grownBy w' v.ownBlock) (ht:v'.ownBlock=v.ownBlock\/v'.ownBlock=some w.heap.size):
  RowOf w' base E v' (vs++[.slice A p.length c]) (L++[p]):=by
 have next:∀(q:List P2) (A':Option Addr),OffP base v A' q->Has w w.heap.size 2 A' q.length (prs q)->OffP base v' A' q:=by
  intro q A' hq hA;rcases hq with hq | hq
  ·exact .inl hq
  ·rcases ht with ht | ht
   ·exact .inr fun ad ha=>by rw[ht];exact hq ad ha
   ·rcases zQx hA with h0 | hlt
    ·exact .inl h0
    ·refine .inr fun ad ha=>⟨(hq ad ha).1,fun e=>?_⟩
     rw[ht] at e;have:=hlt ad ha;have:=Option.some.inj e;omega
 have keepR:Rows2 w' w.heap.size vs L:=⟨h.rows.len,fun i q hq=>by
  obtain⟨A',c',h1,h2⟩:=h.rows.each i q hq
  exact⟨A',c',h1,zGq h2 (Nat.le_refl _) hg (h.off i q A' c' hq h1).row⟩⟩
 refine⟨by rw[List.length_append];exact hown,(keepR.upto hg.size).snoc c ((zGq hH (Nat.le_refl _) hg ho.row).upto hg.size),fun i q A' c' hq hv=>?_⟩;by_cases hi:i<L.length
 ·rw [List.getElem?_append_left hi] at hq;rw[List.getElem?_append_left (by rw[h.rows.len];exact hi)] at hv;obtain⟨A2,c2,h1,h2⟩:=h.rows.each i q hq;rw[hv] at h1;cases h1;exact next q A' (h.off i q A' c' hq hv) h2
 ·have hi2:i=L.length:=by
   have:=(List.getElem?_eq_some_iff.1 hq).1;simp at this;omega
  subst hi2;simp at hq;subst hq;rw[List.getElem?_append_right (by rw[h.rows.len];exact Nat.le_refl _),h.rows.len] at hv;simp at hv;obtain⟨rfl,_⟩:=hv;exact next p A ho hH
end
theorem appR {ops:Array Oper} {rest:List Oper} {o:Oper} {a:Act} {Q:Exit->Act->World->Prop} (W:World) (t e:TypeId) (z:Value) (size bytes:Nat) (hu:Tryz.prog.underlying t=some (.slice e))
  (hinf:(Tryz.prog.info? e).map (fun i=>(i.zero,i.size,i.bytes))=some (some z,size,bytes)) (hzs:z.cells.size=size) (hsz:0<size) (h32:bytes<=32)
  (hgd:o.guard=none) (s x:Operand)
  (ho:o.op=.call { callee:=.builtin .append,args:=#[s,x],argTypes:=#[t,t] })
  (base:Nat) (v:Value) (n:Nat) (xs:List Value) (hs:a.eval s=v) (hown:W.ownsRow base e size v n xs)
  (B:Nat) (A:Option Addr) (m c:Nat) (l:List Value) (hx:a.eval x=.slice A m c) (hr:Has W B size A m l) (h1:∀u∈l,u.oneCell'=true) (N:Nat) (ys:List Value) (hN:Hid (n+m=N)) (hys:Hid (xs++l=ys))
  (hb:n+m<=10000000) (hbase:base<=W.heap.size)
  (h:∀v' w',w'.ownsRow base e size v' N ys->Below base W w'->W.grownBy w' v.ownBlock->(v'.ownBlock=v.ownBlock\/v'.ownBlock=some W.heap.size)->wpList Tryz.prog ops Q rest (a.put o.dst v') w'):
  wpList Tryz.prog ops Q (o::rest) a W:=by
 obtain⟨i0,hi,hz0,hz1,hz2⟩:=info_parts hinf;have hbb:(n+m)*bytes<=140737488355328:=Nat.le_trans (Nat.mul_le_mul hb h32) (by omega);refine zCc W hgd s x t ho base e i0 z size bytes hu hi hz0 hz1 hz2 hzs hsz v n xs hs hown B A m c l hx hr h1 (by unfold maxLen;omega) hbb hbase ?_;intro v' w' h1 h2 h3;rw[hN.out,hys.out] at h1;exact h v' w' h1 (zA0 hown h2 hbase) h2 h3
theorem infoRA:(Tryz.prog.info? 130).map (fun i=>(i.zero,i.size,i.bytes))=some (some (.slice none 0 0),1,24):=by kernel_rfl
theorem infoRB:(Tryz.prog.info? 116).map (fun i=>(i.zero,i.size,i.bytes))=some (some (.slice none 0 0),1,24):=by kernel_rfl
theorem lit1 (w:World) (u:Value) (e:TypeId):(w.alloc (.cells #[u] e)).ownsRow w.heap.size e 1 (.slice (some ⟨w.heap.size,0,none⟩) 1 1) 1 [u]:=
 zDu w #[u] e 1 (by unfold maxLen;omega) rfl
structure TextsPost (R:Option (List (List UInt8)) × Int) (w:World) (e:Ending) (w':World):Prop where
 out:∃A n c,e=.returned (.tuple #[.slice A n c,.int .i64 R.2])/\n=(R.1.getD []).length/\w'.ownsRow w.heap.size 9 1 (.slice A n c) n (strs (R.1.getD []))/\Below w.heap.size w w'
theorem zFm (x:Int) (w w':World) (hb:Below w.heap.size w w'):TextsPost (none,x) w (.returned (.tuple #[.slice none 0 0,.int .i64 x])) w':=⟨none,0,0,rfl,rfl,⟨rfl,.inl ⟨rfl,rfl⟩⟩,hb⟩
theorem makeR (w:World) (n:Nat) (hn:n<=1000000):
  ∃w',(Instr.makeSlice 153 (.int .i64 0) (.int .i64 (n:Int))).run Tryz.prog w=.ok (.slice (some ⟨w.heap.size,0,none⟩) 0 n) w'/\
   w'.ownsRow w.heap.size 130 1 (.slice (some ⟨w.heap.size,0,none⟩) 0 n) 0 []/\Below w.heap.size w w':=by
 obtain⟨i0,hi,hz0,hz1,hz2⟩:=info_parts infoRA;obtain⟨w',h1,h2,h3⟩:=run_make_own (P:=Tryz.prog) w w.heap.size 153 130 i0 (.slice none 0 0) 1 Tryz.underlying153 hi hz0 hz1 .i64 .i64 n (by rw[hz2];omega) (by unfold maxLen;omega) (Nat.le_refl _);exact⟨w',h1,h2,(Below.refl _ _).grown h3 (Nat.le_refl _) (fun g hg=>by cases hg)⟩
theorem makeS (w:World) (n:Nat) (hn:n<=1000000):
  ∃w',(Instr.makeSlice 43 (.int .i64 0) (.int .i64 (n:Int))).run Tryz.prog w=.ok (.slice (some ⟨w.heap.size,0,none⟩) 0 n) w'/\
   w'.ownsRow w.heap.size 9 1 (.slice (some ⟨w.heap.size,0,none⟩) 0 n) 0 (strs [])/\Below w.heap.size w w':=by
 obtain⟨i0,hi,hz0,hz1,hz2⟩:=info_parts infoS;obtain⟨w',h1,h2,h3⟩:=run_make_own (P:=Tryz.prog) w w.heap.size 43 9 i0 (.string .empty) 1 Tryz.underlying43 hi hz0 hz1 .i64 .i64 n (by rw[hz2];omega) (by unfold maxLen;omega) (Nat.le_refl _);exact⟨w',h1,h2,(Below.refl _ _).grown h3 (Nat.le_refl _) (fun g hg=>by cases hg)⟩
structure Nx (w:World) (B:Nat) (v:Value):Prop where
 c0:w.cell? ⟨B,0,none⟩=some v
 lt:B<w.heap.size
 f0:w.frozen? ⟨B,0,none⟩=false
theorem Nx.below {w w':World} {B D:Nat} {v:Value} (h:Nx w B v) (hD:B<D) (hb:Below D w w'):Nx w' B v:=
 ⟨(hb.cell (p:=⟨B,0,none⟩) hD).trans h.c0,Nat.lt_of_lt_of_le h.lt hb.size,(hb.frozen (p:=⟨B,0,none⟩) hD).trans h.f0⟩
theorem Nx.new (w:World) (v:Value) (e:TypeId):Nx (w.alloc (.cells #[v] e)) w.heap.size v:=
 ⟨by rw[World.cell?_alloc_at (hn:=by simp)];rfl,by simp,World.frozen?_alloc_at _ _ _ _ rfl⟩
structure NamePost (R:Option (List (List P2)) × Int) (w:World) (e:Ending) (w':World):Prop where
 out:∃A c vs,e=.returned (.tuple #[.agg #[.slice A (R.1.getD []).length c],.int .i64 R.2])/\Has w' w'.heap.size 1 A (R.1.getD []).length vs/\Rows2 w' w'.heap.size vs (R.1.getD [])/\Below w.heap.size w w'
structure RefPost (R:Option (List (List P2)) × Int) (w:World) (e:Ending) (w':World):Prop where
 out:∃A c vs,e=.returned (.tuple #[.slice A (R.1.getD []).length c,.int .i64 R.2])/\Has w' w'.heap.size 1 A (R.1.getD []).length vs/\Rows2 w' w'.heap.size vs (R.1.getD [])/\Below w.heap.size w w'
structure NamePostL (R:Option (List (List P2)) × Int) (w:World) (e:Ending) (w':World):Prop where
 out:∃A c vs,e=.returned (.tuple #[.agg #[.slice A (R.1.getD []).length c],.int .i64 R.2])/\Has w' w'.heap.size 1 A (R.1.getD []).length vs/\Rows2 w' w'.heap.size vs (R.1.getD [])/\Below w.heap.size w w'/\∀(i:Nat) (p:List P2) (A':Option Addr) (c':Nat),(R.1.getD [])[i]?=some p->vs[i]?=some (.slice A' p.length c')->p=[]\/∀ad,A'=some ad->w.heap.size<=ad.block
theorem NamePostL.post {R:Option (List (List P2)) × Int} {w w':World} {e:Ending} (h:NamePostL R w e w'):NamePost R w e w':=by
 obtain⟨A,c,vs,h1,h2,h3,h4,_⟩:=h.out;exact⟨A,c,vs,h1,h2,h3,h4⟩
theorem zIm (x:Int) (w w':World) (hb:Below w.heap.size w w'):NamePostL (none,x) w (.returned (.tuple #[.agg #[.slice none 0 0],.int .i64 x])) w':=⟨none,0,[],rfl,Has.nil,Rows2.nil _ _,hb,fun i p A c h=>by simp at h⟩
theorem zN4 (w w':World) (hb:Below w.heap.size w w'):NamePostL (some [],0) w (.returned (.tuple #[.agg #[.slice none 0 0],.int .i64 0])) w':=⟨none,0,[],rfl,Has.nil,Rows2.nil _ _,hb,fun i p A c h=>by simp at h⟩
structure RefPostL (R:Option (List (List P2)) × Int) (w:World) (e:Ending) (w':World):Prop where
 out:∃A c vs,e=.returned (.tuple #[.slice A (R.1.getD []).length c,.int .i64 R.2])/\Has w' w'.heap.size 1 A (R.1.getD []).length vs/\Rows2 w' w'.heap.size vs (R.1.getD [])/\Below w.heap.size w w'/\(∀ad,A=some ad->w.heap.size<=ad.block)/\∀(i:Nat) (p:List P2) (A':Option Addr) (c':Nat),(R.1.getD [])[i]?=some p->vs[i]?=some (.slice A' p.length c')->p=[]\/∀ad,A'=some ad->w.heap.size<=ad.block
theorem RefPostL.post {R:Option (List (List P2)) × Int} {w w':World} {e:Ending} (h:RefPostL R w e w'):RefPost R w e w':=by
 obtain⟨A,c,vs,h1,h2,h3,h4,_⟩:=h.out;exact⟨A,c,vs,h1,h2,h3,h4⟩
theorem zMc (x:Int) (w w':World) (hb:Below w.heap.size w w'):RefPostL (none,x) w (.returned (.tuple #[.slice none 0 0,.int .i64 x])) w':=⟨none,0,[],rfl,Has.nil,Rows2.nil _ _,hb,fun ad h=>(by cases h),fun i p A c h=>by simp at h⟩
theorem zQe (w w':World) (hb:Below w.heap.size w w'):RefPostL (some [],0) w (.returned (.tuple #[.slice none 0 0,.int .i64 0])) w':=⟨none,0,[],rfl,Has.nil,Rows2.nil _ _,hb,fun ad h=>(by cases h),fun i p A c h=>by simp at h⟩
theorem own_newA {w:World} {base size n:Nat} {E:TypeId} {A:Option Addr} {m c:Nat} {vs:List Value} (h:w.ownsRow base E size (.slice A m c) n vs):∀ad,A=some ad->base<=ad.block:=by
 intro ad ha;subst ha;rcases h.2 with⟨h1,_⟩ | ⟨g,cap,cur,h1,hg,_⟩
 ·cases h1
 ·cases h1;exact hg
theorem zNn:∀T:List (List UInt8),Lib.join T [44]=joinC T
 | []=>rfl
 | [a]=>Lib.join_one a [44]
 | a::b::r=>by
  have ih:=zNn (b::r);rw[Lib.join_cons] at ih ⊢;rw[joinC,<-ih];simp[Lib.joinTail]
theorem zSq (T:List (List UInt8)) (i:Nat):(joinC (T.take i)).length<=(joinC T).length:=by
 induction T generalizing i with
 | nil=>simp
 | cons a r ih=>
  cases i with
  | zero=>simp[joinC]
  | succ i=>
   have h:=ih i;cases r with
   | nil=>simp
   | cons b s=>
    cases i with
    | zero=>simp only[List.take_succ_cons,List.take_zero,joinC,List.length_append,List.length_cons];omega
    | succ i=>
     rw[List.take_succ_cons,List.take_succ_cons];rw[List.take_succ_cons] at h;simp only[joinC,List.length_append,List.length_cons] at h ⊢;omega
theorem zI5:∀(T:List (List UInt8)) (M:Nat),(∀t∈T,t.length<=M)->(joinC T).length<=(M+1)*T.length
 | [],M,_=>by simp[joinC]
 | [a],M,h=>by have:=h a (by simp);simp only[joinC,List.length_singleton];omega
 | a::b::r,M,h=>by
  have h1:=h a (by simp);have h2:=zI5 (b::r) M fun t ht=>h t (by simp only[List.mem_cons] at ht ⊢;exact Or.inr ht)
  rw[joinC,List.length_append,List.length_cons,List.length_cons,Nat.mul_succ];omega
theorem join_any (w:World) (A:Option Addr) (n c:Nat) (T:List (List UInt8)) (h:Has w w.heap.size 1 A n (strs T)) (hc:n<=c) (hn:n<=10000) (hl:(joinC T).length<=100000000):
  Calls Tryz.prog 127 #[.slice A n c,.string ⟨#[44]⟩] w fun e w'=>e=.returned (.string (txt (joinC T)))/\Below w.heap.size w w':=by
 have hnl:=h.strs_n;by_cases hT:T=[]
 ·subst hT;obtain rfl:n=0:=by simpa using hnl
  refine (Tryz.strings_Join_none A c ⟨#[44]⟩ w).mono ?_;rintro e w' ⟨rfl,rfl⟩;exact⟨rfl,Below.refl _ _⟩
 ·obtain ⟨g,o,rfl,hg,hcell⟩:=h.texts hT;subst hnl;have hmap:(T.map txt).map (·.data.toList)=T:=by
   rw[List.map_map];have:((fun x:ByteArray=>x.data.toList) ∘ txt)=id:=by funext x;exact zAf x
   rw[this,List.map_id]
  have hJ:Lib.join ((T.map txt).map (·.data.toList)) (⟨#[44]⟩:ByteArray).data.toList=joinC T:=by rw[hmap];exact zNn T
  have hcon:=Tryz.strings_Join g o c (T.map txt) ⟨#[44]⟩ w (fun j x hx=>by
   rw[List.getElem?_map] at hx
   cases hj:T[j]? with
   | none=>rw[hj] at hx;cases hx
   | some t=>rw[hj] at hx;obtain rfl:=Option.some.inj hx;exact hcell j t hj) hg (by rw[List.length_map];omega) (by rw[List.length_map];exact hc) (by rw[hJ];omega)
  rw[List.length_map] at hcon;refine hcon.mono ?_;rintro e w' ⟨rfl,hb⟩;refine⟨?_,hb⟩;rw[hJ];rfl
theorem zKm (w:World) (A:Option Addr) (n c:Nat) (T:List (List UInt8)) (h:Has w w.heap.size 1 A n (strs T)) (hc:n<=c) (hn:n<=10000) (hl:(joinC T).length<=100000000):
  Calls Tryz.prog 74 #[.slice A n c] w fun e w'=>e=.returned (.tuple #[.string (txt (fitV T).1),.int .i64 (fitV T).2])/\Below w.heap.size w w':=by
 have hJ:=join_any w A n c T h hc hn hl;have hnl:=h.strs_n;by_cases h12:12<n
 ·have hf:fitV T=([],4):=by unfold fitV;rw[if_pos (Or.inl (by omega))]
  rw[hf];have z1:((12:Int)<(n:Int)):=by omega
  clear hJ hf hnl h hl;go_enter Tryz.func74,Tryz.ntmps74;go_wp2;go_ret2;exact⟨rfl,Below.refl _ _⟩
 ·have z1:¬((12:Int)<(n:Int)):=by omega
  have hsz:(txt (joinC T)).size=(joinC T).length:=zAg _;by_cases h1:1000<(joinC T).length
  ·have hf:fitV T=([],4):=by unfold fitV;rw[if_pos (Or.inr h1)]
   rw[hf];have z2:((1000:Int)<((txt (joinC T)).size:Int)):=by omega
   generalize txt (joinC T)=X at *;clear hf hnl h hl hsz h1;go_enter Tryz.func74,Tryz.ntmps74;go_wp2_with (go_at_call 127;fail);refine hJ.mono ?_;rintro e w1 ⟨rfl,hb⟩;clear hJ;go_wp2;go_ret2;exact⟨rfl,hb⟩
  ·have hf:fitV T=(joinC T,0):=by unfold fitV;rw[if_neg (by omega)]
   rw[hf];have z2:¬((1000:Int)<((txt (joinC T)).size:Int)):=by omega
   simp only;generalize txt (joinC T)=X at *;clear hf hnl h hl hsz h1;go_enter Tryz.func74,Tryz.ntmps74;go_wp2_with (go_at_call 127;fail);refine hJ.mono ?_;rintro e w1 ⟨rfl,hb⟩;clear hJ;go_wp2;go_ret2;exact⟨rfl,hb⟩
theorem zEu (w:World) (A:Option Addr) (n c:Nat) (T:List (List UInt8)) (h:Has w w.heap.size 1 A n (strs T)) (hn:n<=10000) (hl:(joinC T).length<=100000000):
  Calls Tryz.prog 69 #[.slice A n c] w fun e w'=>e=.returned (.string (txt (joinC T)))/\w'=w:=by
 have hnl:=h.strs_n;obtain⟨RV,hRV⟩:∃RV,txt (joinC T)=RV:=⟨_,rfl⟩;rw[hRV];have HRV:=hide hRV;have HL:=hide hnl;have HH:=hide h;have hst:∀i,(txt (joinC (T.take i))).size<=100000000:=fun i=>by rw[zAg];have:=zSq T i;omega
 have HS:=hide hst;clear hRV hnl h hst hl;go_enter Tryz.func69,Tryz.ntmps69;go_wp2
 go_loopg [3,7] n (fun k s3 s7 wx=>∃(i:Nat) (S:ByteArray),i+k=n/\s3=.string S/\s7=.int .i64 (i:Int)/\Hid (S=txt (joinC (T.take i)))/\S.size<=100000000/\wx=w)
 case atStart=>exact⟨0,⟨#[]⟩,by omega,rfl,rfl,hide (by simp[joinC,txt]),by decide,rfl⟩
 case round=>
  obtain⟨i,S,hig,rfl,rfl,hS,hSz,rfl⟩:=hrel;cases gk with
  | zero=>
   obtain rfl:i=n:=by omega
   have hiz:¬((i:Int)<(i:Int)):=by omega
   have hSR:Hid (S=RV):=hide (by rw[hS.out,<-HRV.out,List.take_of_length_le (by rw[HL.out];exact Nat.le_refl _)]);clear hS HL HRV HH HS;go_wp2;go_ret;exact⟨by rw[<-hSR.out];rfl,rfl⟩
  | succ k=>
   have hi:i<n:=by omega
   have hiz:(i:Int)<(n:Int):=by omega
   obtain⟨t,ht⟩:∃t,T[i]?=some t:=⟨_,List.getElem?_eq_getElem (by rw[<-HL.out];exact hi)⟩;obtain⟨g,o,rfl,hg,hcell⟩:=HH.out.texts (fun h=>by rw[h] at ht;simp at ht);have c0:=hcell i t ht;have htk:T.take (i+1)=T.take i++[t]:=by rw[List.take_add_one,ht];rfl
   have hz2:=HS.out (i+1);rw[htk,zEc] at hz2;have htl:T.take i=[]↔i=0:=by
    constructor
    ·intro h;have:=congrArg List.length h;rw[List.length_take] at this;have h2:=HL.out;simp only[List.length_nil] at this;omega
    ·rintro rfl;rfl
   by_cases hi0:i=0
   ·subst hi0;have hz:¬((0:Int)<((0:Nat):Int)):=by omega
    have hSe:=hS.out;have hnx:Hid (S++txt t=txt (joinC (T.take (0+1)))):=hide (by
     rw[htk,zEc,if_pos (htl.2 rfl),hSe]
     simp only[List.take_zero,joinC]
     rw[zA3,List.nil_append])
    rw[if_pos (htl.2 rfl)] at hz2;have c00:wr.cell? ⟨g,o,none⟩=some (.string (txt t)):=by simpa using c0
    have hts:(txt t).size<=100000000:=hz2;have hxs:(S++txt t).size<=100000000:=by rw[hnx.out];exact HS.out 1
    generalize txt t=X at *;clear hS HL HRV HH HS hcell ht htk hz2 htl hSe;go_wp2
    go_roundg k
    case measure=>omega
    case rel=>exact⟨1,S++X,by omega,rfl,by go_num,hnx,hxs,rfl⟩
   ·have hz:((0:Int)<(i:Int)):=by omega
    have hnx:Hid (S++⟨#[44]⟩++txt t=txt (joinC (T.take (i+1)))):=hide (by
     rw[htk,zEc,if_neg (fun h=>hi0 (htl.1 h)),hS.out,show (⟨#[44]⟩:ByteArray)=txt [44] from rfl,zA3,zA3]
     simp)
    rw[if_neg (fun h=>hi0 (htl.1 h))] at hz2;have hts:(txt t).size<=100000000:=by
     rw[zAg] at hz2 ⊢;rw[List.length_append,List.length_cons] at hz2;omega
    have hxs:(S++⟨#[44]⟩++txt t).size<=100000000:=(by rw[hnx.out];exact HS.out (i+1));generalize txt t=X at *;clear hS HL HRV HH HS hcell ht htk hz2 htl;go_wp2
    go_roundg k
    case measure=>omega
    case rel=>exact⟨i+1,S++⟨#[44]⟩++X,by omega,rfl,by go_num,hnx,hxs,rfl⟩
theorem zBw {l:List UInt8} (h:l≠[]):((txt l).toList==[])=false:=by rw[zAb];simpa using h
theorem zIr:((txt ([]:List UInt8)).toList==[])=true:=by rw[zAb];rfl
theorem zKn (l:List UInt8) (hl:l.length<=1000000) (w:World) (hT:TM w):
  Calls Tryz.prog 125 #[.string (txt l)] w (NamePostL (nameV l) w):=by
 have hsz:(txt l).size=l.length:=zAg l;have hN0:=Nx.new w (.slice none 0 0) 155;have hb0:=below1 w (.cells #[.slice none 0 0] 155);have hTw:=hT.below hb0;by_cases h1000:1000<l.length
 ·have e:nameV l=(none,4):=by unfold nameV;rw[if_pos h1000]
  rw[e];have z1:((1000:Int)<((txt l).size:Int)):=by omega
  generalize txt l=s at *;obtain⟨c0,_,f0⟩:=hN0;clear e hsz h1000 hTw hT hl;go_enter Tryz.func125,Tryz.ntmps125;go_wp2
  (try simp only[Exit.inBlock,Exit.then])
  refine bodyPost_ret (v:=.tuple #[.agg #[.slice none 0 0],.int .i64 4]) ?_ rfl (zIm 4 w _ hb0);rw[results_cell_tmp rfl];go_simp
 ·have z1:¬((1000:Int)<((txt l).size:Int)):=by omega
  by_cases hnil:l=[]
  ·subst hnil;have e:nameV []=(some [],0):=by unfold nameV;rw[if_neg h1000,if_pos rfl]
   rw[e];have e0:=zIr;generalize txt []=s at *;obtain⟨c0,_,f0⟩:=hN0;clear e hsz h1000 hTw hT hl;go_enter Tryz.func125,Tryz.ntmps125;go_wp2
   (try simp only[Exit.inBlock,Exit.then])
   refine bodyPost_ret (v:=.tuple #[.agg #[.slice none 0 0],.int .i64 0]) ?_ rfl (zN4 w _ hb0);rw[results_cell_tmp rfl];go_simp
  ·have e0:=zBw hnil;have hSp:=fun w=>zEv (txt l) (by omega) 44 (by decide) w
   simp only[zAf] at hSp;obtain⟨R,hR⟩:∃R,nameV l=R:=⟨_,rfl⟩;rw[hR];obtain⟨ps,hps⟩:∃ps,cuts 44 l=ps:=⟨_,rfl⟩;have hsm:∀p∈ps,p.length<=1000000:=fun p hp=>by rw[<-hps] at hp;have:=zC3 hp;omega
   have hps1:1<=ps.length:=by rw[<-hps];simp[cuts]
   have hRlong:12<ps.length->R=(none,4):=fun h=>by
    rw[<-hR];unfold nameV;rw[if_neg h1000,if_neg hnil,hps,if_pos h]
   have hRno:ps.length<=12->ps.mapM parseP=none->R=(none,2):=fun h hm=>by
    rw[<-hR];unfold nameV;rw[if_neg h1000,if_neg hnil,hps,if_neg (by omega),hm]
   have hRyes:ps.length<=12->∀L,ps.mapM parseP=some L->R=(some L,0):=fun h L hm=>by
    rw[<-hR];unfold nameV;rw[if_neg h1000,if_neg hnil,hps,if_neg (by omega),hm]
   rw[hps] at hSp;have Hsm:=hide hsm;have HLong:=hide hRlong;have HNo:=hide hRno;have HYes:=hide hRyes;generalize txt l=s at *;clear hR hps hsm hRlong hRno hRyes hnil h1000 hsz hl hT;obtain⟨np,hnp⟩:∃np,ps.length=np:=⟨_,rfl⟩;rw[hnp] at hSp hps1 HLong HNo HYes;have Hnp:=hide hnp;clear hnp;by_cases h12:12<np
   ·have hRn:Hid (R=(none,4)):=hide (HLong.out h12);have z3:((12:Int)<(np:Int)):=by omega
    clear HLong HNo HYes Hsm;go_enter Tryz.func125,Tryz.ntmps125;go_wp2_with (go_at_call 75;fail);refine (hSp _).mono ?_;rintro e w1 ⟨v,rfl,hown,hb1⟩;obtain⟨Ap,cp,rfl,_,_⟩:=zAh hown;have hbr:=hb0.trans (hb1.mono hb0.size);obtain⟨c0,_,f0⟩:=hN0.below (by simp) hb1;clear hown hSp hN0 hb1 hTw;go_wp2
    (try simp only[Exit.inBlock,Exit.then])
    have g0:=World.cell?_setCell_same _ _ (.slice none 0 0) c0;have hbe:=hbr.setCell (p:=⟨w.heap.size,0,none⟩) (Nat.le_refl _) (.slice none 0 0);refine bodyPost_ret (v:=.tuple #[.agg #[.slice none 0 0],.int .i64 4]) ?_ rfl (hRn.out ▸ zIm 4 w _ hbe);rw[results_cell_tmp rfl];go_simp
   ·have z3:¬((12:Int)<(np:Int)):=by omega
    have HNo2:=hide (HNo.out (by omega));have HYes2:=hide (HYes.out (by omega));clear HLong HNo HYes;go_enter Tryz.func125,Tryz.ntmps125;go_wp2_with (go_at_call 75;fail);refine (hSp _).mono ?_;rintro e w1 ⟨v,rfl,hown,hb1⟩;obtain⟨Ap,cp,rfl,_,hHp⟩:=zAh hown;obtain⟨g,o,rfl,hg,hcell⟩:=hHp.texts (fun h=>by have:=Hnp.out;rw[h] at this;simp at this;omega);have HC:=hide hcell;have hbw1:=hb0.trans (hb1.mono hb0.size);have hTw1:=hTw.below hb1;have HN1:=hide (hN0.below (by simp) hb1);have hlt1:w.heap.size<w1.heap.size:=by have:=hb1.size;simp at this;omega
    clear hown hSp hHp hcell hN0 hb0 hTw hb1;obtain⟨wm,hmake,hom,hbm⟩:=makeR w1 np (by omega);have hRO:=RowOf.start hom;have HB1:=hide hbm;clear hom hbm;go_wp2
    go_loopg [5,28] np (fun k s5 s28 wx=>∃(i:Nat) (L:List (List P2)) (vs:List Value),i+k=np/\s28=.int .i64 (i:Int)/\Hid ((ps.take i).mapM parseP=some L/\L.length=i)/\RowOf wx w1.heap.size 130 s5 vs L/\Hid (Below w1.heap.size w1 wx))
    case atStart=>exact⟨0,[],[],by omega,rfl,hide ⟨rfl,rfl⟩,hRO,HB1⟩
    case round=>
     obtain⟨i,L,vs,hig,rfl,hM,hro,hB1⟩:=hrel;clear hRO hmake HB1;cases gk with
     | zero=>
      obtain rfl:i=np:=by omega
      have hiz:¬((i:Int)<(i:Int)):=by omega
      have hRy:Hid (R=(some L,0)):=hide (HYes2.out L (by
       have h1:=hM.out.1
       rwa [List.take_of_length_le (by rw[Hnp.out];exact Nat.le_refl _)] at h1))
      have hLn:Hid (L.length=i):=hide hM.out.2;have hbr:=hbw1.trans (hB1.out.mono hbw1.size);obtain⟨c0,_,f0⟩:=HN1.out.below hlt1 hB1.out;obtain⟨A,c,rfl,_,_⟩:=zAh hro.own;clear HNo2 HYes2 hM Hnp Hsm HC HN1 hB1;go_wp2
      (try simp only[Exit.inBlock,Exit.then])
      have g0:=World.cell?_setCell_same _ _ (.slice A L.length c) c0;have hbe:=hbr.setCell (p:=⟨w.heap.size,0,none⟩) (Nat.le_refl _) (.slice A L.length c);have hro2:=hro.set hlt1 (.slice A L.length c);refine bodyPost_ret (v:=.tuple #[.agg #[.slice A L.length c],.int .i64 0]) ?_ rfl (hRy.out ▸ ⟨A,c,vs,rfl,Has.own hro2.own,hro2.rows,hbe,fun j p A' c' hp hv=>(hro2.off j p A' c' hp hv).imp id fun h ad ha=>Nat.le_trans hbw1.size (h ad ha).1⟩);rw[results_cell_tmp rfl];go_simp
     | succ k=>
      have hi:i<np:=(by omega);have hiz:(i:Int)<(np:Int):=(by omega);have hbr:=hbw1.trans (hB1.out.mono hbw1.size);obtain⟨p,hp⟩:∃p,ps[i]?=some p:=⟨_,List.getElem?_eq_getElem (by rw[Hnp.out];exact hi)⟩;have cp0:=(hB1.out.cell (p:=⟨g,o+i,none⟩) hg).trans (HC.out i p hp);have hP:=fun w hT=>zOw (txt p) (by rw[zAg];exact Hsm.out p (List.mem_of_getElem? hp)) w hT
      simp only[zAf] at hP;have hTr:=hTw1.below hB1.out;have Hp:=hide hp;clear hp HC;generalize txt p=U at *;cases hq:parseP p with
      | none=>
       have hRn:Hid (R=(none,2)):=hide (HNo2.out (zCs (List.mem_of_getElem? Hp.out) hq));rw[hq] at hP;clear hq HNo2 HYes2 hM Hnp Hsm Hp hro;go_wp2_with (go_at_call 134;fail);refine (hP _ hTr).mono ?_;rintro e w3 hpost;obtain⟨A3,n3,c3,rfl,hn3,_,hb3,_⟩:=hpost.out;have hbr3:=hbr.trans (hb3.mono hbr.size);obtain⟨c0,_,f0⟩:=HN1.out.below hlt1 (hB1.out.trans (hb3.mono hB1.out.size));clear hb3 hbr hP cp0 hB1 hpost hTr HN1;go_wp2
       (try simp only[Exit.inBlock,Exit.then])
       have g0:=World.cell?_setCell_same _ _ (.slice none 0 0) c0;have hbe:=hbr3.setCell (p:=⟨w.heap.size,0,none⟩) (Nat.le_refl _) (.slice none 0 0);refine bodyPost_ret (v:=.tuple #[.agg #[.slice none 0 0],.int .i64 2]) ?_ rfl (hRn.out ▸ zIm 2 w _ hbe);rw[results_cell_tmp rfl];go_simp
      | some a=>
       have hM2:Hid ((ps.take (i+1)).mapM parseP=some (L++[a])/\(L++[a]).length=i+1):=hide ⟨zCt Hp.out hM.out.1 hq,by rw[List.length_append,hM.out.2];rfl⟩;have hLi:Hid (L.length=i):=hide hM.out.2;rw[hq] at hP;clear hq hM Hp;go_wp2_with (go_at_call 134;fail);refine (hP _ hTr).mono ?_;rintro e w3 hpost;obtain⟨A3,n3,c3,rfl,hn3,hH3,hb3,hlo⟩:=hpost.out;obtain rfl:n3=a.length:=hn3;have hoff:=OffP.new (p:=a) hro.own hB1.out.size hlo;have hro3:=hro.below hb3;have hB3:=hTz hB1 hb3;clear hb3 hbr hP cp0 hro hB1 hpost hTr hlo;have hone:=lit1 w3 (.slice A3 a.length c3) 130;have hH1:=Has.own hone;have hba:=below1 w3 (.cells #[.slice A3 a.length c3] 130);have hro4:=hro3.below hba;have hH4:=(hH3.below hba).upto hba.size;have hB4:=hTz hB3 hba;have hs4:=hB4.out.size;have h1c:∀u∈[Value.slice A3 a.length c3],u.oneCell'=true:=by simp[Value.oneCell']
       have hown4:=hro4.own;have HO4:=hide hro4;have HA4:=hide hH4;have HF:=hide hoff;obtain⟨N6,hN⟩:∃N6,L.length+1=N6:=⟨_,rfl⟩;replace hN:=hide hN;obtain⟨ys,hys⟩:∃ys,vs++[.slice A3 a.length c3]=ys:=⟨_,rfl⟩;replace hys:=hide hys;have hLs:L.length+1<=10000000:=by rw[hLi.out];omega
       clear hone hro3 hH3 hba hB3 hro4 hH4 hoff;go_wp2_with (at_builtin;go_must (refine appR _ 153 130 _ 1 24 Tryz.underlying153 infoRA rfl (by omega) (by omega) rfl (.tmp 40) (.tmp 42) rfl w1.heap.size _ L.length vs rfl hown4 _ _ 1 1 [.slice A3 a.length c3] rfl hH1 h1c N6 ys hN hys hLs hs4 ?_));intro v' w6 hor6 hb6 hg6 ht6;have hro6:RowOf w6 w1.heap.size 130 v' ys (L++[a]):=by
        have hor:=hor6;rw[<-hys.out,<-hN.out] at hor;rw[<-hys.out];exact HO4.out.snoc HA4.out HF.out hor hg6 (by simpa using ht6)
       have hB6:=hide (hB4.out.trans hb6);clear hown4 hB4 hs4 hH1 hb6 hg6 ht6 h1c hor6 HO4 HA4 HF hys hN hLs hLi;go_wp2
       go_roundg k
       case measure=>omega
       case rel=>exact⟨i+1,L++[a],ys,by omega,by go_num,hM2,hro6,hB6⟩
theorem zRt (l:List UInt8) (hl:l.length<=1000000) (w:World) (hT:TM w):
  Calls Tryz.prog 125 #[.string (txt l)] w (NamePost (nameV l) w):=(zKn l hl w hT).mono fun e w' h=>h.post
theorem zP2 (l:List UInt8) (hl:l.length<=1000000) (w:World) (hT:TM w):
  Calls Tryz.prog 120 #[.string (txt l)] w (RefPostL (nameV l) w):=by
 have hsz:(txt l).size=l.length:=zAg l;by_cases h1000:1000<l.length
 ·have e:nameV l=(none,4):=by unfold nameV;rw[if_pos h1000]
  rw[e];have z1:((1000:Int)<((txt l).size:Int)):=by omega
  generalize txt l=s at *;clear e hsz h1000 hT hl;go_enter Tryz.func120,Tryz.ntmps120;go_wp2;go_ret2;exact zMc 4 w w (Below.refl _ _)
 ·have z1:¬((1000:Int)<((txt l).size:Int)):=by omega
  by_cases hnil:l=[]
  ·subst hnil;have e:nameV []=(some [],0):=by unfold nameV;rw[if_neg h1000,if_pos rfl]
   rw[e];have e0:=zIr;generalize txt []=s at *;clear e hsz h1000 hT hl;go_enter Tryz.func120,Tryz.ntmps120;go_wp2;go_ret2;exact zQe w w (Below.refl _ _)
  ·have e0:=zBw hnil;have hSp:=fun w=>zHj (txt l) (by omega) 44 (by decide) w
   simp only[zAf] at hSp;obtain⟨R,hR⟩:∃R,nameV l=R:=⟨_,rfl⟩;rw[hR];obtain⟨ps,hps⟩:∃ps,cuts 44 l=ps:=⟨_,rfl⟩;have hsm:∀p∈ps,p.length<=1000000:=fun p hp=>by rw[<-hps] at hp;have:=zC3 hp;omega
   have hps1:1<=ps.length:=by rw[<-hps];simp[cuts]
   have hRlong:12<ps.length->R=(none,4):=fun h=>by
    rw[<-hR];unfold nameV;rw[if_neg h1000,if_neg hnil,hps,if_pos h]
   have hRno:ps.length<=12->ps.mapM parseP=none->R=(none,2):=fun h hm=>by
    rw[<-hR];unfold nameV;rw[if_neg h1000,if_neg hnil,hps,if_neg (by omega),hm]
   have hRyes:ps.length<=12->∀L,ps.mapM parseP=some L->R=(some L,0):=fun h L hm=>by
    rw[<-hR];unfold nameV;rw[if_neg h1000,if_neg hnil,hps,if_neg (by omega),hm]
   rw[hps] at hSp;have Hsm:=hide hsm;have HLong:=hide hRlong;have HNo:=hide hRno;have HYes:=hide hRyes;generalize txt l=s at *;clear hR hps hsm hRlong hRno hRyes hnil h1000 hsz hl;obtain⟨np,hnp⟩:∃np,ps.length=np:=⟨_,rfl⟩;rw[hnp] at hSp hps1 HLong HNo HYes;have Hnp:=hide hnp;clear hnp;by_cases h12:12<np
   ·have hRn:Hid (R=(none,4)):=hide (HLong.out h12);have z3:((12:Int)<(np:Int)):=by omega
    clear HLong HNo HYes Hsm;go_enter Tryz.func120,Tryz.ntmps120;go_wp2_with (go_at_call 139;fail);refine (hSp _).mono ?_;rintro e w1 ⟨v,rfl,hown,hb1⟩;obtain⟨Ap,cp,rfl,_,_⟩:=zAh hown;clear hown hSp;go_wp2;go_ret2;exact hRn.out ▸ zMc 4 w w1 hb1
   ·have z3:¬((12:Int)<(np:Int)):=by omega
    have HNo2:=hide (HNo.out (by omega));have HYes2:=hide (HYes.out (by omega));clear HLong HNo HYes;go_enter Tryz.func120,Tryz.ntmps120;go_wp2_with (go_at_call 139;fail);refine (hSp _).mono ?_;rintro e w1 ⟨v,rfl,hown,hbw1⟩;obtain⟨Ap,cp,rfl,_,hHp⟩:=zAh hown;obtain⟨g,o,rfl,hg,hcell⟩:=hHp.texts (fun h=>by have:=Hnp.out;rw[h] at this;simp at this;omega);have HC:=hide hcell;have hTw1:=hT.below hbw1;have hRO:=RowOf.start (nil_own w1 w1.heap.size 116 1);clear hown hSp hHp hcell hT;go_wp2
    go_loopg [5,21] np (fun k s5 s21 wx=>∃(i:Nat) (L:List (List P2)) (vs:List Value),i+k=np/\s21=.int .i64 (i:Int)/\Hid ((ps.take i).mapM parseP=some L/\L.length=i)/\RowOf wx w1.heap.size 116 s5 vs L/\Hid (Below w1.heap.size w1 wx))
    case atStart=>exact⟨0,[],[],by omega,rfl,hide ⟨rfl,rfl⟩,hRO,hide (Below.refl _ _)⟩
    case round=>
     obtain⟨i,L,vs,hig,rfl,hM,hro,hB1⟩:=hrel;clear hRO;cases gk with
     | zero=>
      obtain rfl:i=np:=by omega
      have hiz:¬((i:Int)<(i:Int)):=by omega
      have hRy:Hid (R=(some L,0)):=hide (HYes2.out L (by
       have h1:=hM.out.1
       rwa [List.take_of_length_le (by rw[Hnp.out];exact Nat.le_refl _)] at h1))
      have hbr:=hbw1.trans (hB1.out.mono hbw1.size);obtain⟨A,c,rfl,_,_⟩:=zAh hro.own;clear HNo2 HYes2 hM Hnp Hsm HC hB1;go_wp2;go_ret2;exact hRy.out ▸ ⟨A,c,vs,rfl,Has.own hro.own,hro.rows,hbr,fun ad ha=>Nat.le_trans hbw1.size (own_newA hro.own ad ha),fun j p A' c' hp hv=>(hro.off j p A' c' hp hv).imp id fun h ad ha=>Nat.le_trans hbw1.size (h ad ha).1⟩
     | succ k=>
      have hi:i<np:=(by omega);have hiz:(i:Int)<(np:Int):=(by omega);have hbr:=hbw1.trans (hB1.out.mono hbw1.size);obtain⟨p,hp⟩:∃p,ps[i]?=some p:=⟨_,List.getElem?_eq_getElem (by rw[Hnp.out];exact hi)⟩;have cp0:=(hB1.out.cell (p:=⟨g,o+i,none⟩) hg).trans (HC.out i p hp);have hP:=fun w hT=>zO0 (txt p) (by rw[zAg];exact Hsm.out p (List.mem_of_getElem? hp)) w hT
      simp only[zAf] at hP;have hTr:=hTw1.below hB1.out;have Hp:=hide hp;clear hp HC;generalize txt p=U at *;cases hq:parseP p with
      | none=>
       have hRn:Hid (R=(none,2)):=hide (HNo2.out (zCs (List.mem_of_getElem? Hp.out) hq));rw[hq] at hP;clear hq HNo2 HYes2 hM Hnp Hsm Hp hro;go_wp2_with (go_at_call 92;fail);refine (hP _ hTr).mono ?_;rintro e w3 hpost;obtain⟨A3,n3,c3,rfl,hn3,_,hb3,_⟩:=hpost.out;have hbr3:=hbr.trans (hb3.mono hbr.size);clear hb3 hbr hP cp0 hB1 hpost hTr;go_wp2;go_ret2;exact hRn.out ▸ zMc 2 w _ hbr3
      | some a=>
       have hM2:Hid ((ps.take (i+1)).mapM parseP=some (L++[a])/\(L++[a]).length=i+1):=hide ⟨zCt Hp.out hM.out.1 hq,by rw[List.length_append,hM.out.2];rfl⟩;have hLi:Hid (L.length=i):=hide hM.out.2;rw[hq] at hP;clear hq hM Hp;go_wp2_with (go_at_call 92;fail);refine (hP _ hTr).mono ?_;rintro e w3 hpost;obtain⟨A3,n3,c3,rfl,hn3,hH3,hb3,hlo⟩:=hpost.out;obtain rfl:n3=a.length:=hn3;have hoff:=OffP.new (p:=a) hro.own hB1.out.size hlo;have hro3:=hro.below hb3;have hB3:=hTz hB1 hb3;clear hb3 hbr hP cp0 hro hB1 hpost hTr hlo;have hone:=lit1 w3 (.slice A3 a.length c3) 116;have hH1:=Has.own hone;have hba:=below1 w3 (.cells #[.slice A3 a.length c3] 116);have hro4:=hro3.below hba;have hH4:=(hH3.below hba).upto hba.size;have hB4:=hTz hB3 hba;have hs4:=hB4.out.size;have h1c:∀u∈[Value.slice A3 a.length c3],u.oneCell'=true:=by simp[Value.oneCell']
       have hown4:=hro4.own;have HO4:=hide hro4;have HA4:=hide hH4;have HF:=hide hoff;obtain⟨N6,hN⟩:∃N6,L.length+1=N6:=⟨_,rfl⟩;replace hN:=hide hN;obtain⟨ys,hys⟩:∃ys,vs++[.slice A3 a.length c3]=ys:=⟨_,rfl⟩;replace hys:=hide hys;have hLs:L.length+1<=10000000:=by rw[hLi.out];omega
       clear hone hro3 hH3 hba hB3 hro4 hH4 hoff;go_wp2_with (at_builtin;go_must (refine appR _ 146 116 _ 1 24 Tryz.underlying146 infoRB rfl (by omega) (by omega) rfl (.tmp 35) (.tmp 37) rfl w1.heap.size _ L.length vs rfl hown4 _ _ 1 1 [.slice A3 a.length c3] rfl hH1 h1c N6 ys hN hys hLs hs4 ?_));intro v' w6 hor6 hb6 hg6 ht6;have hro6:RowOf w6 w1.heap.size 116 v' ys (L++[a]):=by
        have hor:=hor6;rw[<-hys.out,<-hN.out] at hor;rw[<-hys.out];exact HO4.out.snoc HA4.out HF.out hor hg6 (by simpa using ht6)
       have hB6:=hide (hB4.out.trans hb6);clear hown4 hB4 hs4 hH1 hb6 hg6 ht6 h1c hor6 HO4 HA4 HF hys hN hLs hLi;go_wp2
       go_roundg k
       case measure=>omega
       case rel=>exact⟨i+1,L++[a],ys,by omega,by go_num,hM2,hro6,hB6⟩
theorem zI2 (l:List UInt8) (hl:l.length<=1000000) (w:World) (hT:TM w):
  Calls Tryz.prog 120 #[.string (txt l)] w (RefPost (nameV l) w):=(zP2 l hl w hT).mono fun e w' h=>h.post
structure NormOf (p:List P2) (m:Nat):Prop where
 len:(normP p).length=m
 le:m<=3
 ok:PartOk (normP p)
 own:m<=10000
 small:∀a∈normP p,a.1.length<=1000000/\a.2.length<=1000000
theorem zR8 {p:List P2} (hp:PartOk p):∃m,NormOf p m:=by
 obtain⟨hp2,_⟩:=zEh hp;exact⟨_,rfl,hp2.le,hp2,by have:=hp2.le;omega,fun a ha=>by have:=(hp2.each a ha).small;omega⟩
theorem zHg {p:List P2} (hp:PartOk p):∀a∈p,a.1.length<=1000000/\a.2.length<=1000000:=fun a ha=>by have:=(hp.each a ha).small;omega
theorem pnorm_of (p:List P2) (hp:PartOk p) (m:Nat) (hm:NormOf p m) (w:World) (A:Option Addr) (n c:Nat) (h:Has w w.heap.size 2 A n (prs p)) (hT:TT w):
  Calls Tryz.prog 168 #[.slice A n c] w fun e w'=>∃A' c',e=.returned (.tuple #[.slice A' m c',.int .i64 0])/\Has w' w'.heap.size 2 A' m (prs (normP p))/\Below w.heap.size w w':=by
 have hnl:=h.pairs_n;have hNo:=zLz w A n c p h (by have:=hp.le;omega) (fun a ha=>(zHg hp a ha).2) hT;rw[zD5 hp] at hNo;refine hNo.mono ?_;rintro e w' hpost;obtain⟨v,rfl,hown,hb⟩:=hpost.out;obtain⟨A',c',rfl,_,hH⟩:=zAh hown;simp only[Option.getD_some,hm.len] at hH;exact⟨A',c',by simp[hm.len],hH,hb⟩
theorem rnorm_of (p:List P2) (hp:PartOk p) (m:Nat) (hm:NormOf p m) (w:World) (A:Option Addr) (n c:Nat) (h:Has w w.heap.size 2 A n (prs p)) (hT:TT w):
  Calls Tryz.prog 121 #[.slice A n c] w fun e w'=>∃A' c',e=.returned (.tuple #[.slice A' m c',.int .i64 0])/\Has w' w'.heap.size 2 A' m (prs (normP p))/\Below w.heap.size w w':=by
 have hnl:=h.pairs_n;have hNo:=zJy w A n c p h (by have:=hp.le;omega) (zHg hp) hT;rw[zD5 hp] at hNo;refine hNo.mono ?_;rintro e w' hpost;obtain⟨v,rfl,hown,hb⟩:=hpost.out;obtain⟨A',c',rfl,_,hH⟩:=zAh hown;simp only[Option.getD_some,hm.len] at hH;exact⟨A',c',by simp[hm.len],hH,hb⟩
theorem zRi (p:List P2) (m:Nat) (hm:NormOf p m) (w:World) (A:Option Addr) (c:Nat) (h:Has w w.heap.size 2 A m (prs (normP p))) (hT:TT w):
  Calls Tryz.prog 169 #[.slice A m c] w fun e w'=>e=.returned (.tuple #[.string (txt (ptx p)),.int .i64 0])/\Below w.heap.size w w':=by
 have:=zOg w A m c (normP p) h hm.own (fun a ha=>(hm.small a ha).2) hT;rw[zIa hm.ok] at this;exact this
theorem zSg (p:List P2) (m:Nat) (hm:NormOf p m) (w:World) (A:Option Addr) (c:Nat) (h:Has w w.heap.size 2 A m (prs (normP p))) (hT:TT w):
  Calls Tryz.prog 122 #[.slice A m c] w fun e w'=>e=.returned (.tuple #[.string (txt (ptx p)),.int .i64 0])/\Below w.heap.size w w':=by
 have:=zPd w A m c (normP p) h hm.own hm.small hT;rw[zIa hm.ok] at this;exact this
theorem zI0 (p:List P2) (hp:PartOk p) (w:World) (A:Option Addr) (n c:Nat) (h:Has w w.heap.size 2 A n (prs p)) (hT:TT w):
  Calls Tryz.prog 126 #[.slice A n c] w fun e w'=>e=.returned (.string (txt (ptx p)))/\Below w.heap.size w w':=by
 obtain⟨m,hm⟩:=zR8 hp;have hNo:=pnorm_of p hp m hm w A n c h hT;have hPr:=fun w A c h hT=>zRi p m hm w A c h hT
 generalize txt (ptx p)=X at *;have HM:=hide hm;clear hm h;go_enter Tryz.func126,Tryz.ntmps126;go_wp2_with (go_at_call 168;fail);refine hNo.mono ?_;rintro e w1 ⟨A1,c1,rfl,hH1,hb1⟩;clear hNo;have hP1:=hPr w1 A1 c1 hH1 (hT.below hb1);clear hPr hH1;go_wp2_with (go_at_call 169;fail);refine hP1.mono ?_;rintro e w2 ⟨rfl,hb2⟩;have hb:=hb1.trans (hb2.mono hb1.size);clear hP1 hb1 hb2;go_wp2;go_ret;exact⟨rfl,hb⟩
theorem zHr {e:Int} (h:e=2\/e=4):(e==0)=false/\(e !=0)=true:=by rcases h with rfl | rfl<;>exact⟨rfl,rfl⟩
theorem ptx_len {p:List P2} (hp:PartOk p):(ptx p).length<=2103:=by
 obtain⟨hp2,_⟩:=zEh hp;have h1:=zIf (normP p) hp2.each;have h2:=hp2.le;unfold ptx;omega
structure TextsOf (L:List (List P2)) (T:List (List UInt8)) (n:Nat):Prop where
 map:L.map ptx=T
 len:T.length=n
 lenL:L.length=n
 le:n<=12
 sum:(joinC T).length<=100000
theorem texts_of' {L:List (List P2)} (ho:NameOk L):∃T n,TextsOf L T n:=by
 refine⟨_,_,rfl,rfl,by rw[List.length_map],by rw[List.length_map];exact ho.le,?_⟩;have:=zI5 (L.map ptx) 2103 fun t ht=>by obtain⟨p,hp,rfl⟩:=List.mem_map.1 ht;exact ptx_len (ho.each p hp)
 have h2:=ho.le;rw[List.length_map] at this;omega
theorem TextsOf.at_ {L:List (List P2)} {T:List (List UInt8)} {n i:Nat} {p:List P2} (h:TextsOf L T n) (hp:L[i]?=some p):strs (T.take (i+1))=strs (T.take i)++[.string (txt (ptx p))]:=by
 have ht:T[i]?=some (ptx p):=by rw[<-h.map,List.getElem?_map,hp];rfl
 rw[List.take_add_one,ht,zBh];rfl
theorem zKj {l:List UInt8} {L:List (List P2)} {T:List (List UInt8)} {n:Nat} (hn:nameV l=(some L,0)) (h:TextsOf L T n):
  ((fitV T).2=0->partsV l=(some T,0))/\((fitV T).2≠0->partsV l=(none,(fitV T).2))/\((fitV T).2=0\/(fitV T).2=4):=by
 have h1:partsV l=if 1000<(joinC T).length then (none,4) else (some T,0):=by unfold partsV;rw[hn];simp only;rw[h.map]
 have h2:T.length<=12:=by rw[h.len];exact h.le
 unfold fitV;rw[h1];by_cases h3:1000<(joinC T).length
 ·rw [if_pos h3,if_pos (Or.inr h3)];exact⟨fun h=>(by cases h),fun _=>rfl,Or.inr rfl⟩
 ·rw [if_neg h3,if_neg (by omega)];exact⟨fun _=>rfl,fun h=>absurd rfl h,Or.inl rfl⟩
theorem zHf (l:List UInt8) (hl:l.length<=1000000) (w:World) (hT:TM w):
  Calls Tryz.prog 73 #[.string (txt l)] w (TextsPost (partsV l) w):=by
 have hP:=zRt l hl w hT;generalize hs:txt l=s at *;clear hs;cases hv:nameV l with
 | mk o er=>
  cases o with
  | none=>
   have hpv:partsV l=(none,er):=by unfold partsV;rw[hv]
   obtain⟨e1,e2⟩:=zHr (zEd hv);rw[hpv];rw[hv] at hP;clear hv hpv hl;go_enter Tryz.func73,Tryz.ntmps73;go_wp2_with (go_at_call 125;fail);refine hP.mono ?_;rintro e w1 hpost;obtain⟨A,c,vs,rfl,_,_,hb1⟩:=hpost.out;have hba:=hb1.trans ((below1 w1 (.cells #[.slice A 0 c] 155)).mono hb1.size);clear hpost hP hb1;go_wp2;go_ret2;exact zFm er w _ hba
  | some L=>
   obtain⟨rfl,ho⟩:=zCf hv;obtain⟨T,n,hTo⟩:=texts_of' ho;obtain⟨f1,f2,f3⟩:=zKj hv hTo;obtain⟨R,hR⟩:∃R,partsV l=R:=⟨_,rfl⟩;rw[hR] at f1 f2 ⊢;rw[hv] at hP;have HO:=hide ho;have HTo:=hide hTo;have F1:=hide f1;have F2:=hide f2;have F3:=hide f3;have hn12:=hTo.le;clear hv hl hR ho hTo f1 f2 f3;go_enter Tryz.func73,Tryz.ntmps73;go_wp2_with (go_at_call 125;fail);refine hP.mono ?_;rintro e w1 hpost;obtain⟨A,c,vs,rfl,hA,hRw,hb1⟩:=hpost.out;simp only[Option.getD_some,HTo.out.lenL] at hA hRw ⊢;have hba:=below1 w1 (.cells #[.slice A n c] 155);have hNx:=Nx.new w1 (.slice A n c) 155;have hA2:=hide ((hA.below hba).upto hba.size);have hRw2:=hide (hRw.grow hba);have hbw2:=hb1.trans (hba.mono hb1.size);have hTw2:=hT.below hbw2;obtain⟨c0,hlt,_⟩:=hNx;clear hpost hP hA hRw hb1 hba hT;obtain⟨w2,hw2⟩:∃w2,w1.alloc (.cells #[.slice A n c] 155)=w2:=⟨_,rfl⟩;rw[hw2] at c0 hlt hA2 hRw2 hbw2 hTw2;obtain⟨wm,hmake,hom,hbm⟩:=makeS w2 n (by omega);have hbm0:=hbm;have cm0:=(hbm.cell (p:=⟨w1.heap.size,0,none⟩) hlt).trans c0;have horm:=hom;have HB1:=hide hbm;clear hom hbm hbm0;go_wp2
   go_loopg [6,26] n (fun k s6 s26 wx=>∃i:Nat,i+k=n/\s26=.int .i64 (i:Int)/\wx.ownsRow w2.heap.size 9 1 s6 i (strs (T.take i))/\Hid (Below w2.heap.size w2 wx))
   case atStart=>exact⟨0,by omega,rfl,horm,HB1⟩
   case round=>
    obtain⟨i,hig,rfl,hor,hB1⟩:=hrel;clear horm hmake HB1 cm0 c0 hlt hw2;have hbr:=hbw2.trans (hB1.out.mono hbw2.size);cases gk with
    | zero=>
     obtain rfl:i=n:=by omega
     have hiz:¬((i:Int)<(i:Int)):=(by omega);rw[List.take_of_length_le (by rw[HTo.out.len];exact Nat.le_refl _)] at hor;obtain⟨A5,c5,rfl,hc5,hH5⟩:=zAh hor;have hJ:=zKm wr A5 i c5 T hH5 hc5 (by omega) (by have:=HTo.out.sum;omega);obtain⟨X,hX⟩:∃X,txt (fitV T).1=X:=⟨_,rfl⟩;obtain⟨y,hy⟩:∃y,(fitV T).2=y:=⟨_,rfl⟩;rw[hX,hy] at hJ;rw[hy] at F1 F2 F3;have hor2:=zEf hor hbw2.size;clear hX hy hH5 hA2 hRw2 HO hor;go_wp2_with (go_at_call 74;fail);refine hJ.mono ?_;rintro e w3 ⟨rfl,hb3⟩;have hbr3:=hbr.trans (hb3.mono hbr.size);have hor3:=zAc hor2 hb3;clear hJ hb3 hor2 hbr;rcases F3.out with rfl | rfl
     ·have hRy:Hid (R=(some T,0)):=hide (F1.out rfl);have Hor:=hide hor3;clear F1 F2 F3 hor3;go_wp2;go_ret2;exact hRy.out ▸ ⟨A5,i,c5,rfl,HTo.out.len.symm,Hor.out,hbr3⟩
     ·have hRn:Hid (R=(none,4)):=hide (F2.out (by omega));clear F1 F2 F3 hor3;go_wp2;go_ret2;exact hRn.out ▸ zFm 4 w _ hbr3
    | succ k=>
     have hi:i<n:=(by omega);have hiz:(i:Int)<(n:Int):=(by omega);obtain⟨p,hp⟩:∃p,L[i]?=some p:=⟨_,List.getElem?_eq_getElem (by rw[HTo.out.lenL];exact hi)⟩;obtain⟨Ai,ci,hvi,hHi⟩:=hRw2.out.each i p hp;obtain⟨g,o,rfl,hg,hcell⟩:=hA2.out.lies (by have:=(List.getElem?_eq_some_iff.1 hvi).1;omega);have cv0:=(hB1.out.cell (p:=⟨g,o+i,none⟩) hg).trans (hcell i _ hvi);have hHr:=(hHi.below hB1.out).upto hB1.out.size;have hok:=HO.out.each p (List.mem_of_getElem? hp);have hNP:=zI0 p hok wr Ai p.length ci hHr (hT:=(hTw2.below hB1.out).tt);have htk:=hide (HTo.out.at_ hp);generalize txt (ptx p)=X at *;generalize p.length=m at *;clear hp hvi hHi hcell hHr hok;go_wp2_with (go_at_call 126;fail);refine hNP.mono ?_;rintro e w4 ⟨rfl,hb4⟩;have hor4:=zAc hor hb4;have hB4:=hTz hB1 hb4;clear hNP hor hb4 hbr hB1 cv0;have hone:=litS w4 X;have hH:=Has.own hone;have hor5:=hor4.alloc (.cells #[.string X] 9);have hB5:=hide (hB4.out.alloc hB4.out.size (.cells #[.string X] 9));have hs5:=hB5.out.size;have h1c:∀u∈[Value.string X],u.oneCell'=true:=by simp[Value.oneCell']
     clear hone hor4 hB4;go_wp2_with (at_builtin;go_must (refine appE _ 43 9 _ 1 16 Tryz.underlying43 infoS rfl (by omega) (by omega) rfl (.tmp 30) (.tmp 33) rfl w2.heap.size _ i (strs (T.take i)) rfl hor5 _ _ 1 1 [.string X] rfl hH h1c (by omega) hs5 ?_));intro v' w6 hor6 hb6 _;have hB6:=hide (hB5.out.trans hb6);rw[<-htk.out] at hor6;clear hor5 hB5 hs5 hH hb6 h1c htk;go_wp2
     go_roundg k
     case measure=>omega
     case rel=>exact⟨i+1,by omega,by go_num,hor6,hB6⟩
theorem zEp (l:List UInt8) (hl:l.length<=1000000) (w:World) (hT:TM w):
  Calls Tryz.prog 68 #[.string (txt l)] w (TextsPost (partsV l) w):=by
 have hP:=zI2 l hl w hT;generalize hs:txt l=s at *;clear hs;cases hv:nameV l with
 | mk o er=>
  cases o with
  | none=>
   have hpv:partsV l=(none,er):=by unfold partsV;rw[hv]
   obtain⟨e1,e2⟩:=zHr (zEd hv);rw[hpv];rw[hv] at hP;clear hv hpv hl;go_enter Tryz.func68,Tryz.ntmps68;go_wp2_with (go_at_call 120;fail);refine hP.mono ?_;rintro e w1 hpost;obtain⟨A,c,vs,rfl,_,_,hb1⟩:=hpost.out;clear hpost hP;go_wp2;go_ret2;exact zFm er w _ hb1
  | some L=>
   obtain⟨rfl,ho⟩:=zCf hv;obtain⟨T,n,hTo⟩:=texts_of' ho;obtain⟨f1,f2,f3⟩:=zKj hv hTo;obtain⟨R,hR⟩:∃R,partsV l=R:=⟨_,rfl⟩;have hlong:1000<(joinC T).length->R=(none,4):=fun h=>by
    rw[<-hR];unfold partsV;rw[hv];simp only;rw[hTo.map,if_pos h]
   have hfit:¬1000<(joinC T).length->R=(some T,0):=fun h=>by
    rw[<-hR];unfold partsV;rw[hv];simp only;rw[hTo.map,if_neg h]
   rw[hR];rw[hv] at hP;have HO:=hide ho;have HTo:=hide hTo;have F1:=hide hlong;have F2:=hide hfit;have hn12:=hTo.le;clear hv hl hR ho hTo f1 f2 f3 hlong hfit;go_enter Tryz.func68,Tryz.ntmps68;go_wp2_with (go_at_call 120;fail);refine hP.mono ?_;rintro e w2 hpost;obtain⟨A,c,vs,rfl,hA,hRw,hbw2⟩:=hpost.out;simp only[Option.getD_some,HTo.out.lenL] at hA hRw ⊢;have hA2:=hide hA;have hRw2:=hide hRw;have hTw2:=hT.below hbw2;clear hpost hP hA hRw hT;go_wp2
   go_loopg [6,22] n (fun k s6 s22 wx=>∃i:Nat,i+k=n/\s22=.int .i64 (i:Int)/\wx.ownsRow w2.heap.size 9 1 s6 i (strs (T.take i))/\Hid (Below w2.heap.size w2 wx))
   case atStart=>exact⟨0,by omega,rfl,nil_own _ _ _ _,hide (Below.refl _ _)⟩
   case round=>
    obtain⟨i,hig,rfl,hor,hB1⟩:=hrel;have hbr:=hbw2.trans (hB1.out.mono hbw2.size);cases gk with
    | zero=>
     obtain rfl:i=n:=by omega
     have hiz:¬((i:Int)<(i:Int)):=(by omega);rw[List.take_of_length_le (by rw[HTo.out.len];exact Nat.le_refl _)] at hor;obtain⟨A5,c5,rfl,hc5,hH5⟩:=zAh hor;have hJ:=zEu wr A5 i c5 T hH5 (by omega) (by have:=HTo.out.sum;omega);have hsz:(txt (joinC T)).size=(joinC T).length:=zAg _;have hor2:=zEf hor hbw2.size;have Hor:=hide hor2;by_cases h1000:1000<(joinC T).length
     ·have hRn:Hid (R=(none,4)):=hide (F1.out h1000);have z1:((1000:Int)<((txt (joinC T)).size:Int)):=by omega
      generalize txt (joinC T)=X at *;clear hH5 hA2 hRw2 HO hor F1 F2 hsz h1000 hor2;go_wp2_with (go_at_call 69;fail);refine hJ.mono ?_;rintro e w3 ⟨rfl,hw3⟩;obtain rfl:=hw3.symm;clear hJ hw3;go_wp2;go_ret2;exact hRn.out ▸ zFm 4 w _ hbr
     ·have hRy:Hid (R=(some T,0)):=hide (F2.out h1000);have z1:¬((1000:Int)<((txt (joinC T)).size:Int)):=by omega
      generalize txt (joinC T)=X at *;clear hH5 hA2 hRw2 HO hor F1 F2 hsz h1000 hor2;go_wp2_with (go_at_call 69;fail);refine hJ.mono ?_;rintro e w3 ⟨rfl,hw3⟩;obtain rfl:=hw3.symm;clear hJ hw3;go_wp2;go_ret2;exact hRy.out ▸ ⟨A5,i,c5,rfl,HTo.out.len.symm,Hor.out,hbr⟩
    | succ k=>
     have hi:i<n:=(by omega);have hiz:(i:Int)<(n:Int):=(by omega);obtain⟨p,hp⟩:∃p,L[i]?=some p:=⟨_,List.getElem?_eq_getElem (by rw[HTo.out.lenL];exact hi)⟩;obtain⟨Ai,ci,hvi,hHi⟩:=hRw2.out.each i p hp;obtain⟨g,o,rfl,hg,hcell⟩:=hA2.out.lies (by have:=(List.getElem?_eq_some_iff.1 hvi).1;omega);have cv0:=(hB1.out.cell (p:=⟨g,o+i,none⟩) hg).trans (hcell i _ hvi);have hHr:=(hHi.below hB1.out).upto hB1.out.size;have hok:=HO.out.each p (List.mem_of_getElem? hp);obtain⟨m,hm⟩:=zR8 hok;have hTr:=(hTw2.below hB1.out).tt;have hNP:=rnorm_of p hok m hm wr Ai p.length ci hHr hTr;have hPr:=hide (fun w A c h hT=>zSg p m hm w A c h hT);have htk:=hide (HTo.out.at_ hp);generalize txt (ptx p)=X at *;generalize p.length=mp at *;clear hp hvi hHi hcell hHr hok;have HM:=hide hm;clear hm;go_wp2_with (go_at_call 121;fail);refine hNP.mono ?_;rintro e w3 ⟨A3,c3,rfl,hH3,hb3⟩;have hP3:=hPr.out w3 A3 c3 hH3 (hTr.below hb3);have hor3:=zAc hor hb3;have hB3:=hTz hB1 hb3;clear hNP hor hb3 hbr hB1 cv0 hH3 hPr;go_wp2_with (go_at_call 122;fail);refine hP3.mono ?_;rintro e w4 ⟨rfl,hb4⟩;have hor4:=zAc hor3 hb4;have hB4:=hTz hB3 hb4;clear hP3 hor3 hb4 hB3 hTr;have hone:=litS w4 X;have hH:=Has.own hone;have hor5:=hor4.alloc (.cells #[.string X] 9);have hB5:=hide (hB4.out.alloc hB4.out.size (.cells #[.string X] 9));have hs5:=hB5.out.size;have h1c:∀u∈[Value.string X],u.oneCell'=true:=by simp[Value.oneCell']
     clear hone hor4 hB4;go_wp2_with (at_builtin;go_must (refine appE _ 43 9 _ 1 16 Tryz.underlying43 infoS rfl (by omega) (by omega) rfl (.tmp 38) (.tmp 40) rfl w2.heap.size _ i (strs (T.take i)) rfl hor5 _ _ 1 1 [.string X] rfl hH h1c (by omega) hs5 ?_));intro v' w6 hor6 hb6 _;have hB6:=hide (hB5.out.trans hb6);rw[<-htk.out] at hor6;clear hor5 hB5 hs5 hH hb6 h1c htk;go_wp2
     go_roundg k
     case measure=>omega
     case rel=>exact⟨i+1,by omega,by go_num,hor6,hB6⟩
structure Told (w w':World) (A:Option Addr) (c:Nat) (T:List (List UInt8)) (n:Nat):Prop where
 own:w'.ownsRow w.heap.size 9 1 (.slice A n c) n (strs T)
 has:Has w' w'.heap.size 1 A n (strs T)
 cap:n<=c
theorem zPs {R:Option (List (List UInt8)) × Int} {T:List (List UInt8)} (hR:R=(some T,0)) {w w':World} {e:Ending} (h:TextsPost R w e w'):
  ∃A c,e=.returned (.tuple #[.slice A T.length c,.int .i64 0])/\Told w w' A c T T.length/\Below w.heap.size w w':=by
 subst hR;obtain⟨A,n,c,rfl,hn,hown,hb⟩:=h.out;obtain rfl:n=T.length:=hn;obtain⟨A',c',hv,hc,hH⟩:=zAh hown;cases hv;exact⟨A,c,rfl,⟨hown,hH,hc⟩,hb⟩
theorem zP8 {R:Option (List (List UInt8)) × Int} {er:Int} (hR:R=(none,er)) {w w':World} {e:Ending} (h:TextsPost R w e w'):
  ∃A c,e=.returned (.tuple #[.slice A 0 c,.int .i64 er])/\Below w.heap.size w w':=by
 subst hR;obtain⟨A,n,c,rfl,hn,hown,hb⟩:=h.out;obtain rfl:n=0:=hn;exact⟨A,c,rfl,hb⟩
theorem pp_yes {l:List UInt8} (hl:l.length<=1000000) {T:List (List UInt8)} (h:partsV l=(some T,0)) (w:World) (hT:TM w):
  Calls Tryz.prog 73 #[.string (txt l)] w fun e w'=>∃A c,e=.returned (.tuple #[.slice A T.length c,.int .i64 0])/\Told w w' A c T T.length/\Below w.heap.size w w':=(zHf l hl w hT).mono fun _ _ hp=>zPs h hp
theorem pp_no {l:List UInt8} (hl:l.length<=1000000) {er:Int} (h:partsV l=(none,er)) (w:World) (hT:TM w):
  Calls Tryz.prog 73 #[.string (txt l)] w fun e w'=>∃A c,e=.returned (.tuple #[.slice A 0 c,.int .i64 er])/\Below w.heap.size w w':=(zHf l hl w hT).mono fun _ _ hp=>zP8 h hp
theorem zNf {l:List UInt8} (hl:l.length<=1000000) {T:List (List UInt8)} (h:partsV l=(some T,0)) (w:World) (hT:TM w):
  Calls Tryz.prog 68 #[.string (txt l)] w fun e w'=>∃A c,e=.returned (.tuple #[.slice A T.length c,.int .i64 0])/\Told w w' A c T T.length/\Below w.heap.size w w':=(zEp l hl w hT).mono fun _ _ hp=>zPs h hp
theorem rp_no {l:List UInt8} (hl:l.length<=1000000) {er:Int} (h:partsV l=(none,er)) (w:World) (hT:TM w):
  Calls Tryz.prog 68 #[.string (txt l)] w fun e w'=>∃A c,e=.returned (.tuple #[.slice A 0 c,.int .i64 er])/\Below w.heap.size w w':=(zEp l hl w hT).mono fun _ _ hp=>zP8 h hp
noncomputable def depthV (l:List UInt8):Nat:=((partsV l).1.getD []).length
noncomputable def parentV (l:List UInt8):List UInt8 × Bool:=match (partsV l).1 with
 | some (_::T)=>(joinC T,true)
 | _=>([],false)
theorem zPr {T:List (List UInt8)} (h:TextsOk T):(joinC T).length<=100000000:=by have:=h.len;omega
theorem zBk (l:List UInt8) (hl:l.length<=1000000) (w:World) (hT:TM w):
  Calls Tryz.prog 42 #[.string (txt l)] w fun e w'=>e=.returned (.tuple #[.string (txt (normT l).1),.int .i64 (normT l).2])/\Below w.heap.size w w':=by
 cases pt l with
 | no er he h=>
  have hP:=pp_no hl h w hT;rw[norm_no' h];obtain⟨e1,e2⟩:=zHr he;generalize txt l=s at *;clear h he hl;go_enter Tryz.func42,Tryz.ntmps42;go_wp2_with (go_at_call 73;fail);refine hP.mono ?_;rintro e w1 ⟨A,c,rfl,hb⟩;clear hP;go_wp2;go_ret2;exact⟨rfl,hb⟩
 | ok T ho h=>
  have hP:=pp_yes hl h w hT;rw[norm_yes' h];have hJ:=fun w A c hh hc=>zKm w A T.length c T hh hc (by have:=ho.le;omega) (zPr ho)
  rw[fit_yes ho] at hJ;simp only at hJ ⊢;generalize txt (joinC T)=X at *;generalize hn:T.length=n at *;generalize txt l=s at *;clear h ho hl hn;go_enter Tryz.func42,Tryz.ntmps42;go_wp2_with (go_at_call 73;fail);refine hP.mono ?_;rintro e w1 ⟨A,c,rfl,htold,hb⟩;have hJ1:=hJ w1 A c htold.has htold.cap;clear hP hJ htold;go_wp2_with (go_at_call 74;fail);refine hJ1.mono ?_;rintro e w2 ⟨rfl,hb2⟩;have hb3:=hb.trans (hb2.mono hb.size);clear hJ1 hb hb2;go_wp2;go_ret2;exact⟨rfl,hb3⟩
theorem zBl (l:List UInt8) (hl:l.length<=1000000) (w:World) (hT:TM w):
  Calls Tryz.prog 46 #[.string (txt l)] w fun e w'=>e=.returned (.tuple #[.string (txt (normT l).1),.int .i64 (normT l).2])/\Below w.heap.size w w':=by
 have key:∀(T:List (List UInt8)) (y:Int),(joinC T).length<=100000000->T.length<=10000->normT l=(joinC T,y)->(∀w,TM w->Calls Tryz.prog 68 #[.string (txt l)] w fun e w'=>∃A c,e=.returned (.tuple #[.slice A T.length c,.int .i64 y])/\Has w' w'.heap.size 1 A T.length (strs T)/\Below w.heap.size w w')->
   Calls Tryz.prog 46 #[.string (txt l)] w fun e w'=>e=.returned (.tuple #[.string (txt (normT l).1),.int .i64 (normT l).2])/\Below w.heap.size w w':=by
  intro T y hs hn he hP0;have hP:=hP0 w hT;rw[he];have hJ:=fun w A c hh=>zEu w A T.length c T hh hn hs
  simp only;generalize txt (joinC T)=X at *;generalize hn:T.length=n at *;generalize txt l=s at *;clear hs hn he hP0;go_enter Tryz.func46,Tryz.ntmps46;go_wp2_with (go_at_call 68;fail);refine hP.mono ?_;rintro e w1 ⟨A,c,rfl,hH,hb⟩;have hJ1:=hJ w1 A c hH;clear hP hJ hH;go_wp2_with (go_at_call 69;fail);refine hJ1.mono ?_;rintro e w2 ⟨rfl,hw2⟩;obtain rfl:=hw2.symm;clear hJ1 hw2;go_wp2;go_ret2;exact⟨rfl,hb⟩
 cases pt l with
 | no er he h=>
  refine key [] er (by simp[joinC]) (by simp) (by rw[norm_no' h];rfl) fun w hT=>(rp_no hl h w hT).mono ?_
  rintro e w' ⟨A,c,rfl,hb⟩;exact⟨A,c,rfl,⟨rfl,.inl rfl⟩,hb⟩
 | ok T ho h=>
  refine key T 0 (zPr ho) (by have:=ho.le;omega) (norm_yes' h) fun w hT=>(zNf hl h w hT).mono ?_
  rintro e w' ⟨A,c,rfl,ht,hb⟩;exact⟨A,c,rfl,ht.has,hb⟩
theorem tail_has {w:World} {B g o n c:Nat} {t:List UInt8} {T:List (List UInt8)} (h:Has w B 1 (some ⟨g,o,none⟩) n (strs (t::T))) (hn:n=T.length+1):Has w B 1 (some ⟨g,o+1,none⟩) T.length (strs T):=by
 subst hn;have:=h.from_ (k:=1) (cap:=T.length+2) (by omega) (by omega);rw[if_neg (by omega)] at this;simpa[Addr.add,strs] using this
theorem zF7 (l:List UInt8) (hl:l.length<=1000000) (w:World) (hT:TM w):
  Calls Tryz.prog 34 #[.string (txt l)] w fun e w'=>e=.returned (.tuple #[.string (txt (parentV l).1),.bool (parentV l).2])/\Below w.heap.size w w':=by
 cases pt l with
 | no er he h=>
  have hP:=rp_no hl h w hT;have hd:parentV l=([],false):=by unfold parentV;rw[h]
  rw[hd];obtain⟨e1,e2⟩:=zHr he;generalize txt l=s at *;clear h he hl hd;go_enter Tryz.func34,Tryz.ntmps34;go_wp2_with (go_at_call 68;fail);refine hP.mono ?_;rintro e w1 ⟨A,c,rfl,hb⟩;clear hP;go_wp2;go_ret2;exact⟨rfl,hb⟩
 | ok T ho h=>
  have hP:=zNf hl h w hT;cases T with
  | nil=>
   have hd:parentV l=([],false):=by unfold parentV;rw[h]
   rw[hd];generalize txt l=s at *;simp only[List.length_nil] at hP;clear h ho hl hd;go_enter Tryz.func34,Tryz.ntmps34;go_wp2_with (go_at_call 68;fail);refine hP.mono ?_;rintro e w1 ⟨A,c,rfl,_,hb⟩;clear hP;go_wp2;go_ret2;exact⟨rfl,hb⟩
  | cons t T=>
   have hd:parentV l=(joinC T,true):=by unfold parentV;rw[h]
   rw[hd];have ho2:=ho.tail;have hJ:=fun w A c hh=>zEu w A T.length c T hh (by have:=ho2.le;omega) (zPr ho2)
   simp only at hJ ⊢;simp only[List.length_cons] at hP;generalize txt (joinC T)=X at *;generalize txt l=s at *;obtain⟨n,hn⟩:∃n,T.length=n:=⟨_,rfl⟩;rw[hn] at hP hJ;have Hn:=hide hn;have hn12:n<=12:=by have:=ho2.le;omega
   clear h ho hl hd ho2 hn;go_enter Tryz.func34,Tryz.ntmps34;go_wp2_with (go_at_call 68;fail);refine hP.mono ?_;rintro e w1 ⟨A,c,rfl,ht,hb⟩;obtain⟨g,o,rfl,hg,_⟩:=ht.has.texts (by simp);have hcap:=ht.cap;have hcm:=(zMx ht.own).2;unfold maxLen at hcm;by_cases h1:c=1
   ·subst h1;obtain rfl:n=0:=by omega
    have hJ1:=fun A c=>hJ w1 A c ⟨by rw[show T=[] from List.eq_nil_of_length_eq_zero Hn.out];rfl,.inl (by rw[show T=[] from List.eq_nil_of_length_eq_zero Hn.out];rfl)⟩
    clear hP hJ ht;go_wp2_with (go_at_call 69;fail);refine (hJ1 _ _).mono ?_;rintro e w2 ⟨rfl,hw2⟩;obtain rfl:=hw2.symm;clear hJ1 hw2;go_wp2;go_ret2;exact⟨rfl,hb⟩
   ·have htl:=tail_has (c:=c) ht.has (by rw[Hn.out]);rw[Hn.out] at htl;have hJ1:=hJ w1 _ (c-1) htl;have hz:(1:Int)<=(n:Int)+1:=by omega
    have hz2:(n:Int)+1<=(c:Int):=(by omega);have hz3:(1:Int)<=(c:Int):=(by omega);clear hP hJ ht htl;go_wp2_with (go_at_call 69;fail);refine hJ1.mono ?_;rintro e w2 ⟨rfl,hw2⟩;obtain rfl:=hw2.symm;clear hJ1 hw2;go_wp2;go_ret2;exact⟨rfl,hb⟩
theorem zRs {a b:List UInt8} (h:txt a=txt b):a=b:=by have:=congrArg (fun x:ByteArray=>x.data.toList) h;simpa[txt] using this
theorem zL6 {T U:List (List UInt8)} (h:T.map txt=U.map txt):T=U:=by
 have:=congrArg (List.map fun x:ByteArray=>x.data.toList) h;rw[List.map_map,List.map_map] at this;have e:((fun x:ByteArray=>x.data.toList) ∘ txt)=id:=by funext x;exact zAf x
 rw[e,List.map_id,List.map_id] at this;exact this
theorem zEr {T:List (List UInt8)} {w:World} {g o:Nat} (h:∀(i:Nat) (x:List UInt8),T[i]?=some x->w.cell? ⟨g,o+i,none⟩=some (.string (txt x))):
  ∀j,j<(T.map txt).length->w.cell? ⟨g,o+j,none⟩=some (.string ((T.map txt).getD j ByteArray.empty)):=by
 intro j hj;rw[List.length_map] at hj;rw[h j T[j] (List.getElem?_eq_getElem hj)];simp[List.getD_eq_getElem?_getD,hj]
open Classical in
theorem zSd (w:World) (A B:Option Addr) (n c m d:Nat) (T U:List (List UInt8)) (hA:Has w w.heap.size 1 A n (strs T)) (hB:Has w w.heap.size 1 B m (strs U)) (hn:n<=1000000) (hm:m<=1000000):
  Calls Tryz.prog 77 #[.slice A n c,.slice B m d] w fun e w'=>e=.returned (.bool (decide (T=U)))/\Below w.heap.size w w':=by
 have h1:=hA.strs_n;have h2:=hB.strs_n;by_cases hnm:n=m
 ·by_cases hT:T=[]
  ·subst hT;obtain rfl:n=0:=by simpa using h1
   subst hnm;obtain rfl:U=[]:=List.eq_nil_of_length_eq_zero h2.symm;refine (Tryz.slices_Equal_string_empty A B c 0 d w (by omega)).mono ?_;rintro e w' ⟨rfl,rfl⟩;exact⟨by simp,Below.refl _ _⟩
  ·have hU:U≠[]:=by
    rintro rfl;exact hT (List.eq_nil_of_length_eq_zero (by rw[<-h1,hnm,h2];rfl))
   obtain⟨g1,o1,rfl,_,hc1⟩:=hA.texts hT;obtain⟨g2,o2,rfl,_,hc2⟩:=hB.texts hU;refine (Tryz.slices_Equal_string g1 o1 n c g2 o2 m d (T.map txt) (U.map txt) w (by rw[List.length_map];omega) (by rw[List.length_map];omega) (by omega) (by omega) (zEr hc1) (zEr hc2)).mono ?_;rintro e w' ⟨rfl,q,rfl⟩;refine⟨?_,Below.drewN (Below.refl _ _) q⟩;rw[List.take_of_length_le (by rw[List.length_map];omega),List.take_of_length_le (by rw[List.length_map];omega)];by_cases h:T=U
   ·subst h;simp
   ·have h':¬T.map txt=U.map txt:=fun e=>h (zL6 e)
    rw[decide_eq_false h,decide_eq_false h']
 ·refine (Tryz.slices_Equal_string_lens A B n c m d w hnm).mono ?_;rintro e w' ⟨rfl,rfl⟩;have:¬T=U:=fun h=>hnm (by rw[h1,h2,h])
  exact⟨by rw[decide_eq_false this],Below.refl _ _⟩
theorem take_has {w:World} {B n k:Nat} {A:Option Addr} {T:List (List UInt8)} (h:Has w B 1 A n (strs T)) (hk:k<=n):Has w B 1 A k (strs (T.take k)):=by
 have:=h.first hk
 have hs:(strs T).take (k*1)=strs (T.take k):=by simp[strs]
 rwa [hs] at this
noncomputable def underV (l m:List UInt8):Bool:=match (partsV l).1,(partsV m).1 with
 | some T,some U=>undB T U
 | _,_=>false
open Go.Sort
theorem zOi {w:World} {base g n cap:Nat} {T:List (List UInt8)} (h:w.ownsRow base 9 1 (.slice (some ⟨g,0,none⟩) n cap) n (strs T)):Holds encStr w g 0 T.toArray:=by
 have hn:=h.1;rw[zBe] at hn;rcases h.2 with⟨h0,_⟩ | ⟨g',cap',cur,hv,_,hh,_,_,hsz,_⟩
 ·cases h0
 ·simp only[Value.slice.injEq,Option.some.injEq,Addr.mk.injEq] at hv;obtain⟨⟨rfl,_⟩,_⟩:=hv;intro j hj;simp only[List.size_toArray] at hj;have hc:=h.cellAt j (by omega);have hf:(strs T)[j]?=some (.string (txt T[j])):=by simp[strs,hj]
  refine⟨?_,?_⟩
  ·rw [Nat.zero_add,hc,hf];simp[encStr,txt,hj]
  ·simp [World.frozen?,hh]
theorem zK8 (w:World) (base:Nat) (A:Option Addr) (n c:Nat) (T:List (List UInt8)) (h:w.ownsRow base 9 1 (.slice A n c) n (strs T)) (hb:base<=w.heap.size) (hn:n<=1000000):
  Calls Tryz.prog 76 #[.slice A n c] w fun e w'=>e=.returned (.tuple #[])/\Has w' w'.heap.size 1 A n (strs T.reverse)/\w.grownBy w' (Value.slice A n c).ownBlock/\Below base w w':=by
 have hnl:n=T.length:=by have:=h.1;rw[zBe] at this;omega
 by_cases hT:T=[]
 ·subst hT;obtain rfl:n=0:=by simpa using hnl
  refine (Tryz.slices_Reverse_string_empty A c w).mono ?_;rintro e w' ⟨rfl,rfl⟩;exact⟨rfl,⟨rfl,.inl rfl⟩,World.grownBy.refl _ _,Below.refl _ _⟩
 ·have h0:0<n:=by rw[hnl];exact List.length_pos_iff.2 hT
  obtain⟨g,cap,hv,hbg,hlt⟩:=h.form h0;cases hv;have hH:=zOi h;have hcon:=Tryz.slices_Reverse_string g 0 c T w hH (by omega);rw[<-hnl] at hcon;refine hcon.mono ?_;rintro e w' ⟨rfl,k,rfl⟩;have hH2:=holds_putRow encStr (Sort.ahead w k) g 0 T.toArray T.reverse.toArray (holds_ahead encStr w k g 0 T.toArray hH) (by simp);have hg:w.grownBy (putRow encStr (Sort.ahead w k) g 0 T.reverse.toArray) (some g):=by
   refine⟨rfl,rfl,rfl,?_,fun j hj hne=>?_⟩
   ·simp [putRow,mapBlock,Sort.ahead]
   ·simp only[putRow,mapBlock,Sort.ahead,Array.getElem?_modify];rw[if_neg (fun e=>hne (by rw[<-e]))]
  refine⟨rfl,⟨by rw[zBe,List.length_reverse];omega,.inr ⟨_,rfl,Nat.lt_of_lt_of_le hlt hg.size,fun j u hu=>?_⟩⟩,hg,(Below.refl base w).grown hg hb fun b e=>by cases e;exact hbg⟩;have hj:j<T.length:=by
   have:=(List.getElem?_eq_some_iff.1 hu).1
   rwa [zBe,List.length_reverse] at this
  have h1:=(hH2 j (by simpa using hj)).1;have hr:j<T.reverse.length:=by rwa [List.length_reverse]
  have hu2:(strs T.reverse)[j]?=some (.string (txt T.reverse[j])):=by rw[strs,List.getElem?_map,List.getElem?_eq_getElem hr];rfl
  rw[hu] at hu2;obtain rfl:=Option.some.inj hu2;rw[Nat.zero_add] at h1;rw[zMh,Nat.zero_add,h1];congr 1;have e1:T.reverse.toArray[j]! =T.reverse[j]:=by rw[getElem!_pos _ j (by simpa using hj)];simp
  rw[e1];rfl
theorem zPo (s:ByteArray) (w:World):Calls Tryz.prog 117 #[.string s] w fun e w'=>e=.returned (.bool false)/\w'=w:=by
 have e0:(s.toList==s.toList)=true:=by simp
 go_enter Tryz.func117,Tryz.ntmps117;go_wp2;go_ret;exact⟨rfl,rfl⟩
def cmpT (x y:List UInt8):Int:=if x<y then -1 else if y<x then 1 else 0
theorem zP9 (x y:List UInt8):((txt x).toList==(txt y).toList)=(!decide (x<y)&& !decide (y<x)):=by
 by_cases h1:x<y
 ·rw [decide_eq_true h1,zBn (fun e=>by subst e;exact zF0 _ h1)];rfl
 ·by_cases h2:y<x
  ·rw [decide_eq_true h2,zBn (fun e=>by subst e;exact zF0 _ h2)];simp
  ·rw [decide_eq_false h1,decide_eq_false h2,str_eq (zNp h1 h2)];rfl
theorem zO6 (x y:List UInt8) (w:World):Calls Tryz.prog 64 #[.string (txt x),.string (txt y)] w fun e w'=>e=.returned (.int .i64 (cmpT x y))/\w'=w:=by
 have key:∀(p q:Bool) (r:Int) (X Y:ByteArray),Op.bytesLess X.toList Y.toList=p->Op.bytesLess Y.toList X.toList=q->(X.toList==Y.toList)=(!p&& !q)->r=(if p=true then -1 else if q=true then 1 else 0)->
   Calls Tryz.prog 64 #[.string X,.string Y] w fun e w'=>e=.returned (.int .i64 r)/\w'=w:=by
  intro p q r X Y hp hq he hr;have hN:=fun s w=>zPo s w
  go_enter Tryz.func64,Tryz.ntmps64;go_wp2_with (go_at_call 117;fail);refine (hN X _).mono ?_;rintro e w1 ⟨rfl,hw1⟩;obtain rfl:=hw1.symm;clear hw1;go_wp2_with (go_at_call 117;fail);refine (hN Y _).mono ?_;rintro e w1 ⟨rfl,hw1⟩;obtain rfl:=hw1.symm;clear hw1 hN;cases p with
  | true=>
   rw[if_pos rfl] at hr;subst hr;simp only[Bool.not_true,Bool.false_and] at he;go_wp2;go_ret;exact⟨rfl,rfl⟩
  | false=>
   rw[if_neg (by simp)] at hr;cases q with
   | true=>
    rw[if_pos rfl] at hr;subst hr;simp only[Bool.not_true,Bool.and_false] at he;go_wp2;go_ret;exact⟨rfl,rfl⟩
   | false=>
    rw[if_neg (by simp)] at hr;subst hr;simp only[Bool.not_false,Bool.and_true] at he;go_wp2;go_ret;exact⟨rfl,rfl⟩
 refine key (decide (x<y)) (decide (y<x)) _ (txt x) (txt y) (by rw[zAb,zAb,bytesLess_eq]) (by rw[zAb,zAb,bytesLess_eq]) (zP9 x y) ?_;unfold cmpT;simp only[decide_eq_true_eq]
theorem cmp_at {R S:List (List UInt8)} {i:Nat} {x y:List UInt8} (hx:R[i]?=some x) (hy:S[i]?=some y):cmpL (R.drop i) (S.drop i)=if cmpT x y=0 then cmpL (R.drop (i+1)) (S.drop (i+1)) else cmpT x y:=by
 obtain⟨h1,rfl⟩:=List.getElem?_eq_some_iff.1 hx;obtain⟨h2,rfl⟩:=List.getElem?_eq_some_iff.1 hy;rw[List.drop_eq_getElem_cons h1,List.drop_eq_getElem_cons h2];unfold cmpT
 conv=>lhs;unfold cmpL
 by_cases a1:R[i]<S[i]
 ·simp [a1]
 ·by_cases a2:S[i]<R[i]
  ·simp [a1,a2]
  ·simp [a1,a2]
theorem zQ3 {R S:List (List UInt8)} {i:Nat} (h1:R.length=i) (h2:i<=S.length):cmpL (R.drop i) (S.drop i)=if i<S.length then -1 else 0:=by
 rw[List.drop_eq_nil_of_le (by omega)];by_cases h:i<S.length
 ·rw [if_pos h,List.drop_eq_getElem_cons h];rfl
 ·rw [if_neg h,List.drop_eq_nil_of_le (by omega)];rfl
theorem zMw {R S:List (List UInt8)} {i:Nat} (h1:i<R.length) (h2:S.length=i):cmpL (R.drop i) (S.drop i)=1:=by
 have e:S.drop i=[]:=List.drop_eq_nil_of_le (by omega);rw[List.drop_eq_getElem_cons h1,e];rfl
theorem zP1 (x y:List UInt8):cmpT x y= -1\/cmpT x y=0\/cmpT x y=1:=by
 unfold cmpT;split
 ·exact Or.inl rfl
 ·split
  ·exact Or.inr (Or.inr rfl)
  ·exact Or.inr (Or.inl rfl)
theorem zBj (w:World) (A B:Option Addr) (n c m d:Nat) (R S:List (List UInt8)) (hA:Has w w.heap.size 1 A n (strs R)) (hB:Has w w.heap.size 1 B m (strs S)) (hn:n<=1000000):
  Calls Tryz.prog 30 #[.slice A n c,.slice B m d] w fun e w'=>e=.returned (.int .i64 (cmpL R S))/\w'=w:=by
 have h1:=hA.strs_n;have h2:=hB.strs_n;obtain⟨r,hr⟩:∃r,cmpL R S=r:=⟨_,rfl⟩;rw[hr];have HA:=hide hA;have HB:=hide hB;have H1:=hide h1;have H2:=hide h2;have Hr:=hide hr;clear hA hB h1 h2 hr;go_enter Tryz.func30,Tryz.ntmps30;go_wp2
 go_loopg [11] n (fun k s11 wx=>∃i:Nat,i+k=n/\s11=.int .i64 (i:Int)/\wx=w/\i<=m/\Hid (cmpL (R.drop i) (S.drop i)=r))
 case atStart=>exact⟨0,by omega,rfl,rfl,by omega,hide Hr.out⟩
 case round=>
  obtain⟨i,hig,rfl,rfl,him,hpre⟩:=hrel;cases gk with
  | zero=>
   obtain rfl:i=n:=by omega
   have hiz:¬((i:Int)<(i:Int)):=by omega
   have he:=hide (zQ3 (R:=R) (S:=S) H1.out.symm (by rw[<-H2.out];exact him));by_cases hlt:i<m
   ·have hz:((i:Int)<(m:Int)):=by omega
    have hrv:Hid (r= -1):=hide (by rw[<-hpre.out,he.out,if_pos (by rw[<-H2.out];exact hlt)]);clear HA HB H1 H2 Hr hpre he;go_wp2;go_ret;exact⟨by rw[hrv.out];rfl,rfl⟩
   ·have hz:¬((i:Int)<(m:Int)):=by omega
    have hrv:Hid (r=0):=hide (by rw[<-hpre.out,he.out,if_neg (by rw[<-H2.out];exact hlt)]);clear HA HB H1 H2 Hr hpre he;go_wp2;go_ret;exact⟨by rw[hrv.out];rfl,rfl⟩
  | succ k=>
   have hi:i<n:=by omega
   have hiz:(i:Int)<(n:Int):=by omega
   obtain⟨x,hx⟩:∃x,R[i]?=some x:=⟨_,List.getElem?_eq_getElem (by rw[<-H1.out];exact hi)⟩;obtain⟨g,o,rfl,hg,hrd⟩:=HA.out.texts (fun h=>by rw[h] at hx;simp at hx);have c0:=hrd i x hx;by_cases hlt:i<m
   ·have hz:¬((m:Int)<=(i:Int)):=by omega
    obtain⟨y,hy⟩:∃y,S[i]?=some y:=⟨_,List.getElem?_eq_getElem (by rw[<-H2.out];exact hlt)⟩;obtain⟨g',o',rfl,hg',hrd'⟩:=HB.out.texts (fun h=>by rw[h] at hy;simp at hy);have d0:=hrd' i y hy;have hC:=fun w=>zO6 x y w
    have hst:=cmp_at hx hy;have hv:=zP1 x y;rw[hpre.out] at hst;have Hst:=hide hst;generalize cmpT x y=z at *;generalize txt x=X at *;generalize txt y=Y at *;clear HA HB H1 H2 Hr hpre hst hx hy hrd hrd';go_wp2_with (go_at_call 64;fail);refine (hC _).mono ?_;rintro e w1 ⟨rfl,hw1⟩;obtain rfl:=hw1.symm;clear hw1 hC;rcases hv with rfl | rfl | rfl
    ·have hrv:Hid (r= -1):=hide (by rw[Hst.out,if_neg (by omega)]);clear Hst;go_wp2;go_ret;exact⟨by rw[hrv.out];rfl,rfl⟩
    ·have hrv:Hid (cmpL (R.drop (i+1)) (S.drop (i+1))=r):=hide (by rw[Hst.out,if_pos rfl]);clear Hst;go_wp2
     go_roundg k
     case measure=>omega
     case rel=>exact⟨i+1,by omega,by go_num,rfl,by omega,hrv⟩
    ·have hrv:Hid (r=1):=hide (by rw[Hst.out,if_neg (by omega)]);clear Hst;go_wp2;go_ret;exact⟨by rw[hrv.out];rfl,rfl⟩
   ·have hz:((m:Int)<=(i:Int)):=by omega
    have hrv:Hid (r=1):=hide (by rw[<-hpre.out];exact zMw (by rw[<-H1.out];exact hi) (by rw[<-H2.out];omega));generalize txt x=X at *;clear HA HB H1 H2 Hr hpre hx hrd;go_wp2;go_ret;exact⟨by rw[hrv.out];rfl,rfl⟩
noncomputable def compV (l m:List UInt8):Int:=match (partsV l).1,(partsV m).1 with
 | some T,some U=>cmpL T.reverse U.reverse
 | _,_=>0
end Go.Proofs.YtdkekamkmlpnhaaGreatDoor
namespace Go.Proofs.YtdkekamkmlpnhaaGreatDoor
open Go.RowKit
inductive RKey (l:List UInt8):Prop where
 | no (y:Int) (hy:(y==0)=false) (hy2:(y !=0)=true) (h:partsV l=(none,y))
 | ok (T:List (List UInt8)) (ho:TextsOk T) (h:partsV l=(some T,0))
theorem rkey (l:List UInt8):RKey l:=by
 cases pt l with
 | no er he h=>exact .no er (zHr he).1 (zHr he).2 h
 | ok T ho h=>exact .ok T ho h
theorem rev_at {T:List (List UInt8)} {n i k:Nat} (h:n=T.length) (hi:i<n) (hk:k=n-1-i) {x:List UInt8} (hx:T.reverse[i]?=some x):T[k]?=some x:=by
 subst h hk
 rwa [List.getElem?_reverse hi] at hx
theorem zIi (l m:List UInt8) (hl:l.length<=1000000) (hm:m.length<=1000000) (w:World) (hT:TM w):
  Calls Tryz.prog 72 #[.string (txt l),.string (txt m)] w fun e w'=>e=.returned (.int .i64 (compV l m))/\Below w.heap.size w w':=by
 cases rkey l with
 | no y e1 e2 h=>
  have hP:=rp_no hl h w hT;have hP':=fun w hT=>zEp m hm w hT
  have hd:compV l m=0:=by unfold compV;rw[h]
  rw[hd];generalize txt l=s at *;generalize txt m=s2 at *;clear h hl hd hm;go_enter Tryz.func72,Tryz.ntmps72;go_wp2_with (go_at_call 68;fail);refine hP.mono ?_;rintro e w1 ⟨A,c,rfl,hb⟩;clear hP;go_wp2_with (go_at_call 68;fail);refine (hP' _ (hT.below hb)).mono ?_;rintro e w2 hpost;obtain⟨A2,n2,c2,rfl,_,_,hb2⟩:=hpost.out;have hb3:=hb.trans (hb2.mono hb.size);clear hP' hb hb2 hpost;go_wp2;go_ret;exact⟨rfl,hb3⟩
 | ok T ho h=>
  have hP:=zNf hl h w hT;cases rkey m with
  | no y e1 e2 h'=>
   have hP':=fun w hT=>rp_no hm h' w hT
   have hd:compV l m=0:=by unfold compV;rw[h,h']
   rw[hd];generalize txt l=s at *;generalize txt m=s2 at *;generalize T.length=n at *;clear h h' hl hd hm ho;go_enter Tryz.func72,Tryz.ntmps72;go_wp2_with (go_at_call 68;fail);refine hP.mono ?_;rintro e w1 ⟨A,c,rfl,_,hb⟩;clear hP;go_wp2_with (go_at_call 68;fail);refine (hP' _ (hT.below hb)).mono ?_;rintro e w2 ⟨A2,c2,rfl,hb2⟩;have hb3:=hb.trans (hb2.mono hb.size);clear hP' hb hb2;go_wp2;go_ret;exact⟨rfl,hb3⟩
  | ok U ho' h'=>
   have hP':=fun w hT=>zNf hm h' w hT
   have hd:compV l m=cmpL T.reverse U.reverse:=by unfold compV;rw[h,h']
   rw[hd];have hn12:=ho.le;have hm12:=ho'.le;generalize txt l=s at *;generalize txt m=s2 at *;obtain⟨r,hr⟩:∃r,cmpL T.reverse U.reverse=r:=⟨_,rfl⟩;rw[hr];have Hr:=hide hr;obtain⟨n,hn⟩:∃n,T.length=n:=⟨_,rfl⟩;obtain⟨n2,hn2⟩:∃n,U.length=n:=⟨_,rfl⟩;rw[hn] at hP hn12;rw[hn2] at hP' hm12;have H1:=hide hn;have H2:=hide hn2;clear h h' hl hd hm ho ho' hn hn2 hr;go_enter Tryz.func72,Tryz.ntmps72;go_wp2_with (go_at_call 68;fail);refine hP.mono ?_;rintro e w1 ⟨A,c,rfl,ht,hb⟩;clear hP;go_wp2_with (go_at_call 68;fail);refine (hP' _ (hT.below hb)).mono ?_;rintro e w2 ⟨A2,c2,rfl,ht2,hb2⟩;have hb3:=hb.trans (hb2.mono hb.size);have HA:=hide ((ht.has.below hb2).upto hb2.size);have HB:=hide ht2.has;have HW:=hide hb3;clear hP' hb hb2 ht ht2 hb3;go_wp2
   go_loopg [9] n (fun q s9 wx=>∃i:Nat,i+q=n/\s9=.int .i64 ((i:Int)+1)/\Below w2.heap.size w2 wx/\i<=n2/\Hid (cmpL (T.reverse.drop i) (U.reverse.drop i)=r))
   case atStart=>exact⟨0,by omega,rfl,Below.refl _ _,by omega,hide Hr.out⟩
   case round=>
    obtain⟨i,hig,rfl,hbr,him,hpre⟩:=hrel;have hbw:=HW.out.trans (hbr.mono HW.out.size);cases gk with
    | zero=>
     obtain rfl:i=n:=by omega
     have hiz:¬((i:Int)+1<=(i:Int)):=(by omega);have he:=hide (zQ3 (R:=T.reverse) (S:=U.reverse) (i:=i) (by rw[List.length_reverse];exact H1.out) (by rw[List.length_reverse,H2.out];exact him));by_cases hlt:i<n2
     ·have hz:((i:Int)<(n2:Int)):=by omega
      have hrv:Hid (r= -1):=hide (by rw[<-hpre.out,he.out,if_pos (by rw[List.length_reverse,H2.out];exact hlt)]);clear HA HB H1 H2 Hr hpre he hbr;go_wp2;go_ret;exact⟨by rw[hrv.out];rfl,hbw⟩
     ·obtain rfl:i=n2:=by omega
      have hz:¬((i:Int)<(i:Int)):=(by omega);have hrv:Hid (r=0):=hide (by rw[<-hpre.out,he.out,if_neg (by rw[List.length_reverse,H2.out];exact hlt)]);clear HA HB H1 H2 Hr hpre he hbr;go_wp2;go_ret;exact⟨by rw[hrv.out];rfl,hbw⟩
    | succ q=>
     have hi:i<n:=(by omega);have hiz:(i:Int)+1<=(n:Int):=(by omega);by_cases hlt:i<n2
     ·have hz:(i:Int)+1<=(n2:Int):=by omega
      obtain⟨x,hx⟩:∃x,T.reverse[i]?=some x:=⟨_,List.getElem?_eq_getElem (by rw[List.length_reverse,H1.out];exact hi)⟩;obtain⟨y,hy⟩:∃y,U.reverse[i]?=some y:=⟨_,List.getElem?_eq_getElem (by rw[List.length_reverse,H2.out];exact hlt)⟩;obtain⟨k,hk⟩:∃k,k=n-1-i:=⟨_,rfl⟩;obtain⟨k2,hk2⟩:∃k,k=n2-1-i:=⟨_,rfl⟩;have hxt:=rev_at H1.out.symm hi hk hx;have hyt:=rev_at H2.out.symm hlt hk2 hy;have y1:(n:Int)-((i:Int)+1)=(k:Int):=by omega
      have y2:(n2:Int)-((i:Int)+1)=(k2:Int):=(by omega);have y3:(k:Int)<(n:Int):=(by omega);have y4:(k2:Int)<(n2:Int):=(by omega);obtain⟨g,o,rfl,hg,hrd⟩:=HA.out.texts (fun h=>by rw[h] at hxt;simp at hxt);obtain⟨g',o',rfl,hg',hrd'⟩:=HB.out.texts (fun h=>by rw[h] at hyt;simp at hyt);have c0:=(hbr.cell (p:=⟨g,o+k,none⟩) hg).trans (hrd k x hxt);have d0:=(hbr.cell (p:=⟨g',o'+k2,none⟩) hg').trans (hrd' k2 y hyt);have hst:=cmp_at hx hy;rw[hpre.out] at hst;have Hst:=hide hst;have heq:=zP9 x y;have hlt1:Op.bytesLess (txt x).toList (txt y).toList=decide (x<y):=by rw[zAb,zAb,bytesLess_eq]
      by_cases a1:x<y
      ·have hrv:Hid (r= -1):=hide (by rw[hst];simp[cmpT,a1]);rw[decide_eq_true a1] at hlt1 heq;simp only[Bool.not_true,Bool.false_and] at heq;generalize txt x=X at *;generalize txt y=Y at *;clear HA HB H1 H2 Hr hpre hst hx hy hrd hrd' hxt hyt Hst a1 hk hk2;go_wp2
       go_quiet (fail)
       go_wp2;go_ret;exact⟨by rw[hrv.out];rfl,Below.drewN hbw _⟩
      ·rw [decide_eq_false a1] at hlt1 heq;by_cases a2:y<x
       ·have hrv:Hid (r=1):=hide (by rw[hst];simp[cmpT,a1,a2]);rw[decide_eq_true a2] at heq;simp only[Bool.not_true,Bool.and_false] at heq;generalize txt x=X at *;generalize txt y=Y at *;clear HA HB H1 H2 Hr hpre hst hx hy hrd hrd' hxt hyt Hst a1 a2 hk hk2;go_wp2
        go_quiet (fail)
        go_wp2;go_ret;exact⟨by rw[hrv.out];rfl,Below.drewN hbw _⟩
       ·have hrv:Hid (cmpL (T.reverse.drop (i+1)) (U.reverse.drop (i+1))=r):=hide (by rw[hst];simp[cmpT,a1,a2]);rw[decide_eq_false a2] at heq;simp only[Bool.not_false,Bool.and_true] at heq;generalize txt x=X at *;generalize txt y=Y at *;clear HA HB H1 H2 Hr hpre hst hx hy hrd hrd' hxt hyt Hst a1 a2 hk hk2;go_wp2
        go_quiet (fail)
        go_wp2
        go_roundg q
        case measure=>omega
        case rel=>exact⟨i+1,by omega,by go_num,Below.drewN hbr _,by omega,hrv⟩
     ·obtain rfl:i=n2:=by omega
      have hz:¬((i:Int)+1<=(i:Int)):=(by omega);have hz2:¬((n:Int)<(i:Int)):=(by omega);have hz3:((i:Int)<(n:Int)):=(by omega);have hrv:Hid (r=1):=hide (by rw[<-hpre.out];exact zMw (by rw[List.length_reverse,H1.out];exact hi) (by rw[List.length_reverse];exact H2.out));clear HA HB H1 H2 Hr hpre hbr;go_wp2;go_ret;exact⟨by rw[hrv.out];rfl,hbw⟩
end Go.Proofs.YtdkekamkmlpnhaaGreatDoor
