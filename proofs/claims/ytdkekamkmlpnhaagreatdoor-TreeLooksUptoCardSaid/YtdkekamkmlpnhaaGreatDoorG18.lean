/- Nodes in memory: an entry, and its name's path. By an AI agent. -/
import Derived.Deep.CutRange
import Derived.Deep.CutBlock
import Derived.Test.YtdkekamkmlpnhaaGreatDoorG17
import Derived.Test.YtdkekamkmlpnhaaGreatDoorEY
import Derived.Test.YtdkekamkmlpnhaaGreatDoorMI
import Derived.Test.YtdkekamkmlpnhaaGreatDoorEX
set_option linter.unusedSimpArgs false
set_option linter.unusedVariables false
namespace Go.Proofs.YtdkekamkmlpnhaaGreatDoor
open Go Go.RowKit
def pathV (nm:List UInt8):List (List UInt8):=if nm=[] then [] else (cuts 44 nm).reverse
structure NDsP (w:World) (P:Nat->Prop) (xs:List Value) (N:List EN):Prop where
 len:xs.length=N.length*3
 each:∀(i:Nat) (e:EN),N[i]?=some e->∃A c ys Q d,xs[i*3]?=some (.string (txt e.1))/\xs[i*3+1]?=some (.slice A e.2.length c)/\xs[i*3+2]?=some (.slice Q (pathV e.1).length d)/\e.2.length<=c/\c<=maxLen/\(pathV e.1).length<=d/\d<=maxLen/\HasP w P 2 A e.2.length ys/\EAsP w P ys e.2/\HasP w P 1 Q (pathV e.1).length (strs (pathV e.1))
section
variable {w w':World} {P P':Nat->Prop} {xs:List Value} {N:List EN}
theorem NDsP.move (h:NDsP w P xs N) (hc:∀p:Addr,P p.block->w'.cell? p=w.cell? p) (hP:∀b,P b->P' b):NDsP w' P' xs N:=
 ⟨h.len,fun i e he=>by
  obtain⟨A,c,ys,Q,d,h1,h2,h3,k1,k2,k3,k4,h4,h5,h6⟩:=h.each i e he
  exact⟨A,c,ys,Q,d,h1,h2,h3,k1,k2,k3,k4,h4.move hc hP,h5.move hc hP,h6.move hc hP⟩⟩
theorem NDsP.nil:NDsP w P [] []:=⟨rfl,fun i a ha=>by simp at ha⟩
theorem NDsP.snoc (h:NDsP w P xs N) {e:EN} {A:Option Addr} {c:Nat} {ys:List Value} {Q:Option Addr} {d:Nat} (k1:e.2.length<=c) (k2:c<=maxLen) (k3:(pathV e.1).length<=d) (k4:d<=maxLen) (hH:HasP w P 2 A e.2.length ys) (hE:EAsP w P ys e.2) (hQ:HasP w P 1 Q (pathV e.1).length (strs (pathV e.1))):
  NDsP w P (xs++[.string (txt e.1),.slice A e.2.length c,.slice Q (pathV e.1).length d]) (N++[e]):=by
 have hl:=h.len;refine⟨by simp[h.len];omega,fun i q hq=>?_⟩;by_cases hi:i<N.length
 ·rw [List.getElem?_append_left hi] at hq;obtain⟨A',c',zs,Q',d',h1,h2,h3,r⟩:=h.each i q hq;exact⟨A',c',zs,Q',d',by rw[List.getElem?_append_left (by omega)];exact h1,by rw[List.getElem?_append_left (by omega)];exact h2,by rw[List.getElem?_append_left (by omega)];exact h3,r⟩
 ·have hi2:i=N.length:=by
   have:=(List.getElem?_eq_some_iff.1 hq).1;simp at this;omega
  subst hi2;simp at hq;subst hq;exact⟨A,c,ys,Q,d,by rw[List.getElem?_append_right (by omega),h.len];simp,by rw[List.getElem?_append_right (by omega),h.len];simp,by rw[List.getElem?_append_right (by omega),h.len];simp,k1,k2,k3,k4,hH,hE,hQ⟩
theorem NDsP.take (h:NDsP w P xs N) (k:Nat):NDsP w P (xs.take (k*3)) (N.take k):=by
 have hl:=h.len;refine⟨by rw[List.length_take,List.length_take,hl];omega,fun i e he=>?_⟩;have hik:i<k:=by have:=(List.getElem?_eq_some_iff.1 he).1;rw[List.length_take] at this;omega
 rw[List.getElem?_take,if_pos hik] at he;obtain⟨A,c,ys,Q,d,h1,h2,h3,r⟩:=h.each i e he;exact⟨A,c,ys,Q,d,by rw[List.getElem?_take,if_pos (by omega)];exact h1,by rw[List.getElem?_take,if_pos (by omega)];exact h2,by rw[List.getElem?_take,if_pos (by omega)];exact h3,r⟩
end
structure NdAt (w:World) (B g o:Nat) (e:EN) (A:Option Addr) (c:Nat) (ys:List Value) (Q:Option Addr) (d:Nat):Prop where
 c0:w.cell? ⟨g,o,none⟩=some (.string (txt e.1))
 c1:w.cell? ⟨g,o+1,none⟩=some (.slice A e.2.length c)
 c2:w.cell? ⟨g,o+2,none⟩=some (.slice Q (pathV e.1).length d)
 cap:e.2.length<=c/\c<=maxLen/\(pathV e.1).length<=d/\d<=maxLen
 has:Has w B 2 A e.2.length ys
 attrs:EAs w B ys e.2
 path:Has w B 1 Q (pathV e.1).length (strs (pathV e.1))
theorem HasP.nd {w:World} {P:Nat->Prop} {B n:Nat} {A:Option Addr} {xs:List Value} {N:List EN} (h:HasP w P 3 A n xs) (hN:NDsP w P xs N) (hne:N≠[]) (hP:∀b,P b->b<B):
  ∃g o,A=some ⟨g,o,none⟩/\P g/\∀(i:Nat) (e:EN),N[i]?=some e->∃V c ys Q d,NdAt w B g (o+i*3) e V c ys Q d:=by
 have hp:=List.length_pos_iff.2 hne;have hB:=h.has hP;obtain⟨g,o,rfl,hg,hc⟩:=hB.lies (by rw[hN.len];omega);refine⟨g,o,rfl,?_,fun i e he=>?_⟩
 ·rcases h.2 with h2 | ⟨ad,e2,hb,_⟩
  ·have:=hN.len;rw[h2,List.length_nil] at this;omega
  ·have:=Option.some.inj e2;rw[<-this] at hb;exact hb
 ·obtain ⟨V,c,ys,Q,d,h1,h2,h3,k1,k2,k3,k4,h4,h5,h6⟩:=hN.each i e he;exact⟨V,c,ys,Q,d,hc _ _ h1,by have:=hc _ _ h2;rwa [<-Nat.add_assoc] at this,by have:=hc _ _ h3;rwa [<-Nat.add_assoc] at this,⟨k1,k2,k3,k4⟩,h4.has hP,h5.eas hP,h6.has hP⟩
structure RowT (w:World) (base:Nat) (v:Value) (xs:List Value) (N:List EN):Prop where
 own:w.ownsRow base 64 3 v N.length xs
 nds:NDsP w (fun b=>base<=b/\b<w.heap.size/\some b≠v.ownBlock) xs N
section
variable {w w':World} {base:Nat} {v v':Value} {xs:List Value} {N:List EN}
theorem RowT.start (h:w.ownsRow base 64 3 v 0 []):RowT w base v [] []:=⟨h,NDsP.nil⟩
theorem RowT.below (h:RowT w base v xs N) (hb:Below w.heap.size w w'):RowT w' base v xs N:=
 ⟨zAc h.own hb,h.nds.move (fun p hp=>hb.cell hp.2.1) fun b hb2=>⟨hb2.1,Nat.lt_of_lt_of_le hb2.2.1 hb.size,hb2.2.2⟩⟩
theorem RowT.more {w4 w5 w6 w7:World} (hR:RowT w4 base v xs N) (hbase:base<=w4.heap.size) (hb5:Below w4.heap.size w4 w5) {e:EN} {A:Option Addr} {c:Nat} {ys:List Value} {Q:Option Addr} {d:Nat} (k1:e.2.length<=c) (k2:c<=maxLen) (k3:(pathV e.1).length<=d) (k4:d<=maxLen)
  (h6:Below w5.heap.size w5 w6) (hH:HasP w5 (NewB w4.heap.size w5.heap.size) 2 A e.2.length ys) (hE:EAsP w5 (NewB w4.heap.size w5.heap.size) ys e.2) (hQ:HasP w5 (NewB w4.heap.size w5.heap.size) 1 Q (pathV e.1).length (strs (pathV e.1)))
  (hown:w7.ownsRow base 64 3 v' (N.length+1) (xs++[.string (txt e.1),.slice A e.2.length c,.slice Q (pathV e.1).length d])) (hg:w6.grownBy w7 v.ownBlock) (ht:v'.ownBlock=v.ownBlock\/v'.ownBlock=some w6.heap.size):
  RowT w7 base v' (xs++[.string (txt e.1),.slice A e.2.length c,.slice Q (pathV e.1).length d]) (N++[e]):=by
 have hoff:∀b,NewB w4.heap.size w5.heap.size b->base<=b/\b<w6.heap.size/\some b≠v.ownBlock:=fun b hb=>by
  obtain⟨h1,h2,h3⟩:=zLt hR.own hbase b hb;exact⟨h1,Nat.lt_of_lt_of_le h2 h6.size,h3⟩
 have h:=((hR.below hb5).below h6);refine⟨by rw[List.length_append];exact hown,?_⟩;refine (h.nds.move (zAw hg) (zBc hg ht)).snoc (ys:=ys) k1 k2 k3 k4 ?_ ?_ ?_
 ·exact (hH.move (P':=fun b=>base<=b/\b<w6.heap.size/\some b≠v.ownBlock) (fun p hp=>h6.cell hp.2) hoff).move (zAw hg) (zBc hg ht)
 ·exact (hE.move (P':=fun b=>base<=b/\b<w6.heap.size/\some b≠v.ownBlock) (fun p hp=>h6.cell hp.2) hoff).move (zAw hg) (zBc hg ht)
 ·exact (hQ.move (P':=fun b=>base<=b/\b<w6.heap.size/\some b≠v.ownBlock) (fun p hp=>h6.cell hp.2) hoff).move (zAw hg) (zBc hg ht)
end
structure TreeM (w:World) (P:Nat->Prop) (q:Nat) (N:List EN):Prop where
 out:∃A c xs,Blk w q [.slice A N.length c]/\N.length<=c/\c<=maxLen/\HasP w P 3 A N.length xs/\NDsP w P xs N
end Go.Proofs.YtdkekamkmlpnhaaGreatDoor
namespace Go.Proofs.YtdkekamkmlpnhaaGreatDoor
open Go.RowKit
theorem NT.whole {t:List UInt8} (h:NT t):Whole 44 t:=by
 obtain⟨p,hp,hn,rfl⟩:=h;exact prP_whole' hp
theorem zHx {T:List (List UInt8)} (ho:TextsOk T) (hT:T≠[]):pathV (joinC T)=T.reverse:=by
 have hc:=zGm T hT fun t ht=>(ho.each t ht).whole
 have hne:joinC T≠[]:=by
  intro e;rw[e] at hc;have h1:=zBf ho;rw[e] at h1;have h2:=zBf TextsOk.root;rw[show joinC []=([]:List UInt8) from rfl,h1] at h2;injection h2 with h2
  injection h2 with h2
  exact hT h2
 unfold pathV;rw[if_neg hne,hc]
theorem zB6 {nm:List UInt8} (h:normT nm=(nm,0)) (hne:nm≠[]):∃T,TextsOk T/\T≠[]/\partsV nm=(some T,0)/\joinC T=nm/\pathV nm=T.reverse:=by
 cases pt nm with
 | no e he h'=>
  rw[norm_no' h'] at h;injection h with h1 h2
  exact absurd h1.symm hne
 | ok T ho h'=>
  rw[norm_yes' h'] at h;injection h with hj _
  have hT:T≠[]:=by rintro rfl;exact hne (hj.symm.trans rfl)
  exact⟨T,ho,hT,h',hj,by rw[<-hj];exact zHx ho hT⟩
theorem zD3:∀{a b:List (List UInt8)},cmpL a b=0->a=b
 | [],[],_=>rfl
 | [],_::_,h=>by simp[cmpL] at h
 | _::_,[],h=>by simp[cmpL] at h
 | x::r,y::q,h=>by
  unfold cmpL at h;by_cases h1:x<y
  ·rw [if_pos h1] at h;omega
  ·rw [if_neg h1] at h;by_cases h2:y<x
   ·rw [if_pos h2] at h;omega
   ·rw [if_neg h2] at h;rw[zNp h1 h2,zD3 h]
theorem zCl:∀(a:List (List UInt8)),cmpL a a=0
 | []=>rfl
 | x::r=>by unfold cmpL;rw[if_neg (zF0 x),if_neg (zF0 x)];exact zCl r
theorem zFk {a b:List UInt8} (ha:normT a=(a,0)) (hna:a≠[]) (hb:normT b=(b,0)) (hnb:b≠[]) (h:pathV a=pathV b):a=b:=by
 obtain⟨T,_,_,_,h1,h2⟩:=zB6 ha hna;obtain⟨U,_,_,_,h3,h4⟩:=zB6 hb hnb;rw[h2,h4] at h;have:T=U:=by have:=congrArg List.reverse h;simpa using this
 rw[<-h1,<-h3,this]
theorem zP7 {a b:List UInt8} (ha:normT a=(a,0)) (hna:a≠[]) (hb:normT b=(b,0)) (hnb:b≠[]):compV a b=cmpL (pathV a) (pathV b):=by
 obtain⟨T,_,_,p1,_,h2⟩:=zB6 ha hna;obtain⟨U,_,_,p3,_,h4⟩:=zB6 hb hnb;unfold compV;rw[p1,p3,h2,h4]
theorem zBx {a:List UInt8} (ha:normT a=(a,0)) (hna:a≠[]):pathV a≠[]:=by
 obtain⟨T,_,hT,_,_,h2⟩:=zB6 ha hna;rw[h2];simpa using hT
theorem zDj {a:List UInt8} (ha:normT a=(a,0)) (hna:a≠[]):normT (parentV a).1=((parentV a).1,0)/\pathV (parentV a).1=(pathV a).dropLast:=by
 obtain⟨T,ho,hT,p1,h1,h2⟩:=zB6 ha hna;cases T with
 | nil=>exact absurd rfl hT
 | cons p r=>
  have hp:parentV a=(joinC r,true):=by unfold parentV;rw[p1]
  rw[hp,h2];simp only;refine⟨norm_yes' (zBf ho.tail),?_⟩;by_cases hr:r=[]
  ·subst hr;rfl
  ·rw [zHx ho.tail hr];simp
theorem zNi:∀(a:List (List UInt8)) (x:List UInt8),cmpL a (a++[x])= -1
 | [],x=>rfl
 | y::r,x=>by rw[List.cons_append];unfold cmpL;rw[if_neg (zF0 y),if_neg (zF0 y)];exact zNi r x
def SortedP (N:List EN):Prop:=N.Pairwise fun a b=>cmpL (pathV a.1) (pathV b.1)<0
theorem zDi {a b c:List (List UInt8)} (h1:cmpL a b<0) (h2:cmpL b c<=0):cmpL a c<0:=by
 have h3:=zIc a b c (by omega) h2;rcases zNb a c with h | h | h
 ·omega
 ·have:=zD3 h;subst this;have:=zCn a b;omega
 ·omega
theorem SortedP.mono {N:List EN} (h:SortedP N) (key:List (List UInt8)):∀a c,a<=c->c<N.length->cmpL (pathV (N.getD c ([],[])).1) key<0->cmpL (pathV (N.getD a ([],[])).1) key<0:=by
 intro a c hac hc hl;rcases Nat.lt_or_eq_of_le hac with hlt | rfl
 ·have:=List.pairwise_iff_getElem.1 h a c (by omega) hc hlt;rw[List.getD_eq_getElem?_getD,List.getElem?_eq_getElem (by omega)];rw[List.getD_eq_getElem?_getD,List.getElem?_eq_getElem hc] at hl;exact zDi this (by simp only[Option.getD_some] at hl;omega)
 ·exact hl
end Go.Proofs.YtdkekamkmlpnhaaGreatDoor
set_option maxRecDepth 100000
set_option maxHeartbeats 16000000
namespace Go.Proofs.YtdkekamkmlpnhaaGreatDoor
open Go Go.RowKit
theorem zL7 (w:World) (S:ByteArray) (A:Option Addr) (n c:Nat) (Q:Option Addr) (T:List (List UInt8)) (k d:Nat) (P:Option Addr) (K:List (List UInt8)) (m d2:Nat) (hQ:Has w w.heap.size 1 Q k (strs T)) (hP:Has w w.heap.size 1 P m (strs K)) (hk:k<=1000000):
  Calls Tryz.prog 101 #[.agg #[.string S,.slice A n c,.slice Q k d],.slice P m d2] w fun e w'=>e=.returned (.int .i64 (cmpL T K))/\Below w.heap.size w w':=by
 have hb1:=below1 w (.cells #[.string S,.slice A n c,.slice Q k d] 64);have hX:Blk (w.alloc (.cells #[.string S,.slice A n c,.slice Q k d] 64)) w.heap.size [.string S,.slice A n c,.slice Q k d]:=Blk.new w [.string S,.slice A n c,.slice Q k d] 64;obtain⟨w1,hw1⟩:∃w1,w.alloc (.cells #[.string S,.slice A n c,.slice Q k d] 64)=w1:=⟨_,rfl⟩;rw[hw1] at hb1 hX;have HC:=hide (zBj w1 Q P k d m d2 T K ((hQ.below hb1).upto hb1.size) ((hP.below hb1).upto hb1.size) hk);have x2:=hX.cells 2 _ rfl;have HB:=hide hb1;have Hw1:=hide hw1;clear hb1 hX hw1 hQ hP;generalize cmpL T K=z at *;go_enter Tryz.func101,Tryz.ntmps101;go_upto_region 1 with fail;rw[Hw1.out];clear Hw1;obtain⟨h,hh⟩:∃h,w.heap.size=h:=⟨_,rfl⟩;rw[hh] at x2;(try rw[hh]);clear hh;go_wp2_with (go_at_call 30;fail);refine HC.out.mono ?_;rintro e w2 ⟨rfl,hw2⟩;obtain rfl:=hw2.symm;clear hw2 HC x2;go_wp2;go_ret;exact⟨rfl,HB.out⟩
theorem pickT {α:Type} [Inhabited α] {n:Nat} {p:Nat->α->Prop} (h:∀i,i<n->∃u,p i u):∃f:Nat->α,∀i,i<n->p i (f i):=
 ⟨fun i=>if hi:i<n then Classical.choose (h i hi) else default,fun i hi=>by simp only[dif_pos hi];exact Classical.choose_spec (h i hi)⟩
theorem zIn (w:World) (B:Option Addr) (cb:Nat) (A:Option Addr) (n c:Nat):
  Calls Tryz.prog 100 #[.slice B 0 cb,.slice A n c,.func (.func 101) #[] #[]] w fun e w'=>e=.returned (.tuple #[.int .i64 0,.bool false])/\w'=w:=by
 go_enter Tryz.func100,Tryz.ntmps100;go_wp2
 go_loopg [9,10] 0 (fun k s9 s10 wx=>s9=.int .i64 0/\s10=.int .i64 0/\wx=w)
 case atStart=>exact⟨rfl,rfl,rfl⟩
 case round=>obtain⟨rfl,rfl,hw⟩:=hrel;obtain rfl:=hw.symm;clear hw;go_wp2;go_ret2;exact⟨rfl,rfl⟩
structure FindPost (N:List EN) (K:List (List UInt8)) (w:World) (e:Ending) (w':World):Prop where
 out:∃(k:Nat) (b:Bool),e=.returned (.tuple #[.int .i64 (k:Int),.bool b])/\k<=N.length/\(b=true->∃x,N[k]?=some x/\pathV x.1=K)/\(b=false->∀x∈N,pathV x.1≠K)/\Below w.heap.size w w'
theorem zGy (N:List EN) (K:List (List UInt8)) (w:World) (q:Nat) (A:Option Addr) (c:Nat) (xs:List Value) (P:Option Addr) (m d:Nat) (hQ:Blk w q [.slice A N.length c]) (hA:HasP w (fun b=>b<w.heap.size) 3 A N.length xs) (hN:NDsP w (fun b=>b<w.heap.size) xs N) (hs:SortedP N) (hn:N.length<=1000000) (hpl:∀e∈N,(pathV e.1).length<=1000000) (hP:Has w w.heap.size 1 P m (strs K)):
  Calls Tryz.prog 55 #[.pointer (some ⟨q,0,none⟩),.slice P m d] w (FindPost N K w):=by
 by_cases h0:N=[]
 ·subst h0
  suffices H:Calls Tryz.prog 55 #[.pointer (some ⟨q,0,none⟩),.slice P m d] w fun e w'=>Hid (FindPost [] K w e w') from H.mono fun e w' h=>h.out
  have k0:=hQ.cells 0 _ rfl;have k0:w.cell? ⟨q,0,none⟩=some (.slice A 0 c):=k0;clear hQ hA hN hs hn hpl hP;go_enter Tryz.func55,Tryz.ntmps55;go_wp2_with (go_at_call 100;fail);refine (zIn w A c P m d).mono ?_;rintro e w1 ⟨rfl,hw⟩;obtain rfl:=hw.symm;clear hw;go_wp2;go_ret2;exact hide ⟨⟨0,false,rfl,Nat.le_refl _,(fun h=>by cases h),(fun _ x hx=>by cases hx),Below.refl _ _⟩⟩
 ·obtain ⟨g,o,rfl,hg,hat⟩:=hA.nd hN h0 (B:=w.heap.size) fun b hb=>hb
  suffices H:Calls Tryz.prog 55 #[.pointer (some ⟨q,0,none⟩),.slice P m d] w fun e w'=>Hid (FindPost N K w e w') from H.mono fun e w' h=>h.out
  have k0:=hQ.cells 0 _ rfl;have hcell:∀i,i<N.length->∃u:Value × Value × Value,w.cell? ⟨g,o+i*3,none⟩=some u.1/\w.cell? ⟨g,o+i*3+1,none⟩=some u.2.1/\w.cell? ⟨g,o+i*3+2,none⟩=some u.2.2/\
    ∀W,Below w.heap.size w W->Calls Tryz.prog 101 #[.agg #[u.1,u.2.1,u.2.2],.slice P m d] W fun e W'=>e=.returned (.int .i64 (cmpL (pathV (N.getD i ([],[])).1) K))/\Below W.heap.size W W':=fun i hi=>by
   obtain⟨e,he⟩:∃e,N[i]?=some e:=⟨_,List.getElem?_eq_getElem hi⟩;obtain⟨V,cv,ys,Q,dq,h1,h2,h3,h4,h5,h6,h7⟩:=hat i e he;refine⟨(.string (txt e.1),.slice V e.2.length cv,.slice Q (pathV e.1).length dq),h1,h2,h3,fun W hW=>?_⟩;have hd:N.getD i ([],[])=e:=by rw[List.getD_eq_getElem?_getD,he];rfl
   rw[hd];exact zL7 W (txt e.1) V e.2.length cv Q (pathV e.1) (pathV e.1).length dq P K m d ((h7.below hW).upto hW.size) ((hP.below hW).upto hW.size) (hpl e (List.mem_of_getElem? he))
  haveI:Inhabited (Value × Value × Value):=⟨(.bool false,.bool false,.bool false)⟩
  obtain⟨us,hus⟩:=pickT hcell;have HS:=hide (zLl 101 (fun args w=>by go_simp) (fun i=>cmpL (pathV (N.getD i ([],[])).1) K) us w g o c N.length P m d hg (fun i hi=>⟨(hus i hi).1,(hus i hi).2.1,(hus i hi).2.2.1⟩) hn (fun i hi W hW=>(hus i hi).2.2.2 W hW) (hs.mono K));have HN:Hid (∀(k:Nat),k<=N.length->(∀i,i<k->cmpL (pathV (N.getD i ([],[])).1) K<0)->(∀i,k<=i->i<N.length->0<=cmpL (pathV (N.getD i ([],[])).1) K)->(decide (k<N.length/\cmpL (pathV (N.getD k ([],[])).1) K=0)=true->∃x,N[k]?=some x/\pathV x.1=K)/\(decide (k<N.length/\cmpL (pathV (N.getD k ([],[])).1) K=0)=false->∀x∈N,pathV x.1≠K)):=hide fun k hk hlo hhi=>by
   have hgd:∀i (hi:i<N.length),N.getD i ([],[])=N[i]:=fun i hi=>by rw[List.getD_eq_getElem?_getD,List.getElem?_eq_getElem hi];rfl
   refine⟨fun h=>?_,fun h x hx e=>?_⟩
   ·obtain ⟨h1,h2⟩:=of_decide_eq_true h;rw[hgd k h1] at h2;exact⟨N[k],List.getElem?_eq_getElem h1,zD3 h2⟩
   ·have h1:=of_decide_eq_false h;obtain⟨i,hi,rfl⟩:=List.mem_iff_getElem.1 hx;have hz:cmpL (pathV (N.getD i ([],[])).1) K=0:=by rw[hgd i hi,e];exact zCl K
    rcases Nat.lt_trichotomy i k with hik | rfl | hik
    ·have:=hlo i hik;omega
    ·exact h1 ⟨hi,hz⟩
    ·have hk2:k<N.length:=by omega
     have h2:=hhi k (Nat.le_refl _) hk2;have h3:=List.pairwise_iff_getElem.1 hs k i hk2 hi hik;rw[hgd k hk2] at h2;rw[e] at h3;omega
  clear hQ hA hN hs hn hpl hP hg hat hcell hus;obtain⟨n,hnn⟩:∃n,N.length=n:=⟨_,rfl⟩;have Hnn:=hide hnn;rw[hnn] at k0 HS;clear hnn;go_enter Tryz.func55,Tryz.ntmps55;go_wp2_with (go_at_call 100;fail);refine HS.out.mono ?_;rintro e w2 hpost;obtain⟨k,hk,hlo,hhi,rfl,hb⟩:=hpost.out;rw[<-Hnn.out] at hk hhi;have hf:=HN.out k hk hlo hhi;rw[Hnn.out] at hf;obtain⟨b,hbd⟩:∃b,decide (k<n/\cmpL (pathV (N.getD k ([],[])).1) K=0)=b:=⟨_,rfl⟩;rw[hbd] at hf ⊢;have HE:Hid (FindPost N K w (.returned (.tuple #[.int .i64 (k:Int),.bool b])) w2):=hide ⟨⟨k,b,rfl,hk,hf.1,hf.2,hb⟩⟩;clear hpost hk hlo hhi hb hf hbd HS HN Hnn k0;go_wp2;go_ret2;exact HE
end Go.Proofs.YtdkekamkmlpnhaaGreatDoor
set_option maxHeartbeats 32000000
namespace Go.Proofs.YtdkekamkmlpnhaaGreatDoor
open Go.RowKit
def aliT:List UInt8:=[97,108,105,97,115,101,100,79,98,106,101,99,116,78,97,109,101]
def aliC:List UInt8:=[97,108,105,97,115]
open Classical in
noncomputable def aliasE (L:List EA):List UInt8 × Bool:=
 match valuesE L aliT with
 | v::_=>if HasE L clsT aliC then ((valV aliT v).1,(valV aliT v).2==0) else ([],false)
 | []=>([],false)
theorem zOh (nm:List UInt8) (L:List EA) (w:World) (A:Option Addr) (n c:Nat) (xs:List Value) (hA:Has w w.heap.size 2 A n xs) (hL:EAs w w.heap.size xs L) (hn:n<=1000000)
  (hvs:∀a∈L,a.2.length<=1000000/\∀u∈a.2,u.length<=1000000) (hT:TM w):
  Calls Tryz.prog 35 #[.agg #[.string (txt nm),.slice A n c]] w fun e w'=>e=.returned (.tuple #[.string (txt (aliasE L).1),.bool (aliasE L).2])/\Below w.heap.size w w':=by
 have hb1:=below1 w (.cells #[.string (txt nm),.slice A n c] 38);have hX:=BoxE.new w (txt nm) A n c 38;obtain⟨w1,hw1⟩:∃w1,w.alloc (.cells #[.string (txt nm),.slice A n c] 38)=w1:=⟨_,rfl⟩;rw[hw1] at hb1 hX;have hVa:=fun w hA hL=>zGu nm L aliT w A n c xs hA hL hn (by decide) (fun a ha=>(hvs a ha).1)
 have hHa:=fun w hA hL hT=>zNo nm L clsT aliC w A n c xs hA hL hn (by decide) (by decide) hvs hT
 have hlen:∀u∈valuesE L aliT,u.length<=1000000:=by
  unfold valuesE;split
  ·simp
  ·rcases zD2 L (typ aliT).1 with h | ⟨a,ha,h⟩
   ·rw [h];simp
   ·rw [h];exact (hvs a ha).2
 have hva:txt aliT=(⟨#[97,108,105,97,115,101,100,79,98,106,101,99,116,78,97,109,101]⟩:ByteArray):=rfl;have hc1:txt clsT=(⟨#[111,98,106,101,99,116,67,108,97,115,115]⟩:ByteArray):=rfl;have hc2:txt aliC=(⟨#[97,108,105,97,115]⟩:ByteArray):=rfl;have hVl:=fun v (hv:v∈valuesE L aliT) w hT=>zC1 aliT v (by decide) (hlen v hv) w hT
 rw[hva] at hVa hVl;rw[hc1,hc2] at hHa;have hdef:aliasE L=match valuesE L aliT with
  | v::_=>@ite _ (HasE L clsT aliC) (Classical.propDecidable _) ((valV aliT v).1,(valV aliT v).2==0) ([],false)
  | []=>([],false):=rfl
 rw[hdef];generalize valuesE L aliT=R at *;obtain⟨b,hb⟩:∃b,Tr (HasE L clsT aliC)=b:=⟨_,rfl⟩;rw[hb] at hHa;have HA:=hide ((hA.below hb1).upto hb1.size);have HL:=hide (hL.grow hb1);have HT:=hide (hT.below hb1);have HX:=hide hX;have HB:=hide hb1;have HVa:=hide hVa;have HHa:=hide hHa;have HVl:=hide hVl;have Hw1:=hide hw1;clear hb1 hX hw1 hVa hHa hVl hlen hva hc1 hc2 hdef hA hL hT hvs;generalize txt nm=SN at *;have main:∀(S:ByteArray) (bb:Bool),(R=[]->S=⟨#[]⟩/\bb=false)->(b=false->S=⟨#[]⟩/\bb=false)->(∀v r,R=v::r->b=true->S=txt (valV aliT v).1/\bb=((valV aliT v).2==0))->
   Calls Tryz.prog 35 #[.agg #[.string SN,.slice A n c]] w fun e w'=>e=.returned (.tuple #[.string S,.bool bb])/\Below w.heap.size w w':=by
  intro S bb h1 h2 h3;have H1:=hide h1;have H2:=hide h2;have H3:=hide h3;clear h1 h2 h3 hb;go_enter Tryz.func35,Tryz.ntmps35;go_upto_region 1 with fail;rw[Hw1.out];have x0:=HX.out.c0;have x1:=HX.out.c1;go_wp2_with (go_at_call 66;fail);refine (HVa.out _ HA.out HL.out).mono ?_;rintro e w2 hpost;obtain⟨v2,rfl,hown2,hb2⟩:=hpost.out;have HX2:=hide (HX.out.grow hb2);have HA2:=hide ((HA.out.below hb2).upto hb2.size);have HL2:=hide (HL.out.grow hb2);have HT2:=hide (HT.out.below hb2);have HB2:=hTz HB hb2;obtain⟨A2,c2,rfl,hc2,hh2⟩:=zAh hown2;have HR2:=hide hh2;clear hpost hown2 hb2 HX HA HL HT HB HVa x0 x1 Hw1 hc2 hh2;have x0:=HX2.out.c0;have x1:=HX2.out.c1;go_wp2_with (go_at_call 70;fail);refine (HHa.out _ HA2.out HL2.out HT2.out).mono ?_;rintro e w3 ⟨rfl,hb3⟩;have HT3:=hide (HT2.out.below hb3);have HB3:=hTz HB2 hb3;have HR3:=hide ((HR2.out.below hb3).upto hb3.size);clear hb3 HX2 HA2 HL2 HT2 HB2 HHa x0 x1 HR2;cases b with
  | false=>
   obtain⟨rfl,rfl⟩:=H2.out rfl;clear H1 H2 H3 HR3 HVl;go_wp2;go_ret2;exact⟨rfl,HB3.out⟩
  | true=>
   cases R with
   | nil=>
    obtain⟨rfl,rfl⟩:=H1.out rfl;clear H1 H2 H3 HR3 HVl;simp only[List.length_nil];go_wp2;go_ret2;exact⟨rfl,HB3.out⟩
   | cons v r=>
    obtain⟨rfl,rfl⟩:=H3.out v r rfl rfl;obtain⟨g,o,hAe,hg,hat⟩:=HR3.out.texts (by simp);subst hAe;have d0:=hat 0 v rfl;rw[Nat.add_zero] at d0;have Hcall:=hide (HVl.out v (by simp));have hk:(v::r).length=r.length+1:=rfl;rw[hk];generalize r.length=k at *;have hz:((((k+1:Nat):Int))==0)=false:=beq_false_of_ne (by omega);have hz2:¬(((k+1:Nat):Int))=0:=by omega
    have hlt:(0:Int)<((k+1:Nat):Int):=(by omega);generalize txt v=SV at *;obtain⟨y,hy⟩:∃y,(valV aliT v).2=y:=⟨_,rfl⟩;obtain⟨NV,hNV⟩:∃NV,txt (valV aliT v).1=NV:=⟨_,rfl⟩;rw[hy,hNV] at Hcall;have Hy:=hide hy;have HNV:=hide hNV;clear H1 H2 H3 HR3 HVl hat hk hy hNV;go_wp2_with (go_at_call 71;fail);refine (Hcall.out _ HT3.out).mono ?_;rintro e w4 ⟨rfl,hb4⟩;have HB4:=hTz HB3 hb4;clear hb4 HB3 Hcall;go_wp2;go_ret2;exact⟨by rw[HNV.out,Hy.out];rfl,HB4.out⟩
 cases R with
 | nil=>exact main _ _ (fun _=>⟨rfl,rfl⟩) (fun _=>⟨rfl,rfl⟩) (fun v r h=>by cases h)
 | cons v r=>
  by_cases hh:HasE L clsT aliC
  ·simp only[if_pos hh];exact main _ _ (fun h=>by cases h) (fun h=>by rw[zAm hh] at hb;rw[<-hb] at h;cases h) (fun v' r' h _=>by cases h;exact⟨rfl,rfl⟩)
  ·simp only[if_neg hh];exact main _ _ (fun h=>by cases h) (fun _=>⟨rfl,rfl⟩) (fun v' r' _ h=>by rw[zAp hh] at hb;rw[<-hb] at h;cases h)
end Go.Proofs.YtdkekamkmlpnhaaGreatDoor
namespace Go.Proofs.YtdkekamkmlpnhaaGreatDoor
open Go.RowKit
theorem zPf (nm:List UInt8) (L:List EA) (w:World) (A:Option Addr) (n c:Nat) (xs:List Value) (hA:Has w w.heap.size 2 A n xs) (hL:EAs w w.heap.size xs L) (hn:n<=1000000)
  (hvs:∀a∈L,a.2.length<=1000000/\∀u∈a.2,u.length<=1000000) (hT:TM w):
  Calls Tryz.prog 132 #[.agg #[.string (txt nm),.slice A n c]] w fun e w'=>e=.returned (.tuple #[.string (txt (aliasE L).1),.bool (aliasE L).2])/\Below w.heap.size w w':=by
 have hb1:=below1 w (.cells #[.string (txt nm),.slice A n c] 38);have hX:=BoxE.new w (txt nm) A n c 38;obtain⟨w1,hw1⟩:∃w1,w.alloc (.cells #[.string (txt nm),.slice A n c] 38)=w1:=⟨_,rfl⟩;rw[hw1] at hb1 hX;have hVa:=fun w hA hL hT=>zGl nm L aliT w A n c xs hA hL hn hT
 have hHa:=fun w hA hL hT=>zNh nm L clsT aliC w A n c xs hA hL hn (by decide) (by decide) hvs hT
 have hlen:∀u∈valuesE L aliT,u.length<=1000000:=by
  unfold valuesE;split
  ·simp
  ·rcases zD2 L (typ aliT).1 with h | ⟨a,ha,h⟩
   ·rw [h];simp
   ·rw [h];exact (hvs a ha).2
 have hva:txt aliT=(⟨#[97,108,105,97,115,101,100,79,98,106,101,99,116,78,97,109,101]⟩:ByteArray):=rfl;have hc1:txt clsT=(⟨#[111,98,106,101,99,116,67,108,97,115,115]⟩:ByteArray):=rfl;have hc2:txt aliC=(⟨#[97,108,105,97,115]⟩:ByteArray):=rfl;have hVl:=fun v (hv:v∈valuesE L aliT) w hT=>zB9 aliT v (by decide) (hlen v hv) w hT
 rw[hva] at hVa hVl;rw[hc1,hc2] at hHa;have hdef:aliasE L=match valuesE L aliT with
  | v::_=>@ite _ (HasE L clsT aliC) (Classical.propDecidable _) ((valV aliT v).1,(valV aliT v).2==0) ([],false)
  | []=>([],false):=rfl
 rw[hdef];generalize valuesE L aliT=R at *;obtain⟨b,hb⟩:∃b,Tr (HasE L clsT aliC)=b:=⟨_,rfl⟩;rw[hb] at hHa;have HA:=hide ((hA.below hb1).upto hb1.size);have HL:=hide (hL.grow hb1);have HT:=hide (hT.below hb1);have HX:=hide hX;have HB:=hide hb1;have HVa:=hide hVa;have HHa:=hide hHa;have HVl:=hide hVl;have Hw1:=hide hw1;clear hb1 hX hw1 hVa hHa hVl hlen hva hc1 hc2 hdef hA hL hT hvs;generalize txt nm=SN at *;have main:∀(S:ByteArray) (bb:Bool),(R=[]->S=⟨#[]⟩/\bb=false)->(b=false->S=⟨#[]⟩/\bb=false)->(∀v r,R=v::r->b=true->S=txt (valV aliT v).1/\bb=((valV aliT v).2==0))->
   Calls Tryz.prog 132 #[.agg #[.string SN,.slice A n c]] w fun e w'=>e=.returned (.tuple #[.string S,.bool bb])/\Below w.heap.size w w':=by
  intro S bb h1 h2 h3;have H1:=hide h1;have H2:=hide h2;have H3:=hide h3;clear h1 h2 h3 hb;go_enter Tryz.func132,Tryz.ntmps132;go_upto_region 1 with fail;rw[Hw1.out];have x0:=HX.out.c0;have x1:=HX.out.c1;go_wp2_with (go_at_call 60;fail);refine (HVa.out _ HA.out HL.out HT.out).mono ?_;rintro e w2 hpost;obtain⟨A2,c2,rfl,hh2,_,_,hb2⟩:=hpost.out;have HX2:=hide (HX.out.grow hb2);have HA2:=hide ((HA.out.below hb2).upto hb2.size);have HL2:=hide (HL.out.grow hb2);have HT2:=hide (HT.out.below hb2);have HB2:=hTz HB hb2;have HR2:=hide hh2;clear hpost hb2 HX HA HL HT HB HVa x0 x1 Hw1 hh2;have x0:=HX2.out.c0;have x1:=HX2.out.c1;cases R with
  | nil=>
   obtain⟨rfl,rfl⟩:=H1.out rfl;clear H1 H2 H3 HVl HR2 HA2 HL2 HT2 HHa HX2;simp only[List.length_nil];go_wp2;go_ret2;exact⟨rfl,HB2.out⟩
  | cons v r=>
   have hk:(v::r).length=r.length+1:=rfl;rw[hk];have HR2:Hid (Has w2 w2.heap.size 1 A2 (r.length+1) (strs (v::r))):=hide (by rw[<-hk];exact HR2.out);obtain⟨k,hkk⟩:∃k,r.length=k:=⟨_,rfl⟩;rw[hkk] at HR2;rw[hkk];have hz:((((k+1:Nat):Int))==0)=false:=beq_false_of_ne (by omega);have hz2:¬(((k+1:Nat):Int))=0:=by omega
   clear hk hkk;go_wp2_with (go_at_call 106;fail);refine (HHa.out _ HA2.out HL2.out HT2.out).mono ?_;rintro e w3 ⟨rfl,hb3⟩;have HT3:=hide (HT2.out.below hb3);have HB3:=hTz HB2 hb3;have HR3:=hide ((HR2.out.below hb3).upto hb3.size);clear hb3 HX2 HA2 HL2 HT2 HB2 HHa x0 x1 HR2;cases b with
   | false=>
    obtain⟨rfl,rfl⟩:=H2.out rfl;clear H1 H2 H3 HR3 HVl;go_wp2;go_ret2;exact⟨rfl,HB3.out⟩
   | true=>
    obtain⟨rfl,rfl⟩:=H3.out v r rfl rfl;obtain⟨g,o,hAe,hg,hat⟩:=HR3.out.texts (by simp);subst hAe;have d0:=hat 0 v rfl;rw[Nat.add_zero] at d0;have Hcall:=hide (HVl.out v (by simp));have hlt:(0:Int)<((k+1:Nat):Int):=by omega
    generalize txt v=SV at *;obtain⟨y,hy⟩:∃y,(valV aliT v).2=y:=⟨_,rfl⟩;obtain⟨NV,hNV⟩:∃NV,txt (valV aliT v).1=NV:=⟨_,rfl⟩;rw[hy,hNV] at Hcall;have Hy:=hide hy;have HNV:=hide hNV;clear H1 H2 H3 HR3 HVl hat hy hNV;go_wp2_with (go_at_call 148;fail);refine (Hcall.out _ HT3.out).mono ?_;rintro e w4 ⟨rfl,hb4⟩;have HB4:=hTz HB3 hb4;clear hb4 HB3 Hcall;go_wp2;go_ret2;exact⟨by rw[HNV.out,Hy.out];rfl,HB4.out⟩
 cases R with
 | nil=>exact main _ _ (fun _=>⟨rfl,rfl⟩) (fun _=>⟨rfl,rfl⟩) (fun v r h=>by cases h)
 | cons v r=>
  by_cases hh:HasE L clsT aliC
  ·simp only[if_pos hh];exact main _ _ (fun h=>by cases h) (fun h=>by rw[zAm hh] at hb;rw[<-hb] at h;cases h) (fun v' r' h _=>by cases h;exact⟨rfl,rfl⟩)
  ·simp only[if_neg hh];exact main _ _ (fun h=>by cases h) (fun _=>⟨rfl,rfl⟩) (fun v' r' _ h=>by rw[zAp hh] at hb;rw[<-hb] at h;cases h)
end Go.Proofs.YtdkekamkmlpnhaaGreatDoor
namespace Go.Proofs.YtdkekamkmlpnhaaGreatDoor
open Go Go.RowKit
structure TreeR (w:World) (q:Nat) (N:List EN):Prop where
 out:∃A c xs,Blk w q [.slice A N.length c]/\HasP w (fun b=>b<w.heap.size) 3 A N.length xs/\NDsP w (fun b=>b<w.heap.size) xs N
theorem TreeR.grow {w w':World} {q:Nat} {N:List EN} (h:TreeR w q N) (hb:Below w.heap.size w w'):TreeR w' q N:=by
 obtain⟨A,c,xs,h1,h2,h3⟩:=h.out;exact⟨⟨A,c,xs,h1.grow hb,h2.move (fun p hp=>hb.cell hp) fun b hb2=>Nat.lt_of_lt_of_le hb2 hb.size,h3.move (fun p hp=>hb.cell hp) fun b hb2=>Nat.lt_of_lt_of_le hb2 hb.size⟩⟩
structure FitN (N:List EN):Prop where
 len:N.length<=100000
 path:∀e∈N,(pathV e.1).length<=1000000
 attrs:∀e∈N,e.2.length<=1000000/\∀a∈e.2,a.2.length<=1000000/\∀u∈a.2,u.length<=1000000
theorem zK7 (nm:List UInt8) (L:List EA) (w:World) (A:Option Addr) (n c:Nat) (xs:List Value) (hA:Has w w.heap.size 2 A n xs) (hL:EAs w w.heap.size xs L) (hn:n<=1000000) (hvs:∀a∈L,a.2.length<=1000000/\∀u∈a.2,u.length<=1000000) (hT:TM w):
  Calls Tryz.prog 84 #[.agg #[.string (txt nm),.slice A n c]] w fun e w'=>e=.returned (.bool (aliasE L).2)/\Below w.heap.size w w':=by
 have hb1:=below1 w (.cells #[.string (txt nm),.slice A n c] 38);have hX:=BoxE.new w (txt nm) A n c 38;obtain⟨w1,hw1⟩:∃w1,w.alloc (.cells #[.string (txt nm),.slice A n c] 38)=w1:=⟨_,rfl⟩;rw[hw1] at hb1 hX;have HP:=hide (zPf nm L w1 A n c xs ((hA.below hb1).upto hb1.size) (hL.grow hb1) hn hvs (hT.below hb1));have x0:=hX.c0;have x1:=hX.c1;have HB1:=hide hb1;have Hw1:=hide hw1;clear hA hL hvs hT hb1 hX hw1;generalize txt (aliasE L).1=T at *;generalize (aliasE L).2=b at *;generalize txt nm=S at *;go_enter Tryz.func84,Tryz.ntmps84;go_upto_region 1 with fail;rw[Hw1.out];clear Hw1;obtain⟨h,hh⟩:∃h,w.heap.size=h:=⟨_,rfl⟩;rw[hh] at x0 x1;(try rw[hh]);clear hh;go_wp2_with (go_at_call 132;fail);refine HP.out.mono ?_;rintro e w2 ⟨rfl,hb⟩;have HB:=hTz HB1 hb;clear hb HP HB1 x0 x1;go_wp2;go_ret;exact⟨rfl,HB.out⟩
open Classical in
noncomputable def parentC (N:List EN) (K:List (List UInt8)):Int:=
 if K=[] then 0 else if ∃e∈N,pathV e.1=K then (if ∃e∈N,pathV e.1=K/\(aliasE e.2).2=true then 64 else 0) else 32
theorem SortedP.one {N:List EN} (h:SortedP N) {a b:EN} (ha:a∈N) (hb:b∈N) (e:pathV a.1=pathV b.1):a=b:=by
 obtain⟨i,hi,rfl⟩:=List.mem_iff_getElem.1 ha;obtain⟨j,hj,rfl⟩:=List.mem_iff_getElem.1 hb;rcases Nat.lt_trichotomy i j with hij | rfl | hij
 ·have:=List.pairwise_iff_getElem.1 h i j hi hj hij;rw[e,zCl] at this;omega
 ·rfl
 ·have:=List.pairwise_iff_getElem.1 h j i hj hi hij;rw[e,zCl] at this;omega
theorem zL1 (N:List EN) (K:List (List UInt8)) (w:World) (q:Nat) (P:Option Addr) (m d:Nat) (hR:TreeR w q N) (hs:SortedP N) (hf:FitN N) (hm:K.length=m) (hP:Has w w.heap.size 1 P m (strs K)) (hT:TM w):
  Calls Tryz.prog 56 #[.pointer (some ⟨q,0,none⟩),.slice P m d] w fun e w'=>e=.returned (.int .i64 (parentC N K))/\Below w.heap.size w w':=by
 obtain⟨R,hRR⟩:∃R,parentC N K=R:=⟨_,rfl⟩;rw[hRR];unfold parentC at hRR;by_cases h0:K=[]
 ·rw [if_pos h0] at hRR;subst h0 hRR;obtain rfl:0=m:=hm;clear hR hs hf hP hT;go_enter Tryz.func56,Tryz.ntmps56;go_wp2;go_ret;exact⟨rfl,Below.refl _ _⟩
 ·rw [if_neg h0] at hRR;have hm0:m≠0:=by rw[<-hm];simpa using h0
  have q0:((m:Int)==0)=false:=beq_false_of_ne (by omega);have q1:¬((m:Int)=0):=by omega
  obtain⟨A,c,xs,h1,h2,h3⟩:=hR.out;have HF:=hide (zGy N K w q A c xs P m d h1 h2 h3 hs (by have:=hf.len;omega) hf.path hP);have HR:=hide hR;have HS:=hide hs;have HFi:=hide hf;have HT:=hide hT;have HRR:=hide hRR;clear hR hs hf hP hT hRR h1 h2 h3 hm h0 hm0;go_enter Tryz.func56,Tryz.ntmps56;go_wp2_with (go_at_call 55;fail);refine HF.out.mono ?_;rintro e w2 hpost;obtain⟨k,b,rfl,hk,hyes,hno,hb2⟩:=hpost.out;cases b with
  | false=>
   have hR:Hid ((32:Int)=R):=hide (by rw[<-HRR.out,if_neg];rintro ⟨x,hx,e⟩;exact hno rfl x hx e);have HB:=hide hb2;clear hpost hyes hno hb2 HF HR HS HFi HT HRR;go_wp2;go_ret;exact⟨by rw[hR.out];rfl,HB.out⟩
  | true=>
   obtain⟨x,hx,hpx⟩:=hyes rfl;have hxm:=List.mem_of_getElem? hx;obtain⟨A2,c2,xs2,h1,h2,h3⟩:=(HR.out.grow hb2).out;obtain⟨g,o,rfl,hg,hat⟩:=h2.nd h3 (fun h=>by rw[h] at hx;simp at hx) (B:=w2.heap.size) fun b hb=>hb
   obtain⟨V,cv,ys,Q,dq,hn⟩:=hat k x hx;have k0:=h1.cells 0 _ rfl;have c0:=hn.c0;have c1:=hn.c1;have hfx:=HFi.out.attrs x hxm;have HA:=hide (zK7 x.1 x.2 w2 V x.2.length cv ys hn.has hn.attrs hfx.1 hfx.2 (HT.out.below hb2));have hR:Hid ((if (aliasE x.2).2=true then (64:Int) else 0)=R):=hide (by
    have h9:=HRR.out
    rw[if_pos ⟨x,hxm,hpx⟩] at h9
    rw[<-h9]
    by_cases hal:(aliasE x.2).2=true
    ·rw [if_pos hal,if_pos ⟨x,hxm,hpx,hal⟩]
    ·rw [if_neg hal,if_neg]
     rintro ⟨y,hy,hpy,hya⟩
     rw[HS.out.one hy hxm (hpy.trans hpx.symm)] at hya
     exact hal hya)
   have hkn:((k:Int)<(N.length:Int)):=by have:=(List.getElem?_eq_some_iff.1 hx).1;omega
   have HB:=hide hb2;generalize txt x.1=SX at *;obtain⟨kx,hkx⟩:∃z,x.2.length=z:=⟨_,rfl⟩;rw[hkx] at c1 HA;obtain⟨nn,hnn⟩:∃z,N.length=z:=⟨_,rfl⟩;rw[hnn] at k0 hkn;generalize (aliasE x.2).2=ba at *;clear hpost hyes hno hb2 HF HR HS HFi HT HRR hx hpx hxm h1 h2 h3 hg hat hn hfx hkx hnn hk;go_wp2_with (go_at_call 84;fail);refine HA.out.mono ?_;rintro e w3 ⟨rfl,hb3⟩;have HB3:=hTz HB hb3;clear hb3 HA HB c0 c1 k0;cases ba with
   | true=>
    go_wp2;go_ret;exact⟨by rw[<-hR.out];rfl,HB3.out⟩
   | false=>
    go_wp2;go_ret;exact⟨by rw[<-hR.out];rfl,HB3.out⟩
def RoomP (N:List EN) (K:List (List UInt8)):Prop:=(¬∃e∈N,pathV e.1=K)/\parentC N K.dropLast=0
theorem zJt {w:World} {B k:Nat} {P:Option Addr} {K:List (List UInt8)} (h:Has w B 1 P (k+1) (strs K)):Has w B 1 P k (strs K.dropLast):=by
 have hl:K.length=k+1:=by have:=h.1;simpa[strs] using this
 have hs:strs K.dropLast=(strs K).take k:=by unfold strs;rw[List.dropLast_eq_take,hl,List.map_take];simp
 rw[hs];refine⟨by rw[List.length_take];have:=h.1;omega,?_⟩;rcases h.2 with h2 | ⟨ad,e,hb,hc⟩
 ·have:=h.1;rw[h2] at this;simp at this
 ·refine .inr ⟨ad,e,hb,fun j u hu=>hc j u ?_⟩;rw[List.getElem?_take] at hu;split at hu
  ·exact hu
  ·cases hu
theorem zJ9 (N:List EN) (K:List (List UInt8)) (w:World) (q:Nat) (P:Option Addr) (m d:Nat) (hR:TreeR w q N) (hs:SortedP N) (hf:FitN N) (hm:K.length=m+1) (hm6:m<=1000000) (hmd:m+1<=d) (hd:d<=maxLen) (hP:Has w w.heap.size 1 P (m+1) (strs K)) (hT:TM w):
  Calls Tryz.prog 31 #[.pointer (some ⟨q,0,none⟩),.slice P (m+1) d] w fun e w'=>e=.returned (.bool (Tr (RoomP N K)))/\Below w.heap.size w w':=by
 obtain⟨R,hRR⟩:∃R,Tr (RoomP N K)=R:=⟨_,rfl⟩;rw[hRR];obtain⟨A,c,xs,h1,h2,h3⟩:=hR.out;obtain⟨g,o,rfl,hg,_⟩:=hP.lies (by unfold strs;rw[List.length_map,hm];omega);have HF:=hide (zGy N K w q A c xs (some ⟨g,o,none⟩) (m+1) d h1 h2 h3 hs (by have:=hf.len;omega) hf.path hP);have HA:=hide (fun w' (hb:Below w.heap.size w w')=>zL1 N K.dropLast w' q (some ⟨g,o,none⟩) m d (hR.grow hb) hs hf (by rw[List.length_dropLast,hm];rfl) (((zJt hP).below hb).upto hb.size) (hT.below hb));have HRR:=hide hRR;clear hR hs hf hP hT hRR h1 h2 h3 hm hg;obtain⟨pc,hpc⟩:∃z,parentC N K.dropLast=z:=⟨_,rfl⟩;rw[hpc] at HA;have Hpc:=hide hpc;clear hpc;go_enter Tryz.func31,Tryz.ntmps31;go_wp2_with (go_at_call 55;fail);refine HF.out.mono ?_;rintro e w2 hpost;obtain⟨k,b,rfl,hk,hyes,hno,hb2⟩:=hpost.out;cases b with
 | true=>
  have hR:Hid (false=R):=hide (by
   rw[<-HRR.out,zAp]
   rintro ⟨h,_⟩
   obtain⟨x,hx,hpx⟩:=hyes rfl
   exact h ⟨x,List.mem_of_getElem? hx,hpx⟩)
  have HB:=hide hb2;clear hpost hyes hno hb2 HF HA HRR Hpc hk;go_wp2;go_ret;exact⟨by rw[<-hR.out];rfl,HB.out⟩
 | false=>
  have hn9:=hno rfl;have HA2:=hide (HA.out w2 hb2);have HB:=hide hb2;by_cases h0:pc=0
  ·have hR:Hid (true=R):=hide (by
    rw[<-HRR.out,zAm]
    exact⟨by rintro ⟨x,hx,e⟩;exact hn9 x hx e,by rw[Hpc.out,h0]⟩)
   subst h0;clear hpost hyes hno hb2 HF HA HRR Hpc hk hn9;go_wp2_with (go_at_call 56;fail);refine HA2.out.mono ?_;rintro e w3 ⟨rfl,hb3⟩;have HB3:=hTz HB hb3;clear hb3 HA2 HB;go_wp2;go_ret;exact⟨by rw[<-hR.out];rfl,HB3.out⟩
  ·have q0:(pc==0)=false:=beq_false_of_ne h0;have hR:Hid (false=R):=hide (by
    rw[<-HRR.out,zAp]
    rintro ⟨_,h⟩
    exact h0 (Hpc.out.symm.trans h))
   clear hpost hyes hno hb2 HF HA HRR Hpc hk hn9;go_wp2_with (go_at_call 56;fail);refine HA2.out.mono ?_;rintro e w3 ⟨rfl,hb3⟩;have HB3:=hTz HB hb3;clear hb3 HA2 HB;go_wp2;go_ret;exact⟨by rw[<-hR.out];simp[q0],HB3.out⟩
end Go.Proofs.YtdkekamkmlpnhaaGreatDoor
