/- Several texts in one: LState, LRead1, LRead2, LFields, LInner, LInner2. By an AI agent. -/
import Derived.Test.YtcpjmgfloimfhaaGreatM02
import Derived.Test.YtcpjmgfloimfhaaGreatM01
set_option linter.unusedSimpArgs false
set_option linter.unusedVariables false
set_option maxRecDepth 100000
set_option maxHeartbeats 16000000
namespace Go.Proofs.YtcpjmgfloimfhaaGreat
open Go.RowKit
structure Fr (X:Nat->Prop) (w w':World):Prop where
 os:w'.os=w.os
 tape:w'.tape=w.tape
 output:w'.output=w.output
 size:w.heap.size<=w'.heap.size
 same:∀k,k<w.heap.size->¬X k->w'.heap[k]?=w.heap[k]?
section
variable {X Y:Nat->Prop} {w w' w1:World}
theorem Fr.refl (X:Nat->Prop) (w:World):Fr X w w:=⟨rfl,rfl,rfl,Nat.le_refl _,fun _ _ _=>rfl⟩
theorem Fr.trans (h:Fr X w w1) (k:Fr X w1 w'):Fr X w w':=
 ⟨k.os.trans h.os,k.tape.trans h.tape,k.output.trans h.output,Nat.le_trans h.size k.size,fun i hi hx=>(k.same i (Nat.lt_of_lt_of_le hi h.size) hx).trans (h.same i hi hx)⟩
theorem Fr.mono (h:Fr X w w') (hx:∀k,k<w.heap.size->X k->Y k):Fr Y w w':=⟨h.os,h.tape,h.output,h.size,fun i hi hy=>h.same i hi fun q=>hy (hx i hi q)⟩
theorem Fr.trans' (h:Fr X w w1) (k:Fr Y w1 w') (hx:∀i,i<w.heap.size->Y i->X i):Fr X w w':=
 ⟨k.os.trans h.os,k.tape.trans h.tape,k.output.trans h.output,Nat.le_trans h.size k.size,fun i hi hn=>(k.same i (Nat.lt_of_lt_of_le hi h.size) (fun q=>hn (hx i hi q))).trans (h.same i hi hn)⟩
theorem Fr.of (h:Below w.heap.size w w'):Fr X w w':=⟨h.os,h.tape,h.output,h.size,fun i hi _=>h.block i hi⟩
theorem Fr.below {B:Nat} (h:Fr X w w') (hB:B<=w.heap.size) (hx:∀k,X k->B<=k):Below B w w':=
 ⟨h.os,h.tape,h.output,h.size,fun i hi=>h.same i (by omega) fun q=>by have:=hx i q;omega⟩
theorem Fr.setCell (w:World) (p:Addr) (u:Value) (hp:X p.block):Fr X w (w.setCell p u):=
 ⟨rfl,rfl,rfl,by simp[World.setCell],fun i _ hx=>Below.heap_setCell w p u i (fun e=>hx (e ▸ hp))⟩
theorem Fr.alloc (X:Nat->Prop) (w:World) (o:Obj):Fr X w (w.alloc o):=Fr.of ((Below.refl _ w).alloc (Nat.le_refl _) o)
theorem Fr.drew (X:Nat->Prop) (w:World):Fr X w w.drew:=Fr.of (Below.refl _ w).drew
theorem Fr.cell (h:Fr X w w') {p:Addr} (hp:p.block<w.heap.size) (hx:¬X p.block):w'.cell? p=w.cell? p:=World.cell?_of_block (w:=w) (h.same p.block hp hx)
theorem Fr.frozen (h:Fr X w w') {p:Addr} (hp:p.block<w.heap.size) (hx:¬X p.block):w'.frozen? p=w.frozen? p:=World.frozen?_of_block (w:=w) (h.same p.block hp hx)
theorem Fr.grown {row:Option Nat} (hg:w.grownBy w' row) (hr:∀k,row=some k->X k):Fr X w w':=
 ⟨hg.os,hg.tape,hg.output,hg.size,fun i hi hx=>hg.block i hi fun e=>hx (hr i e.symm)⟩
theorem HasP.fr {P P':Nat->Prop} {size n:Nat} {A:Option Addr} {xs:List Value} (h:HasP w P size A n xs) (hf:Fr X w w') (hP:∀b,P b->b<w.heap.size/\¬X b/\P' b):HasP w' P' size A n xs:=
 h.move (fun p hp=>hf.cell (hP _ hp).1 (hP _ hp).2.1) fun b hb=>(hP b hb).2.2
theorem HasP.lies {P:Nat->Prop} {size n:Nat} {A:Option Addr} {xs:List Value} (h:HasP w P size A n xs) (hn:0<xs.length):∃g o,A=some ⟨g,o,none⟩/\P g/\∀j u,xs[j]?=some u->w.cell? ⟨g,o+j,none⟩=some u:=by
 rcases h.2 with rfl | ⟨ad,rfl,hb,hc⟩
 ·simp at hn
 ·obtain ⟨g,o,sp⟩:=ad
  have h0:=hc 0 _ (List.getElem?_eq_getElem hn)
  have hsp:sp=none:=by simpa[Addr.add] using World.cell?_spot h0
  subst hsp
  refine⟨g,o,rfl,hb,fun j u hu=>?_⟩
  have:=hc j u hu
  rwa [show (⟨g,o,none⟩:Addr).add j=⟨g,o+j,none⟩ by unfold Addr.add;split<;>simp_all] at this
theorem HasP.tail {P:Nat->Prop} {n g o:Nat} {x:Value} {xs:List Value} (h:HasP w P 1 (some ⟨g,o,none⟩) (n+1) (x::xs)):HasP w P 1 (some ⟨g,o+1,none⟩) n xs:=by
 have h1:=h.1
 refine⟨by simpa using h1,?_⟩
 rcases h.2 with h0 | ⟨ad,e,hb,hc⟩
 ·cases h0
 ·cases e
  refine .inr ⟨_,rfl,hb,fun j u hu=>?_⟩
  have:=hc (j+1) u (by simpa using hu)
  have e:(⟨g,o,none⟩:Addr).add (j+1)=(⟨g,o+1,none⟩:Addr).add j:=by
   unfold Addr.add
   split<;>split<;>simp_all<;>omega
  rwa [e] at this
theorem HasP.none {P:Nat->Prop} {size:Nat} (w:World):HasP w P size none 0 []:=⟨by simp,.inl rfl⟩
end
structure RdS (w:World) (lo g b:Nat) (F:List Fd) (φ:Bool):Prop where
 lt:g<w.heap.size
 log:lo<=g
 blo:b<lo
 mem:∃A c A' c' xs,w.cell? ⟨g,0,none⟩=some (.slice A F.length c)/\w.cell? ⟨g,1,none⟩=some (.slice A' F.length c')/\(F.length<=c/\c<=maxLen/\F.length<=c'/\c'<=maxLen)/\
  HasP w (fun k=>lo<=k/\k<g) 1 A F.length (bys (F.map Prod.fst))/\HasP w (fun k=>lo<=k/\k<g) 1 A' F.length xs/\
  ∀(i:Nat) (f:Fd),F[i]?=some f->∃B d,xs[i]?=some (Value.slice B f.2.length d)/\f.2.length<=d/\d<=maxLen/\HasP w (fun k=>lo<=k/\k<g) 1 B f.2.length (bys f.2)
 c2:w.cell? ⟨g,2,none⟩=some (.pointer (some ⟨b,0,none⟩))
 fz:∀i,w.frozen? ⟨g,i,none⟩=false
 fc:w.cell? ⟨b,0,none⟩=some (.bool φ)
 fzb:∀i,w.frozen? ⟨b,i,none⟩=false
 small:F.length<=16384/\∀f∈F,f.2.length<=16384
section
variable {w w':World} {lo g b:Nat} {F:List Fd} {φ:Bool} {X:Nat->Prop}
theorem RdS.fr (h:RdS w lo g b F φ) (hf:Fr X w w') (hg:¬X g) (hb:¬X b) (hI:∀k,lo<=k->k<g->¬X k):RdS w' lo g b F φ:=by
 have hlt:=h.lt
 have hlog:=h.log
 have hblo:=h.blo
 refine⟨Nat.lt_of_lt_of_le h.lt hf.size,h.log,h.blo,?_,(hf.cell h.lt hg).trans h.c2,fun i=>(hf.frozen h.lt hg).trans (h.fz i),(hf.cell (by simp only;omega) hb).trans h.fc,fun i=>(hf.frozen (by simp only;omega) hb).trans (h.fzb i),h.small⟩
 obtain⟨A,c,A',c',xs,h1,h2,h3,h4,h5,h6⟩:=h.mem
 have key:∀k,(lo<=k/\k<g)->k<w.heap.size/\¬X k/\(lo<=k/\k<g):=fun k hk=>⟨by omega,hI k hk.1 hk.2,hk⟩
 refine⟨A,c,A',c',xs,(hf.cell h.lt hg).trans h1,(hf.cell h.lt hg).trans h2,h3,h4.fr hf key,h5.fr hf key,fun i f hi=>?_⟩
 obtain⟨B,d,q1,q2,q3,q4⟩:=h6 i f hi
 exact⟨B,d,q1,q2,q3,q4.fr hf key⟩
def own2 (g b:Nat):Nat->Prop:=fun k=>k=g\/k=b
theorem RdS.failed (h:RdS w lo g b F φ):RdS (w.setCell ⟨b,0,none⟩ (.bool true)) lo g b F true:=by
 have hlog:=h.log
 have hblo:=h.blo
 have hf:Fr (fun k=>k=b) w (w.setCell ⟨b,0,none⟩ (.bool true)):=Fr.setCell w _ _ rfl
 have h1:=h.lt
 have kb:∀k,k<w.heap.size->k≠b->(w.setCell ⟨b,0,none⟩ (.bool true)).heap[k]?=w.heap[k]?:=fun k hk hn=>hf.same k hk hn
 obtain⟨A,c,A',c',xs,q1,q2,q3,q4,q5,q6⟩:=h.mem
 have key:∀k,(lo<=k/\k<g)->k<w.heap.size/\¬(k=b)/\(lo<=k/\k<g):=fun k hk=>⟨by omega,by omega,hk⟩
 have hgb:¬(g=b):=by omega
 refine⟨Nat.lt_of_lt_of_le h.lt hf.size,h.log,h.blo,⟨A,c,A',c',xs,(hf.cell h.lt hgb).trans q1,(hf.cell h.lt hgb).trans q2,q3,q4.fr hf key,q5.fr hf key,fun i f hi=>?_⟩,(hf.cell h.lt hgb).trans h.c2,fun i=>(hf.frozen h.lt hgb).trans (h.fz i),
  World.cell?_setCell_same _ _ _ h.fc,fun i=>by rw[World.frozen?_setCell];exact h.fzb i,h.small⟩
 obtain⟨B,d,p1,p2,p3,p4⟩:=q6 i f hi
 exact⟨B,d,p1,p2,p3,p4.fr hf key⟩
theorem RdS.step {f:Fd} {gt ot ct gc oc cc:Nat} {A1 A2:Option Addr} (hA1:F=[]\/A1=some ⟨gt,ot+1,none⟩) (hA2:F=[]\/A2=some ⟨gc,oc+1,none⟩) (h:RdS w lo g b (f::F) φ) (e0:w.cell? ⟨g,0,none⟩=some (.slice (some ⟨gt,ot,none⟩) (F.length+1) ct)) (e1:w.cell? ⟨g,1,none⟩=some (.slice (some ⟨gc,oc,none⟩) (F.length+1) cc)):
  RdS ((w.setCell ⟨g,0,none⟩ (.slice A1 F.length (ct-1))).setCell ⟨g,1,none⟩ (.slice A2 F.length (cc-1))) lo g b F φ:=by
 have hlog:=h.log
 have hblo:=h.blo
 have h1:=h.lt
 obtain⟨A,c,A',c',xs,q1,q2,q3,q4,q5,q6⟩:=h.mem
 rw[e0] at q1
 rw[e1] at q2
 simp only[Option.some.injEq,Value.slice.injEq,List.length_cons] at q1 q2
 obtain⟨rfl,_,rfl⟩:=q1
 obtain⟨rfl,_,rfl⟩:=q2
 have hf1:Fr (fun k=>k=g) w (w.setCell ⟨g,0,none⟩ (.slice A1 F.length (ct-1))):=Fr.setCell w _ _ rfl
 have hf2:Fr (fun k=>k=g) (w.setCell ⟨g,0,none⟩ (.slice A1 F.length (ct-1))) ((w.setCell ⟨g,0,none⟩ (.slice A1 F.length (ct-1))).setCell ⟨g,1,none⟩ (.slice A2 F.length (cc-1))):=Fr.setCell _ _ _ rfl
 have hf:=hf1.trans hf2
 have key:∀k,(lo<=k/\k<g)->k<w.heap.size/\¬(k=g)/\(lo<=k/\k<g):=fun k hk=>⟨by omega,by omega,hk⟩
 have hbg:¬(b=g):=by omega
 have hbs:b<w.heap.size:=by omega
 simp only[List.length_cons] at q3 q4 q5
 obtain⟨r1,r2,r3,r4⟩:=q3
 obtain⟨x,ys,rfl⟩:∃x ys,xs=x::ys:=by
  cases xs with
  | nil=>have:=q5.1;simp at this
  | cons x ys=>exact⟨x,ys,rfl⟩
 have t4:=HasP.tail (x:=c8 f.1) (xs:=bys (F.map Prod.fst)) (by simpa[bys] using q4)
 have t5:=HasP.tail q5
 have t4:HasP w (fun k=>lo<=k/\k<g) 1 A1 F.length (bys (F.map Prod.fst)):=by
  rcases hA1 with rfl | rfl
  ·exact ⟨rfl,.inl rfl⟩
  ·exact t4
 have t5:HasP w (fun k=>lo<=k/\k<g) 1 A2 F.length ys:=by
  rcases hA2 with rfl | rfl
  ·have:=t5.1
   exact⟨this,.inl (List.eq_nil_of_length_eq_zero (by simpa using this))⟩
  ·exact t5
 refine⟨Nat.lt_of_lt_of_le h.lt hf.size,h.log,h.blo,⟨_,ct-1,_,cc-1,ys,?_,?_,⟨by omega,by omega,by omega,by omega⟩,t4.fr hf key,t5.fr hf key,fun i f' hi=>?_⟩,?_,fun i=>by rw[World.frozen?_setCell,World.frozen?_setCell];exact h.fz i,
  (hf.cell (p:=⟨b,0,none⟩) hbs hbg).trans h.fc,fun i=>by rw[World.frozen?_setCell,World.frozen?_setCell];exact h.fzb i,⟨by have:=h.small.1;simp at this;omega,fun f' hf'=>h.small.2 f' (List.mem_cons_of_mem _ hf')⟩⟩
 ·rw [World.cell?_setCell_other _ _ _ _ (by simp)]
  exact World.cell?_setCell_same _ _ _ e0
 ·refine World.cell?_setCell_same _ _ _ (u:=.slice (some ⟨gc,oc,none⟩) (F.length+1) cc) ?_
  rw[World.cell?_setCell_other _ _ _ _ (by simp)]
  exact e1
 ·obtain ⟨B,d,p1,p2,p3,p4⟩:=q6 (i+1) f' (by simpa using hi)
  exact⟨B,d,by simpa using p1,p2,p3,p4.fr hf key⟩
 ·rw [World.cell?_setCell_other _ _ _ _ (by simp),World.cell?_setCell_other _ _ _ _ (by simp)]
  exact h.c2
theorem RdS.back (h:RdS w lo g b F φ):b<w.heap.size:=by have:=h.lt;have:=h.log;have:=h.blo;omega
end
structure RdPost {α:Type} (rep:World->(Nat->Prop)->α->Value->Prop) (p:Rdr α) (w:World) (X:Nat->Prop) (lo g b:Nat) (F:List Fd) (φ:Bool) (e:Ending) (w':World):Prop where
 out:∃x v F',e=.returned v/\rep w' (fun k=>w.heap.size<=k/\k<w'.heap.size) x v/\RdS w' lo g b F' (φ||(p F).isNone)/\Fr X w w'/\(φ=false->∀x0 F0,p F=some (x0,F0)->x=x0/\F'=F0)
def repT:World->(Nat->Prop)->List UInt8->Value->Prop:=fun _ _ x v=>v=.string (txt x)
def repI:World->(Nat->Prop)->Int->Value->Prop:=fun _ _ x v=>v=.int .i64 x
def repB:World->(Nat->Prop)->Bool->Value->Prop:=fun _ _ x v=>v=.bool x
theorem fail_b (w:World) (lo g b:Nat) (F:List Fd) (φ:Bool) (h:RdS w lo g b F φ):
  Calls Tryz.prog 78 #[.pointer (some ⟨g,0,none⟩)] w fun e w'=>e=.returned (.tuple #[])/\RdS w' lo g b F true/\Fr (fun k=>k=b) w w':=by
 have HR:=hide h.failed
 have c2:=h.c2
 have fc:=h.fc
 have fz:=h.fzb
 clear h
 go_enter Tryz.func78,Tryz.ntmps78
 go_wp2
 go_returns
 exact⟨rfl,HR.out,Fr.setCell _ _ _ rfl⟩
theorem zBi (w:World) (lo g b:Nat) (F:List Fd) (φ:Bool) (h:RdS w lo g b F φ):
  Calls Tryz.prog 78 #[.pointer (some ⟨g,0,none⟩)] w fun e w'=>e=.returned (.tuple #[])/\RdS w' lo g b F true/\Fr (own2 g b) w w':=
 (fail_b w lo g b F φ h).mono fun e w' q=>⟨q.1,q.2.1,q.2.2.mono fun _ _ r=>.inr r⟩
theorem RdS.c0 {w:World} {lo g b:Nat} {F:List Fd} {φ:Bool} (h:RdS w lo g b F φ):∃A c,w.cell? ⟨g,0,none⟩=some (.slice A F.length c):=by
 obtain⟨A,c,A',c',xs,q1,_⟩:=h.mem
 exact⟨A,c,q1⟩
def moreB (F:List Fd) (φ:Bool):Bool:= !φ&& !F.isEmpty
theorem zA6 (w:World) (lo g b:Nat) (F:List Fd) (φ:Bool) (h:RdS w lo g b F φ):
  Calls Tryz.prog 79 #[.pointer (some ⟨g,0,none⟩)] w fun e w'=>e=.returned (.bool (moreB F φ))/\w'=w:=by
 have c2:=h.c2
 have fc:=h.fc
 obtain⟨A,c,c0⟩:=h.c0
 cases φ with
 | true=>
  clear h c0
  go_enter Tryz.func79,Tryz.ntmps79
  go_wp2
  go_ret
  exact⟨rfl,rfl⟩
 | false=>
  cases F with
  | nil=>
   clear h
   go_enter Tryz.func79,Tryz.ntmps79
   go_wp2
   go_ret
   exact⟨rfl,rfl⟩
  | cons x F=>
   rw[List.length_cons] at c0
   obtain⟨n,hn⟩:∃n,F.length+1=n:=⟨_,rfl⟩
   rw[hn] at c0
   have z:(0:Int)<(n:Int):=by omega
   have z0:0<n:=by omega
   clear h hn
   go_enter Tryz.func79,Tryz.ntmps79
   go_wp2
   go_ret
   exact⟨by simp[moreB,z0],rfl⟩
theorem RdS.hd {w:World} {lo g b:Nat} {f:Fd} {F:List Fd} {φ:Bool} (h:RdS w lo g b (f::F) φ):∃gt ot ct gc oc cc B d,w.cell? ⟨g,0,none⟩=some (.slice (some ⟨gt,ot,none⟩) (F.length+1) ct)/\w.cell? ⟨g,1,none⟩=some (.slice (some ⟨gc,oc,none⟩) (F.length+1) cc)/\
  w.cell? ⟨gt,ot,none⟩=some (c8 f.1)/\w.cell? ⟨gc,oc,none⟩=some (.slice B f.2.length d)/\(F.length+1<=ct/\ct<=maxLen/\F.length+1<=cc/\cc<=maxLen)/\(f.2.length<=d/\d<=maxLen)/\HasP w (fun k=>lo<=k/\k<g) 1 B f.2.length (bys f.2):=by
 obtain⟨A,c,A',c',xs,q1,q2,q3,q4,q5,q6⟩:=h.mem
 obtain⟨B,d,p1,p2,p3,p4⟩:=q6 0 f rfl
 obtain⟨gt,ot,rfl,_,k1⟩:=q4.lies (by simp[bys])
 obtain⟨gc,oc,rfl,_,k2⟩:=q5.lies (by rw[q5.1];simp)
 exact⟨gt,ot,c,gc,oc,c',B,d,q1,q2,k1 0 _ (by simp[bys]),k2 0 _ p1,by simpa using q3,⟨p2,p3⟩,p4⟩
theorem next_any (w:World) (lo g b:Nat) (F:List Fd) (φ:Bool) (t:UInt8) (h:RdS w lo g b F φ):
  Calls Tryz.prog 126 #[.pointer (some ⟨g,0,none⟩),c8 t] w fun e w'=>e=.returned (.bool (!φ&&Rd.nextIs t F))/\w'=w:=by
 have hM:=zA6 w lo g b F φ h
 have hc8:∀x:UInt8,c8 x=.int .u8 (x.toNat:Int):=fun _=>rfl
 cases φ with
 | true=>
  rw[show moreB F true=false from rfl] at hM
  clear h
  go_enter Tryz.func126,Tryz.ntmps126
  go_wp2_with (go_at_call 79;fail)
  refine hM.mono ?_
  rintro e w1 ⟨rfl,rfl⟩
  go_wp2
  go_ret
  exact⟨rfl,rfl⟩
 | false=>
  cases F with
  | nil=>
   rw[show moreB [] false=false from rfl] at hM
   clear h
   go_enter Tryz.func126,Tryz.ntmps126
   go_wp2_with (go_at_call 79;fail)
   refine hM.mono ?_
   rintro e w1 ⟨rfl,rfl⟩
   go_wp2
   go_ret
   exact⟨rfl,rfl⟩
  | cons x F=>
   rw[show moreB (x::F) false=true from rfl] at hM
   obtain⟨gt,ot,ct,gc,oc,cc,B,d,e0,e1,k1,k2,_,_,_⟩:=h.hd
   obtain⟨n,hn⟩:∃n,F.length+1=n:=⟨_,rfl⟩
   rw[hn] at e0
   have z:(0:Int)<(n:Int):=by omega
   obtain⟨t',x2⟩:=x
   simp only at k1
   rw[hc8] at k1 ⊢
   have hv:Rd.nextIs t ((t',x2)::F)=(t'==t):=rfl
   have hq:(((t'.toNat:Int))==((t.toNat:Int)))=(t'==t):=by
    by_cases h:t'=t
    ·subst h;simp
    ·rw [beq_false_of_ne h];exact beq_false_of_ne fun e=>h (UInt8.toNat_inj.1 (by omega))
   rw[hv,<-hq]
   clear h hn hv hq e1 k2
   go_enter Tryz.func126,Tryz.ntmps126
   go_wp2_with (go_at_call 79;fail)
   refine hM.mono ?_
   rintro e w1 ⟨rfl,rfl⟩
   go_wp2
   go_ret
   exact⟨by simp,rfl⟩
structure TakePost (t:UInt8) (w:World) (lo g b:Nat) (F:List Fd) (φ:Bool) (e:Ending) (w':World):Prop where
 out:∃A c x F',e=.returned (.slice A x.length c)/\x.length<=c/\c<=maxLen/\x.length<=16384/\HasP w' (fun k=>lo<=k/\k<g) 1 A x.length (bys x)/\RdS w' lo g b F' (φ||(Rd.takeR t F).isNone)/\Fr (own2 g b) w w'/\(φ=false->∀x0 F0,Rd.takeR t F=some (x0,F0)->x=x0/\F'=F0)
theorem TakePost.no {t:UInt8} {w w':World} {lo g b:Nat} {F:List Fd} {φ:Bool} (hr:RdS w' lo g b F true) (hf:Fr (own2 g b) w w') (hno:φ=true\/Rd.takeR t F=none):TakePost t w lo g b F φ (.returned (.slice none 0 0)) w':=by
 refine⟨none,0,[],F,rfl,Nat.le_refl _,Nat.zero_le _,Nat.zero_le _,HasP.none _,?_,hf,fun h x0 F0 h0=>?_⟩
 ·have:(φ||(Rd.takeR t F).isNone)=true:=by
   rcases hno with h | h
   ·rw [h];rfl
   ·rw [h];simp
  rw[this];exact hr
 ·rcases hno with h' | h'
  ·rw [h'] at h;cases h
  ·rw [h'] at h0;cases h0
theorem take_any (w:World) (lo g b:Nat) (F:List Fd) (φ:Bool) (t:UInt8) (h:RdS w lo g b F φ):
  Calls Tryz.prog 80 #[.pointer (some ⟨g,0,none⟩),c8 t] w (TakePost t w lo g b F φ):=by
 have hN:=next_any w lo g b F φ t h
 have hno:(!φ&&Rd.nextIs t F)=false->φ=true\/Rd.takeR t F=none:=by
  intro h0
  cases φ with
  | true=>exact .inl rfl
  | false=>
   right
   cases F with
   | nil=>rfl
   | cons x F=>
    obtain⟨t',x2⟩:=x
    simp only[Rd.nextIs,Bool.not_false,Bool.true_and,beq_eq_false_iff_ne] at h0
    simp only[Rd.takeR]
    rw[if_neg h0]
 cases hb:(!φ&&Rd.nextIs t F) with
 | false=>
  have hno:=hide (hno hb)
  have hF:=zBi w lo g b F φ h
  rw[hb] at hN
  clear h hb
  go_enter Tryz.func80,Tryz.ntmps80
  go_wp2_with (go_at_call 126;fail)
  refine hN.mono ?_
  rintro e w1 ⟨rfl,rfl⟩
  go_wp2_with (go_at_call 78;fail)
  refine hF.mono ?_
  rintro e w2 ⟨rfl,hr,hf⟩
  clear hN hF
  go_wp2
  go_ret
  exact TakePost.no hr hf hno.out
 | true=>
  rw[hb] at hN
  clear hno
  cases φ with
  | true=>cases hb
  | false=>
  cases F with
  | nil=>cases hb
  | cons x F=>
  obtain⟨t',x2⟩:=x
  obtain rfl:t'=t:=by simpa[Rd.nextIs] using hb
  obtain⟨gt,ot,ct,gc,oc,cc,B,d,e0,e1,k1,k2,k3,k4,k5⟩:=h.hd
  have hs0:=h.hd
  have ha1:F=[]\/(if ct=1 then some ⟨gt,ot,none⟩ else some ⟨gt,ot+1,none⟩)=some (⟨gt,ot+1,none⟩:Addr):=by
   by_cases q:ct=1
   ·exact .inl (List.eq_nil_of_length_eq_zero (by omega))
   ·exact .inr (if_neg q)
  have ha2:F=[]\/(if cc=1 then some ⟨gc,oc,none⟩ else some ⟨gc,oc+1,none⟩)=some (⟨gc,oc+1,none⟩:Addr):=by
   by_cases q:cc=1
   ·exact .inl (List.eq_nil_of_length_eq_zero (by omega))
   ·exact .inr (if_neg q)
  have e0d:w.drew.cell? ⟨g,0,none⟩=some (.slice (some ⟨gt,ot,none⟩) (F.length+1) ct):=e0
  have e1d:w.drew.cell? ⟨g,1,none⟩=some (.slice (some ⟨gc,oc,none⟩) (F.length+1) cc):=e1
  have hfzd:∀i,w.drew.frozen? ⟨g,i,none⟩=false:=h.fz
  have hltd:g<w.drew.heap.size:=h.lt
  have hx2:x2.length<=16384:=h.small.2 _ List.mem_cons_self
  have hT:Rd.takeR t' ((t',x2)::F)=some (x2,F):=by simp[Rd.takeR]
  have hlt:=h.lt
  have hfz:=h.fz
  have hfr2:Fr (fun k=>k=g) w ((w.setCell ⟨g,0,none⟩ (.slice (if ct=1 then some ⟨gt,ot,none⟩ else some ⟨gt,ot+1,none⟩) F.length (ct-1))).setCell ⟨g,1,none⟩ (.slice (if cc=1 then some ⟨gc,oc,none⟩ else some ⟨gc,oc+1,none⟩) F.length (cc-1))):=(Fr.setCell (X:=fun k=>k=g) _ _ _ rfl).trans (Fr.setCell (X:=fun k=>k=g) _ _ _ rfl)
  have hfr:Fr (own2 g b) w ((w.setCell ⟨g,0,none⟩ (.slice (if ct=1 then some ⟨gt,ot,none⟩ else some ⟨gt,ot+1,none⟩) F.length (ct-1))).setCell ⟨g,1,none⟩ (.slice (if cc=1 then some ⟨gc,oc,none⟩ else some ⟨gc,oc+1,none⟩) F.length (cc-1))):=hfr2.mono fun _ _ hk=>.inl hk
  have hs1:=h.step ha1 ha2 e0 e1
  have HS:=hide (hs1.fr (Fr.drew (fun _=>False) _) id id (fun _ _ _=>id))
  have hP:=(k5.fr hfr2 (P':=fun k=>lo<=k/\k<g) (fun k hk=>⟨by omega,by omega,hk⟩)).fr (Fr.drew (fun _=>False) _) (P':=fun k=>lo<=k/\k<g) (fun k hk=>⟨by have:=hs1.lt;omega,id,hk⟩)
  have HP:=hide hP
  have HF:=hide (hfr.trans (Fr.drew (own2 g b) _))
  have HT:=hide hT
  simp only at k1 k2 k4
  obtain⟨m,hm⟩:∃m,x2.length=m:=⟨_,rfl⟩
  obtain⟨n,hn⟩:∃n,F.length=n:=⟨_,rfl⟩
  have Hn:=hide hn
  have Hm:=hide hm
  have Hk4:=hide k4
  have Hx2:=hide hx2
  rw[hm] at k2
  rw[hn] at e0 e1 e0d e1d k3
  obtain⟨z1,z2,z3,z4⟩:=k3
  unfold maxLen at z2 z4
  have zz:(1:Int)<=(n:Int)+1:=by omega
  have zz2:(n:Int)+1<=(ct:Int):=by omega
  have zz3:(n:Int)+1<=(cc:Int):=by omega
  have zz4:(n:Int)+1<=9223372036854775807:=by omega
  clear h hs1 hs0 ha1 ha2 hb k5 hT hP hfr hfr2 hm hn k1 k4 hx2
  go_enter Tryz.func80,Tryz.ntmps80
  go_wp2_with (go_at_call 126;fail)
  refine hN.mono ?_
  rintro e w1 ⟨rfl,hw1⟩
  obtain rfl:=hw1
  clear hN
  go_wp2
  refine zAp (upOf) [14,17] (by kernel_rfl) ?_
  refine zAe 0 (some 18) rfl rfl (by kernel_rfl) rfl (by rfl) (fun W=>by go_simp<;>with_reducible rfl) ?_
  try simp only[pU]
  refine zAe 1 (some 19) rfl rfl (by kernel_rfl) rfl (by rfl) (fun W=>by go_simp<;>with_reducible rfl) ?_
  try simp only[pU]
  refine zAe 2 (some 20) rfl rfl (by kernel_rfl) rfl (by rfl) (fun W=>by go_simp<;>with_reducible rfl) ?_
  try simp only[pU]
  refine zAe 3 (some 21) rfl rfl (by kernel_rfl) rfl (by rfl) (fun W=>by go_simp<;>with_reducible rfl) ?_
  try simp only[pU]
  refine zAe 4 (some 22) rfl rfl (by kernel_rfl) rfl (by rfl) (fun W=>by go_simp<;>with_reducible rfl) ?_
  try simp only[pU]
  refine zAm 5 (some 23) (v:=?vt5) rfl rfl (by kernel_rfl) rfl (by kernel_rfl) (by rfl) (fun W hW=>?yt5) ?_
  case yt5=>
   have e0W:W.cell? ⟨g,0,none⟩=some (.slice (some ⟨gt,ot,none⟩) (n+1) ct):=by rw[hW.cell (p:=⟨g,0,none⟩) hltd];exact e0d
   go_simp<;>with_reducible rfl
  try simp only[pU]
  refine zAe 6 (some 24) rfl rfl (by kernel_rfl) rfl (by rfl) (fun W=>by go_simp<;>with_reducible rfl) ?_
  try simp only[pU]
  refine zAe 7 (some 25) rfl rfl (by kernel_rfl) rfl (by rfl) (fun W=>by go_simp<;>with_reducible rfl) ?_
  try simp only[pU]
  refine zAe 8 (some 26) rfl rfl (by kernel_rfl) rfl (by rfl) (fun W=>by go_simp<;>with_reducible rfl) ?_
  try simp only[pU]
  refine zAe 9 (some 27) rfl rfl (by kernel_rfl) rfl (by rfl) (fun W=>by go_simp<;>with_reducible rfl) ?_
  try simp only[pU]
  refine zAm 10 (some 28) (v:=?vt10) rfl rfl (by kernel_rfl) rfl (by kernel_rfl) (by rfl) (fun W hW=>?yt10) ?_
  case yt10=>
   have e1W:W.cell? ⟨g,1,none⟩=some (.slice (some ⟨gc,oc,none⟩) (n+1) cc):=by rw[hW.cell (p:=⟨g,1,none⟩) hltd];exact e1d
   go_simp<;>with_reducible rfl
  try simp only[pU]
  refine zAe 11 (some 29) rfl rfl (by kernel_rfl) rfl (by rfl) (fun W=>by go_simp<;>with_reducible rfl) ?_
  try simp only[pU]
  refine zAe 12 (some 30) rfl rfl (by kernel_rfl) rfl (by rfl) (fun W=>by go_simp<;>with_reducible rfl) ?_
  try simp only[pU]
  refine zAe 13 (some 31) rfl rfl (by kernel_rfl) rfl (by rfl) (fun W=>by go_simp<;>with_reducible rfl) ?_
  try simp only[pU]
  refine zAf 14 rfl (by kernel_rfl) (fun K hK=>?_)
  go_simp
  refine hK.out _ _ (fun h=>absurd (by decide) h) ?_
  clear hK K
  refine zAe 15 (some 32) rfl rfl (by kernel_rfl) rfl (by rfl) (fun W=>by go_simp<;>with_reducible rfl) ?_
  try simp only[pU]
  refine zAe 16 (some 33) rfl rfl (by kernel_rfl) rfl (by rfl) (fun W=>by go_simp<;>with_reducible rfl) ?_
  try simp only[pU]
  refine zAf 17 rfl (by kernel_rfl) (fun K hK=>?_)
  go_simp
  refine hK.out _ _ (fun h=>absurd (by decide) h) ?_
  clear hK K
  refine zAj (by kernel_rfl) ?_ _
  clear e0 e1 e0d e1d k2 zz zz2 zz3 zz4 z1 z2 z3 z4 hlt hltd hfz hfzd
  rw[Hn.out] at HS HP HF
  generalize (if ct=1 then some (⟨gt,ot,none⟩:Addr) else some ⟨gt,ot+1,none⟩)=A1 at *
  generalize (if cc=1 then some (⟨gc,oc,none⟩:Addr) else some ⟨gc,oc+1,none⟩)=A2 at *
  generalize ((w1.setCell ⟨g,0,none⟩ (.slice A1 n (ct-1))).setCell ⟨g,1,none⟩ (.slice A2 n (cc-1))).drew=wz at *
  go_wp2
  go_ret
  refine⟨_,_,x2,F,by rw[Hm.out];rfl,Hk4.out.1,Hk4.out.2,Hx2.out,HP.out,by rw[HT.out];exact HS.out,HF.out,fun _ x0 F0 h0=>by rw[HT.out] at h0;simpa using h0⟩
theorem test_take {α:Type} {t:UInt8} {F F':List Fd} {φ:Bool} {x:List UInt8} {ok:List UInt8->Option α} {p:Rdr α} (hp:p F=match Rd.takeR t F with | some (c,r)=>(ok c).map fun y=>(y,r) | none=>none)
  (hx:φ=false->∀x0 F0,Rd.takeR t F=some (x0,F0)->x=x0/\F'=F0):
  (ok x=none->(φ||(p F).isNone)=true)/\(∀y,ok x=some y->(φ||(p F).isNone)=(φ||(Rd.takeR t F).isNone)/\(φ=false->∀x0 F0,p F=some (x0,F0)->y=x0/\F'=F0)):=by
 rw[hp]
 cases φ with
 | true=>exact⟨fun _=>rfl,fun y _=>⟨rfl,fun h=>by cases h⟩⟩
 | false=>
  cases ht:Rd.takeR t F with
  | none=>exact⟨fun _=>rfl,fun y _=>⟨rfl,fun _ x0 F0 h0=>by cases h0⟩⟩
  | some q=>
   obtain⟨c,r⟩:=q
   obtain⟨rfl,rfl⟩:=hx rfl _ _ ht
   refine⟨fun h=>?_,fun y h=>?_⟩
   ·simp only[h];rfl
   ·simp only[h]
    exact⟨rfl,fun _ x0 F0 h0=>by simpa using h0⟩
theorem tagged_eq (t:UInt8) (F:List Fd):Rd.taggedR t F=match Rd.takeR t F with | some (c,r)=>(if c.length<=1000 then some c else none).map fun y=>(y,r) | none=>none:=by
 unfold Rd.taggedR
 cases Rd.takeR t F with
 | none=>rfl
 | some q=>obtain⟨c,r⟩:=q;simp only;split<;>rfl
theorem num_eq (t:UInt8) (most:Int) (F:List Fd):Rd.numR t most F=match Rd.takeR t F with | some (c,r)=>(if (Ber.toInt c).2=0/\0<=(Ber.toInt c).1/\(Ber.toInt c).1<=most then some (Ber.toInt c).1 else none).map fun y=>(y,r) | none=>none:=by
 unfold Rd.numR
 cases Rd.takeR t F with
 | none=>rfl
 | some q=>obtain⟨c,r⟩:=q;simp only;split<;>rfl
theorem flag_eq (F:List Fd):Rd.flagR F=match Rd.takeR 1 F with | some (c,r)=>(if (Ber.toBool c).2=0 then some (Ber.toBool c).1 else none).map fun y=>(y,r) | none=>none:=by
 unfold Rd.flagR
 cases Rd.takeR 1 F with
 | none=>rfl
 | some q=>obtain⟨c,r⟩:=q;simp only;split<;>rfl
theorem own_range {lo g b:Nat} (hb:b<lo):∀k,lo<=k->k<g->¬own2 g b k:=fun k h1 h2 h=>by rcases h with h | h<;>omega
theorem tagged_any (w:World) (lo g b:Nat) (F:List Fd) (φ:Bool) (t:UInt8) (h:RdS w lo g b F φ):
  Calls Tryz.prog 128 #[.pointer (some ⟨g,0,none⟩),c8 t] w (RdPost repT (Rd.taggedR t) w (own2 g b) lo g b F φ):=by
 go_enter Tryz.func128,Tryz.ntmps128
 go_wp2_with (go_at_call 80;fail)
 refine (take_any w lo g b F φ t h).mono ?_
 rintro e w1 hpost
 obtain⟨A,c,x,F',rfl,hc,hm,hx,hP,hr,hf,hq⟩:=hpost.out
 clear hpost
 have hTT:=test_take (tagged_eq t F) hq
 have HFl:=hide (zBi w1 lo g b F' _ hr)
 obtain⟨m,hm2⟩:∃m,x.length=m:=⟨_,rfl⟩
 have hlog:=h.log
 have hblo:=h.blo
 have hlt1:=hr.lt
 rw[hm2] at hx hc hP ⊢
 by_cases hl:1000<m
 ·have z:(1000:Int)<(m:Int):=by omega
  have hno:=hTT.1 (by rw[if_neg (by omega)])
  have Hno:=hide hno
  have HP:=hide hP
  have Hlo:=hide (And.intro hlog hblo)
  have Hlt:=hide hlt1
  clear hTT hno hq hP hlog hblo hm2 hlt1
  go_wp2_with (go_at_call 78;fail)
  refine HFl.out.mono ?_
  rintro e w2 ⟨rfl,hr2,hf2⟩
  have hfT:=hf.trans hf2
  have hP2:=HP.out.fr hf2 (P':=fun k=>k<w2.heap.size) (fun k hk=>⟨by have:=Hlt.out;omega,own_range Hlo.out.2 k hk.1 hk.2,by have:=hr2.lt;omega⟩)
  have htx:=txt8 w2 c (hP2.has (B:=w2.heap.size) (fun _ h=>h))
  clear hP2
  go_wp2
  go_ret
  exact⟨⟨x,_,F',rfl,rfl,by rw[Hno.out];exact hr2,hfT,fun h0 x0 F0 hh=>by have:=Hno.out;rw[h0,hh] at this;cases this⟩⟩
 ·have z:¬((1000:Int)<(m:Int)):=by omega
  have hyes:=hTT.2 x (by rw[if_pos (by omega)])
  have Hyes:=hide hyes
  have htx:=txt8 w1 c (hP.has (B:=w1.heap.size) (fun k hk=>by omega))
  clear hTT hyes hq hP HFl hlog hblo hm2 hlt1
  go_wp2
  go_ret
  exact⟨⟨x,_,F',rfl,rfl,by rw[Hyes.out.1];exact hr,hf,Hyes.out.2⟩⟩
theorem zA3 (w:World) (lo g b:Nat) (F:List Fd) (φ:Bool) (h:RdS w lo g b F φ):
  Calls Tryz.prog 130 #[.pointer (some ⟨g,0,none⟩)] w (RdPost repT Rd.textR w (own2 g b) lo g b F φ):=by
 have hT:=tagged_any w lo g b F φ 4 h
 rw[show c8 4=.int .u8 4 from rfl] at hT
 clear h
 go_enter Tryz.func130,Tryz.ntmps130
 go_wp2_with (go_at_call 128;fail)
 refine hT.mono ?_
 rintro e w1 hpost
 obtain⟨x,v,F',rfl,hv,h1,h2,h3⟩:=hpost.out
 clear hpost hT
 unfold repT at hv
 subst hv
 go_wp2
 go_ret
 exact⟨⟨x,_,F',rfl,rfl,h1,h2,h3⟩⟩
theorem zBr (w:World) (lo g b:Nat) (F:List Fd) (φ:Bool) (t:UInt8) (most:Int) (h:RdS w lo g b F φ):
  Calls Tryz.prog 81 #[.pointer (some ⟨g,0,none⟩),c8 t,.int .i64 most] w (RdPost repI (Rd.numR t most) w (own2 g b) lo g b F φ):=by
 go_enter Tryz.func81,Tryz.ntmps81
 go_wp2_with (go_at_call 80;fail)
 refine (take_any w lo g b F φ t h).mono ?_
 rintro e w1 hpost
 obtain⟨A,c,x,F',rfl,hc,hm,hx,hP,hr,hf,hq⟩:=hpost.out
 clear hpost
 have hTT:=test_take (num_eq t most F) hq
 have HFl:=hide (zBi w1 lo g b F' _ hr)
 have hti:=Ber.toint_any w1 w1.heap.size A x.length c x (hP.has (B:=w1.heap.size) (fun k hk=>by have:=hr.lt;omega)) hc hm
 obtain⟨n,E,hnE⟩:∃n E,Ber.toInt x=(n,E):=⟨_,_,rfl⟩
 rw[hnE] at hti hTT
 simp only at hti hTT
 clear hP hq hc hm hx
 go_wp2_with (go_at_call 127;fail)
 refine hti.mono ?_
 rintro e w9 ⟨rfl,hw9⟩
 obtain rfl:=hw9
 clear hti hnE h
 by_cases ok:E=0/\0<=n/\n<=most
 ·have hyes:=hTT.2 n (by rw[if_pos ok])
  have Hyes:=hide hyes
  obtain⟨rfl,h2,h3⟩:=ok
  have z2:¬(n<0):=by omega
  have z3:¬(most<n):=by omega
  clear hTT hyes HFl
  go_wp2
  go_ret
  exact⟨⟨n,_,F',rfl,rfl,by rw[Hyes.out.1];exact hr,hf,Hyes.out.2⟩⟩
 ·have hno:=hTT.1 (by rw[if_neg ok])
  have Hno:=hide hno
  have fin:∀(w2:World),RdS w2 lo g b F' true->Fr (own2 g b) w w2->RdPost repI (Rd.numR t most) w (own2 g b) lo g b F φ (.returned (.int .i64 n)) w2:=fun w2 q1 q2=>⟨⟨n,_,F',rfl,rfl,by rw[Hno.out];exact q1,q2,fun h0 x0 F0 hh=>by have:=Hno.out;rw[h0,hh] at this;cases this⟩⟩
  have Fin:=hide fin
  clear hTT hno fin
  by_cases k1:E=0
  ·subst k1
   by_cases k2:n<0
   ·clear ok
    go_wp2_with (go_at_call 78;fail)
    refine HFl.out.mono ?_
    rintro e w2 ⟨rfl,hr2,hf2⟩
    have hfT:=hf.trans hf2
    go_wp2
    go_ret
    exact Fin.out _ hr2 hfT
   ·have k3:most<n:=by omega
    clear ok
    go_wp2_with (go_at_call 78;fail)
    refine HFl.out.mono ?_
    rintro e w2 ⟨rfl,hr2,hf2⟩
    have hfT:=hf.trans hf2
    go_wp2
    go_ret
    exact Fin.out _ hr2 hfT
  ·have z1:(E==0)=false:=beq_false_of_ne k1
   have z2:(E !=0)=true:=by unfold bne;rw[z1];rfl
   clear ok
   go_wp2_with (go_at_call 78;fail)
   refine HFl.out.mono ?_
   rintro e w2 ⟨rfl,hr2,hf2⟩
   have hfT:=hf.trans hf2
   go_wp2
   go_ret
   exact Fin.out _ hr2 hfT
theorem flag_any (w:World) (lo g b:Nat) (F:List Fd) (φ:Bool) (h:RdS w lo g b F φ):
  Calls Tryz.prog 135 #[.pointer (some ⟨g,0,none⟩)] w (RdPost repB Rd.flagR w (own2 g b) lo g b F φ):=by
 go_enter Tryz.func135,Tryz.ntmps135
 go_wp2_with (go_at_call 80;fail)
 refine (take_any w lo g b F φ 1 h).mono ?_
 rintro e w1 hpost
 obtain⟨A,c,x,F',rfl,hc,hm,hx,hP,hr,hf,hq⟩:=hpost.out
 clear hpost
 have hTT:=test_take (flag_eq F) hq
 have HFl:=hide (zBi w1 lo g b F' _ hr)
 have hti:=Ber.tobool_any w1 w1.heap.size A x.length c x (hP.has (B:=w1.heap.size) (fun k hk=>by have:=hr.lt;omega)) hc hm
 obtain⟨n,E,hnE⟩:∃n E,Ber.toBool x=(n,E):=⟨_,_,rfl⟩
 rw[hnE] at hti hTT
 simp only at hti hTT
 clear hP hq hc hm hx
 go_wp2_with (go_at_call 162;fail)
 refine hti.mono ?_
 rintro e w9 ⟨rfl,hw9⟩
 obtain rfl:=hw9
 clear hti hnE h
 by_cases ok:E=0
 ·have hyes:=hTT.2 n (by rw[if_pos ok])
  have Hyes:=hide hyes
  subst ok
  clear hTT hyes HFl
  go_wp2
  go_ret
  exact⟨⟨n,_,F',rfl,rfl,by rw[Hyes.out.1];exact hr,hf,Hyes.out.2⟩⟩
 ·have hno:=hTT.1 (by rw[if_neg ok])
  have Hno:=hide hno
  have z1:(E==0)=false:=beq_false_of_ne ok
  have z2:(E !=0)=true:=by unfold bne;rw[z1];rfl
  clear hTT hno ok
  go_wp2_with (go_at_call 78;fail)
  refine HFl.out.mono ?_
  rintro e w2 ⟨rfl,hr2,hf2⟩
  have hfT:=hf.trans hf2
  go_wp2
  go_ret
  exact⟨⟨n,_,F',rfl,rfl,by rw[Hno.out];exact hr2,hfT,fun h0 x0 F0 hh=>by have:=Hno.out;rw[h0,hh] at this;cases this⟩⟩
theorem own_formQ {w:World} {base n:Nat} {e:TypeId} {v:Value} {xs:List Value} (h:w.ownsRow base e 1 v n xs):∃A c,v=.slice A n c/\n<=c/\c<=maxLen/\HasP w (fun b=>base<=b/\b<w.heap.size) 1 A n xs:=by
 obtain⟨A,c,rfl,h1,h2⟩:=zA5 h
 obtain⟨A',c',he,_,h3,_⟩:=Ber.own_form' h
 cases he
 exact⟨A,c,rfl,h1,h3,h2⟩
namespace Rd
theorem listGo_code:∀(f:Nat) (T:List UInt8) (L:List (List UInt8)) (rem:List UInt8),(Ber.listGo f T L rem).2.2≠0->(Ber.listGo f T L rem).1=[]/\(Ber.listGo f T L rem).2.1=[]
 | 0,T,L,rem,h=>absurd rfl h
 | f+1,T,L,rem,h=>by
  rw[Ber.listGo] at h ⊢
  split
  ·rename_i hr;rw[if_pos hr] at h;exact absurd rfl h
  ·rename_i hr
   rw[if_neg hr] at h
   split
   ·exact ⟨rfl,rfl⟩
   ·rename_i hc
    rw[if_neg hc] at h
    exact listGo_code f _ _ _ h
theorem listGo_len:∀(f:Nat) (T:List UInt8) (L:List (List UInt8)) (rem:List UInt8),T.length=L.length->(Ber.listGo f T L rem).1.length=(Ber.listGo f T L rem).2.1.length/\(Ber.listGo f T L rem).1.length<=T.length+rem.length/\∀x∈(Ber.listGo f T L rem).2.1,x∈L\/x.length<=rem.length
 | 0,T,L,rem,h=>⟨h,by simp[Ber.listGo],fun x hx=>.inl hx⟩
 | f+1,T,L,rem,h=>by
  rw[Ber.listGo]
  split
  ·exact ⟨h,by simp,fun x hx=>.inl hx⟩
  ·rename_i hr
   have h1:=(Ber.takeOf_less rem hr).1
   have h2:=Ber.takeOf_le rem
   split
   ·exact ⟨rfl,by simp,fun x hx=>by cases hx⟩
   ·obtain ⟨q1,q2,q3⟩:=listGo_len f (T++[UInt8.ofNat (Ber.takeOf rem).1]) (L++[(Ber.takeOf rem).2.1]) (Ber.takeOf rem).2.2.1 (by simp[h])
    refine⟨q1,by simp at q2;omega,fun x hx=>?_⟩
    rcases q3 x hx with h3 | h3
    ·rcases List.mem_append.1 h3 with h4 | h4
     ·exact .inl h4
     ·simp only[List.mem_singleton] at h4
      subst h4
      right
      omega
    ·right;omega
end Rd
theorem rd_of_kept {w1:World} {tv cv:Value} {T:List UInt8} {xs:List Value} {L:List (List UInt8)} {lo b:Nat} {φ:Bool} (hk:Ber.Kept w1 lo tv cv T xs L) (hl:T.length=L.length) (hn:T.length<=16384) (hs:∀x∈L,x.length<=16384)
  (hlo:lo<=w1.heap.size) (hb:b<lo) (hfc:w1.cell? ⟨b,0,none⟩=some (.bool φ)) (hfz:∀i,w1.frozen? ⟨b,i,none⟩=false):
  RdS (w1.alloc (.cells #[tv,cv,.pointer (some ⟨b,0,none⟩)] 124)) lo w1.heap.size b (T.zip L) φ:=by
 have hz:(T.zip L).length=T.length:=by rw[List.length_zip,hl];omega
 obtain⟨A,c,rfl,h1,h2,h3⟩:=own_formQ hk.tags
 obtain⟨A',c',rfl,h4,h5,h6⟩:=own_formQ hk.outer
 have hf:Fr (fun _=>False) w1 (w1.alloc (.cells #[.slice A T.length c,.slice A' L.length c',.pointer (some ⟨b,0,none⟩)] 124)):=Fr.alloc _ _ _
 have key:∀k,(lo<=k/\k<w1.heap.size)->k<w1.heap.size/\¬False/\(lo<=k/\k<w1.heap.size):=fun k hk=>⟨hk.2,id,hk⟩
 have hbl:b<w1.heap.size:=by omega
 refine⟨by simp,hlo,hb,⟨A,c,A',c',xs,?_,?_,by rw[hz];exact⟨h1,h2,by omega,h5⟩,?_,?_,fun i f hi=>?_⟩,?_,fun i=>World.frozen?_alloc_at _ _ _ _ rfl,(hf.cell (p:=⟨b,0,none⟩) hbl id).trans hfc,fun i=>(hf.frozen (p:=⟨b,i,none⟩) hbl id).trans (hfz i),by omega,fun f hf=>?_⟩
 ·rw [World.cell?_alloc_at (hn:=by simp),hz];rfl
 ·rw [World.cell?_alloc_at (hn:=by simp),hz,hl];rfl
 ·rw [hz,List.map_fst_zip (by omega)]
  exact h3.fr hf key
 ·exact (show ∀k,k=L.length->HasP _ _ 1 A' k xs from fun k hk=>by rw[hk];exact h6.fr hf key) _ (hz.trans hl)
 ·obtain ⟨hi',he⟩:=List.getElem?_eq_some_iff.1 hi
  rw[List.getElem_zip] at he
  subst he
  have hiL:i<L.length:=by rw[hz] at hi';omega
  obtain⟨B,d,e1,hH,_,_,hnew⟩:=hk.els i L[i] (List.getElem?_eq_getElem hiL)
  refine⟨B,d,e1,hnew.2.1,hnew.2.2,?_⟩
  have hHP:HasP w1 (fun k=>lo<=k/\k<w1.heap.size) 1 B L[i].length (bys L[i]):=by
   refine⟨hH.1,?_⟩
   rcases hH.2 with h0 | ⟨ad,rfl,hb',hc'⟩
   ·exact .inl h0
   ·rcases hnew.1 with hn0 | hn1
    ·rw [hn0];exact .inl rfl
    ·exact .inr ⟨ad,rfl,⟨hn1 _ rfl,hb'⟩,hc'⟩
  exact hHP.fr hf key
 ·rw [World.cell?_alloc_at (hn:=by simp)];rfl
 ·exact hs _ (List.of_mem_zip (a:=f.1) (b:=f.2) hf).2
structure InPost {α:Type} (St:α->World->Prop) (p:Rdr α) (w:World) (X:Nat->Prop) (lo g b:Nat) (F:List Fd) (φ:Bool) (e:Ending) (w':World):Prop where
 out:∃x F',e=.returned (.tuple #[])/\St x w'/\RdS w' lo g b F' (φ||(p F).isNone)/\Fr X w w'/\(φ=false->∀x0 F0,p F=some (x0,F0)->x=x0/\F'=F0)
def own3 (C:Nat->Prop) (g b:Nat):Nat->Prop:=fun k=>k=g\/k=b\/C k
structure FdPost {α:Type} (St:α->World->Prop) (p:Rdr α) (l:List UInt8) (w:World) (X:Nat->Prop) (b:Nat) (φ:Bool) (e:Ending) (w':World):Prop where
 out:∃x,e=.returned (.tuple #[])/\St x w'/\w'.cell? ⟨b,0,none⟩=some (.bool (φ||(Rd.wholeR l p).isNone))/\(∀i,w'.frozen? ⟨b,i,none⟩=false)/\Fr X w w'/\(φ=false->∀x0,Rd.wholeR l p=some x0->x=x0)
def ClosedBy {α:Type} (St:α->World->Prop) (C:Nat->Prop) (p:Rdr α) (w:World) (b:Nat) (gk:Nat) (lb:Array Value):Prop:=
 ∀(W:World) (lo g:Nat) (F:List Fd) (φ:Bool),Fr (fun k=>k=b) w W->w.heap.size<=lo->RdS W lo g b F φ->Calls Tryz.prog gk (#[.pointer (some ⟨g,0,none⟩)]++lb) W (InPost St p W (own3 C g b) lo g b F φ)
theorem whole_of {α:Type} {p:Rdr α} {l:List UInt8} {G:List Fd} (h:Rd.fieldsOf l=some G):Rd.wholeR l p=match p G with | some (x,[])=>some x | _=>none:=by
 unfold Rd.wholeR
 simp only[h]
 cases p G with
 | none=>rfl
 | some q=>obtain⟨x,r⟩:=q;cases r<;>rfl
theorem whole_no {α:Type} {p:Rdr α} {l:List UInt8} (h:Rd.fieldsOf l=none):Rd.wholeR l p=none:=by
 unfold Rd.wholeR;simp only[h]
theorem fields_any {α:Type} (St:α->World->Prop) (C:Nat->Prop) (p:Rdr α) (w:World) (b:Nat) (gk:Nat) (lb:Array Value) (A:Option Addr) (c:Nat) (l:List UInt8) (φ:Bool)
  (eg:∀args w,(callFunc gk args).run Tryz.prog w=.ok (.enter gk args) w) (hcl:ClosedBy St C p w b gk lb)
  (hst:∀x W W',St x W->Fr (fun k=>k=b) W W'->St x W') (hC:∀k,C k->k<w.heap.size/\k≠b)
  (hH:Has w w.heap.size 1 A l.length (bys l)) (hc:l.length<=c) (hm:c<=maxLen) (hl:l.length<=16384)
  (hb:b<w.heap.size) (hfc:w.cell? ⟨b,0,none⟩=some (.bool φ)) (hfz:∀i,w.frozen? ⟨b,i,none⟩=false):
  Calls Tryz.prog 26 #[.slice A l.length c,.pointer (some ⟨b,0,none⟩),.func (.func gk) #[] lb] w (FdPost St p l w (fun k=>k=b\/C k) b φ):=by
 obtain⟨R,hR⟩:∃R,Ber.listGo l.length [] [] l=R:=⟨_,rfl⟩
 have hL:=Ber.list_of w A l.length c l R hH hc hm (Nat.le_refl _) (by omega) (hide hR)
 have hlen:=Rd.listGo_len l.length [] [] l rfl
 have hcode:=Rd.listGo_code l.length [] [] l
 rw[hR] at hlen hcode
 have hfo:Rd.fieldsOf l=if R.2.2=0 then some (R.1.zip R.2.1) else none:=by unfold Rd.fieldsOf;rw[hR]
 obtain⟨Tg,L,E⟩:=R
 simp only at hlen hcode hfo
 obtain⟨h1,h2,h3⟩:=hlen
 simp only[List.length_nil,Nat.zero_add] at h2
 have hs:∀x∈L,x.length<=16384:=fun x hx=>by
  rcases h3 x hx with h | h
  ·cases h
  ·omega
 have HL:=hide hL
 have Hfo:=hide hfo
 have Hcode:=hide hcode
 have Hcl:=hide hcl
 have Hst:=hide hst
 have HC:=hide hC
 have Hs:=hide hs
 have Hb:=hide hb
 have Hfc:=hide hfc
 have Hfz:=hide hfz
 have H12:=hide (And.intro h1 h2)
 have Hll:=hide hl
 clear hL hfo hcode hcl hst hC hs hb hfc hfz h1 h2 h3 hH hR hm hl
 obtain⟨m,hml⟩:∃m,l.length=m:=⟨_,rfl⟩
 rw[hml] at HL hc ⊢
 clear hc
 go_enter Tryz.func26,Tryz.ntmps26
 go_wp2_with (go_at_call 77;fail)
 refine HL.out.mono ?_
 rintro e w1 ⟨tv,cv,xs,rfl,hk,hb1⟩
 simp only at hk
 have hr:=rd_of_kept (b:=b) (φ:=φ) hk H12.out.1 (by have:=H12.out.2;have:=Hll.out;omega) Hs.out hb1.size Hb.out ((hb1.cell (p:=⟨b,0,none⟩) Hb.out).trans Hfc.out) (fun i=>(hb1.frozen (p:=⟨b,i,none⟩) Hb.out).trans (Hfz.out i))
 obtain⟨At,ct,rfl,_⟩:=own_form hk.tags
 obtain⟨Ac,cc,rfl,_⟩:=own_form hk.outer
 obtain⟨w2,hw2⟩:∃w2,w1.alloc (.cells #[.slice At Tg.length ct,.slice Ac L.length cc,.pointer (some ⟨b,0,none⟩)] 124)=w2:=⟨_,rfl⟩
 rw[hw2] at hr
 have hf2:Fr (fun _=>False) w w2:=(Fr.of hb1).trans (by rw[<-hw2];exact Fr.alloc _ _ _)
 have Hw2:=hide hw2
 have Hr:=hide hr
 have Hf2:=hide hf2
 have Hb1:=hide hb1
 simp only
 clear hk hb1 hr hf2 hw2 HL hml
 obtain⟨g,hg⟩:∃g,w1.heap.size=g:=⟨_,rfl⟩
 have Hg:=hide hg
 rw[hg] at Hr
 have hlog:Hid (w.heap.size<=g):=hide (by rw[<-hg];exact Hb1.out.size)
 clear hg Hb1
 by_cases he:E=0
 ·subst he
  have hF:Rd.fieldsOf l=some (Tg.zip L):=by have:=Hfo.out;rwa [if_pos rfl] at this
  have HF:=hide hF
  clear hF Hfo Hcode Hs H12 Hll Hfc Hfz
  go_upto_region 4 with fail
  rw[Hw2.out,Hg.out]
  have HFR:Fr (fun k=>k=b) w w2:=Hf2.out.mono fun _ _ h=>h.elim
  have RDW:=Hr.out
  have hcl2:=Hcl.out w2 w.heap.size g _ φ HFR (Nat.le_refl _) RDW
  try simp only[List.append_toArray,List.cons_append,List.nil_append] at hcl2
  go_wp2_with (go_at_fn gk;fail)
  refine hcl2.mono ?_
  rintro e w4 hpost
  obtain⟨x,F',rfl,hx,hr4,hf4,hq⟩:=hpost.out
  clear hpost hcl2
  have hs2:=Hf2.out.size
  have hf4':=Hf2.out.mono (Y:=own3 C g b) fun _ _ h=>h.elim
  have hT:=hf4'.trans hf4
  have hF0:Fr (fun k=>k=b\/C k) w w4:=hT.mono fun k hk h=>by rcases h with h | h | h;(have:=hlog.out;omega);exact .inl h;exact .inr h
  have hM:=zA6 w4 w.heap.size g b F' _ hr4
  have hFl:=fail_b w4 w.heap.size g b F' _ hr4
  have hwh:=whole_of (p:=p) HF.out
  cases hmb:moreB F' (φ||(p (Tg.zip L)).isNone) with
  | false=>
   rw[hmb] at hM
   clear hFl
   go_wp2_with (go_at_call 79;fail)
   refine hM.mono ?_
   rintro e w5 ⟨rfl,hw5⟩
   obtain rfl:=hw5
   have hfin:(φ||(p (Tg.zip L)).isNone)=(φ||(Rd.wholeR l p).isNone)/\(φ=false->∀x0,Rd.wholeR l p=some x0->x=x0):=by
    rw[hwh]
    cases φ with
    | true=>exact⟨rfl,fun h=>by cases h⟩
    | false=>
     cases hp:p (Tg.zip L) with
     | none=>exact⟨rfl,fun _ x0 h0=>by simp at h0⟩
     | some q=>
      obtain⟨y,G⟩:=q
      obtain⟨rfl,rfl⟩:=hq rfl _ _ hp
      rw[hp] at hmb
      cases F' with
      | nil=>exact⟨rfl,fun _ x0 h0=>by simpa using h0⟩
      | cons f F'=>cases hmb
   rw[hfin.1] at hr4
   have Hr4:=hide hr4
   have Hfin:=hide hfin.2
   have Hx:=hide hx
   have HF0:=hide hF0
   clear hr4 hfin hx hF0 hM hmb hwh hq hf4 hT hf4'
   go_wp2
   go_returns
   exact⟨⟨x,rfl,Hx.out,Hr4.out.fc,Hr4.out.fzb,HF0.out,Hfin.out⟩⟩
  | true=>
   rw[hmb] at hM
   go_wp2_with (go_at_call 79;fail)
   refine hM.mono ?_
   rintro e w5 ⟨rfl,hw5⟩
   obtain rfl:=hw5
   have hfin:(φ||(Rd.wholeR l p).isNone)=true/\(φ=false->∀x0,Rd.wholeR l p=some x0->x=x0):=by
    rw[hwh]
    cases φ with
    | true=>exact⟨rfl,fun h=>by cases h⟩
    | false=>
     cases hp:p (Tg.zip L) with
     | none=>exact⟨rfl,fun _ x0 h0=>by simp at h0⟩
     | some q=>
      obtain⟨y,G⟩:=q
      obtain⟨rfl,rfl⟩:=hq rfl _ _ hp
      rw[hp] at hmb
      cases F' with
      | nil=>cases hmb
      | cons f F'=>exact⟨rfl,fun _ x0 h0=>by simp at h0⟩
   have Hfin:=hide hfin
   have Hx:=hide hx
   have HF0:=hide hF0
   have Hr4:=hide hr4
   have hszW:w.heap.size<=w5.heap.size:=hT.size
   have HszW:=hide hszW
   clear hr4 hfin hx hF0 hM hmb hwh hq hf4 hT hf4' hszW
   go_wp2_with (go_at_call 78;fail)
   refine hFl.mono ?_
   rintro e w6 ⟨rfl,hr6,hf6⟩
   clear hFl
   have hx6:=Hst.out x w5 w6 Hx.out hf6
   have hF6:Fr (fun k=>k=b\/C k) w w6:=HF0.out.trans' hf6 fun k hk h=>.inl h
   go_wp2
   go_returns
   exact⟨⟨x,rfl,hx6,by rw[Hfin.out.1];exact hr6.fc,hr6.fzb,hF6,Hfin.out.2⟩⟩
 ·have z1:(E==0)=false:=beq_false_of_ne he
  have z2:(E !=0)=true:=by unfold bne;rw[z1];rfl
  have hF:Rd.fieldsOf l=none:=by have:=Hfo.out;rwa [if_neg he] at this
  have hz:=Hcode.out he
  obtain⟨rfl,rfl⟩:=hz
  have HF:=hide hF
  clear hF Hfo Hcode Hs H12 Hll Hfc Hfz he
  go_upto_region 3 with fail
  have hw2':=Hw2.out
  simp only[List.length_nil] at hw2'
  rw[hw2',Hg.out]
  clear hw2'
  have hFl2:=zBi w2 w.heap.size g b _ _ Hr.out
  go_wp2_with (go_at_call 78;fail)
  refine hFl2.mono ?_
  rintro e w3 ⟨rfl,hr3,hf3⟩
  clear hFl2
  have HFR:Fr (fun k=>k=b) w w3:=(Hf2.out.mono (Y:=fun k=>k=b) fun _ _ h=>h.elim).trans' hf3 fun k hk h=>by rcases h with h | h;(have:=hlog.out;omega);exact h
  have hcl2:=Hcl.out w3 w.heap.size g _ true HFR (Nat.le_refl _) hr3
  try simp only[List.append_toArray,List.cons_append,List.nil_append] at hcl2
  have hs3:=HFR.size
  clear hr3 hf3
  go_wp2_with (go_at_fn gk;fail)
  refine hcl2.mono ?_
  rintro e w4 hpost
  obtain⟨x,F',rfl,hx,hr4,hf4,hq⟩:=hpost.out
  clear hpost hcl2
  have hF0:Fr (fun k=>k=b\/C k) w w4:=(HFR.mono (Y:=fun k=>k=b\/C k) fun _ _ h=>.inl h).trans' hf4 fun k hk h=>by rcases h with h | h | h;(have:=hlog.out;omega);exact .inl h;exact .inr h
  rw[Bool.true_or] at hr4
  have hM:=zA6 w4 w.heap.size g b F' _ hr4
  have hwh:=whole_no (p:=p) HF.out
  rw[show moreB F' true=false from rfl] at hM
  go_wp2_with (go_at_call 79;fail)
  refine hM.mono ?_
  rintro e w5 ⟨rfl,hw5⟩
  obtain rfl:=hw5
  have Hx:=hide hx
  have HF0:=hide hF0
  have Hr4:=hide hr4
  have Hwh:=hide hwh
  clear hx hF0 hr4 hwh hM hq hf4 HFR
  go_wp2
  go_returns
  exact⟨⟨x,rfl,Hx.out,by rw[Hwh.out];simpa using Hr4.out.fc,Hr4.out.fzb,HF0.out,fun _ x0 h0=>by rw[Hwh.out] at h0;cases h0⟩⟩
def wayC (p:Addr) (v:Value) (w W:World):Prop:=w.cell? p=some v->W.cell? p=some v
instance wayCway (p:Addr) (v:Value):Way (wayC p v):=⟨fun _=>id,fun h k x=>k (h x)⟩
theorem inner_of {α:Type} {t:UInt8} {p:Rdr α} {F F':List Fd} {x:List UInt8} (h:Rd.takeR t F=some (x,F')):Rd.innerR t p F=(Rd.wholeR x p).map fun y=>(y,F'):=by
 unfold Rd.innerR;simp only[h]
theorem inner_no {α:Type} {t:UInt8} {p:Rdr α} {F:List Fd} (h:Rd.takeR t F=none):Rd.innerR t p F=none:=by
 unfold Rd.innerR;simp only[h]
theorem RdS.refault {w w':World} {lo g b:Nat} {F:List Fd} {φ ψ:Bool} {C:Nat->Prop} (h:RdS w lo g b F φ) (hf:Fr (fun k=>k=b\/C k) w w') (hC:∀k,C k->¬(lo<=k/\k<=g)) (hfc:w'.cell? ⟨b,0,none⟩=some (.bool ψ)) (hfz:∀i,w'.frozen? ⟨b,i,none⟩=false):RdS w' lo g b F ψ:=by
 have hlog:=h.log
 have hblo:=h.blo
 have hlt:=h.lt
 have hg:¬(g=b\/C g):=fun q=>by
  rcases q with q | q
  ·omega
  ·exact hC g q ⟨h.log,Nat.le_refl _⟩
 obtain⟨A,c,A',c',xs,h1,h2,h3,h4,h5,h6⟩:=h.mem
 have key:∀k,(lo<=k/\k<g)->k<w.heap.size/\¬(k=b\/C k)/\(lo<=k/\k<g):=fun k hk=>⟨by omega,fun q=>by
  rcases q with q | q
  ·omega
  ·exact hC k q ⟨hk.1,by omega⟩,hk⟩
 refine⟨Nat.lt_of_lt_of_le h.lt hf.size,h.log,h.blo,⟨A,c,A',c',xs,(hf.cell h.lt hg).trans h1,(hf.cell h.lt hg).trans h2,h3,h4.fr hf key,h5.fr hf key,fun i f hi=>?_⟩,(hf.cell h.lt hg).trans h.c2,fun i=>(hf.frozen h.lt hg).trans (h.fz i),hfc,hfz,h.small⟩
 obtain⟨B,d,q1,q2,q3,q4⟩:=h6 i f hi
 exact⟨B,d,q1,q2,q3,q4.fr hf key⟩
theorem zBk {α:Type} (St:α->World->Prop) (C:Nat->Prop) (p:Rdr α) (w:World) (lo g b:Nat) (F:List Fd) (φ:Bool) (t:UInt8) (gk:Nat) (lb:Array Value)
  (eg:∀args w,(callFunc gk args).run Tryz.prog w=.ok (.enter gk args) w) (h:RdS w lo g b F φ) (hcl:∀W,Fr (own2 g b) w W->ClosedBy St C p W b gk lb)
  (hst:∀x W W',St x W->Fr (fun k=>k=b) W W'->St x W') (hC:∀k,C k->k<w.heap.size/\k≠b/\¬(lo<=k/\k<=g)):
  Calls Tryz.prog 28 #[.pointer (some ⟨g,0,none⟩),c8 t,.func (.func gk) #[] lb] w (InPost St (Rd.innerR t p) w (own3 C g b) lo g b F φ):=by
 have hd:=h.fr (Fr.drew (fun _=>False) w) id id (fun _ _ _=>id)
 have hfd:Fr (own2 g b) w w.drew:=Fr.drew _ _
 have Hcl:=hide hcl
 have Hst:=hide hst
 have HC:=hide hC
 have Hd:=hide hd
 have Hsz:Hid (w.heap.size=w.drew.heap.size):=hide rfl
 clear hcl hst hC hd h
 go_enter Tryz.func28,Tryz.ntmps28
 go_wp2_with fail
 refine zAp (wayC ⟨g,2,none⟩ (.pointer (some ⟨b,0,none⟩))) [] (by kernel_rfl) ?_
 generalize w.drew=wd at *
 refine zAe 0 (some 6) rfl rfl (by kernel_rfl) rfl (by rfl) (fun W=>by go_simp<;>with_reducible rfl) ?_
 try simp only[pU]
 refine zAe 1 (some 7) rfl rfl (by kernel_rfl) rfl (by rfl) (fun W=>by go_simp<;>with_reducible rfl) ?_
 try simp only[pU]
 refine zAe 3 (some 9) rfl rfl (by kernel_rfl) rfl (by rfl) (fun W=>by go_simp<;>with_reducible rfl) ?_
 try simp only[pU]
 refine zAe 4 (some 10) rfl rfl (by kernel_rfl) rfl (by rfl) (fun W=>by go_simp<;>with_reducible rfl) ?_
 try simp only[pU]
 refine zAe 5 (some 11) rfl rfl (by kernel_rfl) rfl (by rfl) (fun W=>by go_simp<;>with_reducible rfl) ?_
 try simp only[pU]
 refine zAm 6 (some 12) (v:=?vi6) rfl rfl (by kernel_rfl) rfl (by kernel_rfl) (by rfl) (fun W hW=>?yi6) ?_
 case yi6=>
  have c2W:W.cell? ⟨g,2,none⟩=some (.pointer (some ⟨b,0,none⟩)):=hW Hd.out.c2
  go_simp<;>with_reducible rfl
 try simp only[pU]
 refine zAe 7 (some 13) rfl rfl (by kernel_rfl) rfl (by rfl) (fun W=>by go_simp<;>with_reducible rfl) ?_
 try simp only[pU]
 refine zAf 2 rfl (by kernel_rfl) (fun K hK=>?_)
 go_simp
 refine (take_any wd lo g b F φ t Hd.out).mono ?_
 rintro e w1 hpost
 obtain⟨A,c,x,F',rfl,hc,hm,hx,hP,hr,hf,hq⟩:=hpost.out
 clear hpost
 refine hK.out _ _ (fun _ _=>hr.c2) ?_
 clear hK K
 try simp only[pU]
 refine zAf 8 rfl (by kernel_rfl) (fun K hK=>?_)
 go_simp
 have hcl1:=Hcl.out w1 (hfd.trans hf)
 have hs1:w.heap.size<=w1.heap.size:=(hfd.trans hf).size
 refine (fields_any St C p w1 b gk lb A c x (φ||(Rd.takeR t F).isNone) eg hcl1 Hst.out (fun k hk=>⟨by have:=(HC.out k hk).1;omega,(HC.out k hk).2.1⟩) (hP.has (B:=w1.heap.size) (fun k hk=>by have:=hr.lt;omega)) hc hm hx hr.back hr.fc hr.fzb).mono ?_
 rintro e w2 hpost
 obtain⟨y,rfl,hy,hfc2,hfz2,hf2,hq2⟩:=hpost.out
 clear hpost hcl1
 have hr2:=hr.refault hf2 (fun k hk=>(HC.out k hk).2.2) hfc2 hfz2
 have hF2:Fr (own3 C g b) w w2:=((hfd.trans hf).mono (Y:=own3 C g b) fun _ _ q=>by rcases q with q | q;exact .inl q;exact .inr (.inl q)).trans (hf2.mono fun _ _ q=>by rcases q with q | q;exact .inr (.inl q);exact .inr (.inr q))
 have hfin:((φ||(Rd.takeR t F).isNone)||(Rd.wholeR x p).isNone)=(φ||(Rd.innerR t p F).isNone)/\(φ=false->∀x0 F0,Rd.innerR t p F=some (x0,F0)->y=x0/\F'=F0):=by
  cases φ with
  | true=>exact⟨by simp,fun h=>by cases h⟩
  | false=>
   cases ht:Rd.takeR t F with
   | none=>rw[inner_no ht];exact⟨by simp,fun _ x0 F0 h0=>by simp at h0⟩
   | some q=>
    obtain⟨c0,r0⟩:=q
    obtain⟨rfl,rfl⟩:=hq rfl _ _ ht
    rw[ht] at hq2
    rw[inner_of ht]
    cases hw:Rd.wholeR x p with
    | none=>exact⟨by simp,fun _ x0 F0 h0=>by simp at h0⟩
    | some z=>
     obtain rfl:=hq2 rfl z hw
     exact⟨by simp,fun _ x0 F0 h0=>by simpa using h0⟩
 rw[hfin.1] at hr2
 have Hfin:=hide hfin.2
 have Hr2:=hide hr2
 have HF2:=hide hF2
 have Hy:=hide hy
 clear hfin hr2 hF2 hy hfc2 hfz2 hf2 hq2 hr hq hP hf hc hm hx
 refine hK.out _ _ (fun _ _=>Hr2.out.c2) ?_
 clear hK K
 try simp only[pU]
 refine zAj (by kernel_rfl) ?_ _
 go_wp2
 go_returns
 exact⟨⟨y,F',rfl,Hy.out,Hr2.out,HF2.out,Hfin.out⟩⟩
end Go.Proofs.YtcpjmgfloimfhaaGreat
