/- An argument that is a config, opened; and what its bulk bounds. By an AI agent. -/
import Derived.Test.YtlfglibcggphjaaGreatDoorOpenEnts
import Derived.Test.YtlfglibcggphjaaGreatDoorKFSmall
set_option linter.unusedSimpArgs false
set_option linter.unusedVariables false
set_option maxRecDepth 1000000
namespace Go.Proofs.YtlfglibcggphjaaGreatDoor.Opens
open Go Go.ChangeShapes Go.WideShapes Go.ChangeAt Go.RowKit Go.Deep
theorem flatKE (k:Nat) (hk:0<k) (f:Nat->List Value):∀(n:Nat),(∀i,i<n->(f i).length=k)->((List.range n).flatMap f).length=n*k/\(∀j u,((List.range n).flatMap f)[j]?=some u->j/k<n/\(f (j/k))[j % k]?=some u)/\∀i,i<n->∀j,j<k->((List.range n).flatMap f)[i*k+j]?=(f i)[j]?
 | 0,_=>⟨by simp,fun j u h=>by simp at h,fun i hi=>by omega⟩
 | n+1,h=>by
  obtain⟨h1,h2,h3⟩:=flatKE k hk f n (fun i hi=>h i (by omega));have h7:=h n (by omega);rw[List.range_succ,List.flatMap_append];simp only[List.flatMap_cons,List.flatMap_nil,List.append_nil];refine⟨by rw[List.length_append,h1,h7,Nat.succ_mul],fun j u hu=>?_,fun i hi j hj=>?_⟩
  ·by_cases hj:j<n*k
   ·rw [List.getElem?_append_left (by rw[h1];exact hj)] at hu;obtain⟨h3,h4⟩:=h2 j u hu;exact⟨by omega,h4⟩
   ·rw [List.getElem?_append_right (by rw[h1];omega),h1] at hu;have hl:=(List.getElem?_eq_some_iff.1 hu).1;rw[h7] at hl;obtain⟨t,rfl⟩:∃t,j=k*n+t:=⟨j-n*k,by rw[Nat.mul_comm];omega⟩;have ht:k*n+t-n*k=t:=by rw[Nat.mul_comm];omega
    rw[ht] at hl hu;have e1:(k*n+t)/k=n:=by rw[Nat.mul_add_div hk,Nat.div_eq_of_lt hl];rfl
    have e2:(k*n+t) % k=t:=(by rw[Nat.mul_add_mod,Nat.mod_eq_of_lt hl]);rw[e1,e2];exact⟨by omega,hu⟩
  ·by_cases hin:i<n
   ·have:i*k+j<n*k:=by
     have:=Nat.mul_le_mul_right k (show i+1<=n from hin);rw[Nat.succ_mul] at this;omega
    rw[List.getElem?_append_left (by omega)];exact h3 i hin j hj
   ·obtain rfl:i=n:=by omega
    rw[List.getElem?_append_right (by omega),h1];congr 1;omega
theorem zEo {H:Type} {enc:TypeId × Value->H} {P:Program} {W:World} {base fuel:Nat} {sp:Nat->Bool} {held:Bool} {t E:TypeId} {v:Value} {x:DataW H × List MemPlace} {α:Type} [Inhabited α] (k:Nat) (hk:0<k) (Q:List Value->α->Nat->Prop)
  (ht:P.underlying t=some (.slice E)) (cE:P.cellsOf E=k) (hel:∀(fuel:Nat) (cs:List Value) (y:DataW H × List MemPlace),DataW.trod enc P W base sp held fuel E cs=some y->∃a,cs.length=k/\Q cs a (Rows.uptoBulk y.1))
  (h:DataW.trod enc P W base sp held fuel t [v]=some x):
  ∃A c xs,∃L:List α,v=.slice A L.length c/\L.length<=c/\c<=maxLen/\L.length<=Rows.uptoBulk x.1/\Has W W.heap.size k A L.length xs/\∀i a,L[i]?=some a->∃cs b,b<=Rows.uptoBulk x.1/\Q cs a b/\cs.length=k/\∀j,j<k->xs[i*k+j]?=cs[j]?:=by
 rcases open_slice ht h with⟨hcs,hx⟩ | ⟨ad,n,c,m,k2,D,Pl,hcs,hb,hl,hm,hmm,hx,hall⟩
 ·simp at hcs;subst hcs;exact⟨none,0,[],[],rfl,by simp,by simp,by simp,Has.nil,fun i a ha=>by simp at ha⟩
 ·simp at hcs;subst hcs;have hlm:n<=m:=by rw[hmm];split<;>omega
  have each:∀i,i<n->∃q:List Value × α,(∀j u,q.1[j]?=some u->W.cell? ((ad.add (i*k)).add j)=some u)/\q.1.length=k/\Q q.1 q.2 (Rows.uptoBulk (D i)):=by
   intro i hi;obtain⟨cs',h1,h2⟩:=hall i (by omega);rw[cE] at h1;obtain⟨a,hlen,hQ⟩:=hel _ cs' _ h2;obtain⟨_,_,hcell⟩:=World.cells?_some h1;refine⟨(cs',a),fun j u hu=>?_,hlen,hQ⟩;have hj:j<k:=by have:=(List.getElem?_eq_some_iff.1 hu).1;simp only at this;omega
   rw[hcell j hj];exact hu
  haveI:Inhabited (List Value × α):=⟨([],default)⟩
  obtain⟨q,hq⟩:=choose_lt each;obtain⟨f1,f2,f3⟩:=flatKE k hk (fun i=>(q i).1) n (fun i hi=>(hq i hi).2.1);have hle:∀i,i<n->Rows.uptoBulk (D i)<=Rows.uptoBulk x.1:=fun i hi=>by
   rw[show x.1=_ from congrArg Prod.fst hx];have h2:=zBf D (List.mem_range.2 hi);simp only[Rows.uptoBulk];omega
  refine⟨some ad,c,(List.range n).flatMap fun i=>(q i).1,(List.range n).map fun i=>(q i).2,by simp,by simp;omega,by omega,?_,⟨by rw[f1];simp,?_⟩,fun i a ha=>?_⟩
  ·rw [show x.1=_ from congrArg Prod.fst hx];have hbk:=zBa D (List.range n);simp only[Rows.uptoBulk,List.length_map,List.length_range] at hbk ⊢;omega
  ·rcases Nat.eq_zero_or_pos n with g0 | g0
   ·subst g0;exact .inl rfl
   ·refine .inr ⟨ad,rfl,?_,fun j u hu=>?_⟩
    ·obtain ⟨h1,h2,_⟩:=hq 0 g0;have:=World.block_lt_of_cell? W _ (h1 0 _ (List.getElem?_eq_getElem (by omega)))
     rwa [zAh,zAh] at this
    ·obtain ⟨h1,h2⟩:=f2 j u hu;have:=(hq (j/k) h1).1 (j % k) u h2;rw[zEw] at this
     rwa [Nat.div_add_mod' j k] at this
  ·have hi:i<n:=by
    have:=(List.getElem?_eq_some_iff.1 ha).1;simpa using this
   obtain rfl:(q i).2=a:=by simpa[List.getElem?_range hi] using ha
   exact⟨(q i).1,Rows.uptoBulk (D i),hle i hi,(hq i hi).2.2,(hq i hi).2.1,f3 i hi⟩
theorem zHg:∀(L:List CT) (xs:List Value),xs.length=L.length*2->(∀i c,L[i]?=some c->xs[i*2]?=some (.string (txt c.1))/\xs[i*2+1]?=some (.int .i64 c.2))->xs=cutsV L
 | [],xs,h,_=>List.eq_nil_of_length_eq_zero (by simpa using h)
 | c::L,[],h,_=>by simp at h
 | c::L,[x],h,_=>by simp at h;omega
 | c::L,x::y::xs,h,he=>by
  have h0:=he 0 c rfl;simp at h0;obtain⟨rfl,rfl⟩:=h0;unfold cutsV;rw[zHg L xs (by simp at h;omega) (fun i d hd=>by
   have:=he (i+1) d (by simpa using hd)
   rw[show (i+1)*2=i*2+1+1 by omega] at this
   simpa using this)]
def CtB (b:Nat) (L:List CT):Prop:=L.length<=b/\∀z∈L,z.1.length<=b
theorem CtB.mono {b b':Nat} {L:List CT} (h:CtB b L) (hb:b<=b'):CtB b' L:=⟨Nat.le_trans h.1 hb,fun z hz=>Nat.le_trans (h.2 z hz) hb⟩
theorem zJl {H:Type} {enc:TypeId × Value->H} {P:Program} {W:World} {base fuel:Nat} {sp:Nat->Bool} {held:Bool} {t E:TypeId} {f0 f1:Field} {v:Value} {x:DataW H × List MemPlace}
  (ht:P.underlying t=some (.slice E)) (hE:P.underlying E=some (.struct #[f0,f1])) (cE:P.cellsOf E=2) (o0:f0.offset=0) (o1:f1.offset=1) (c0:P.cellsOf f0.type=1) (c1:P.cellsOf f1.type=1)
  (s0:P.underlying f0.type=some .string) (s1:P.underlying f1.type=some (.int .i64)) (h:DataW.trod enc P W base sp held fuel t [v]=some x):
  ∃A c,∃L:List CT,v=.slice A L.length c/\HasP W (fun b=>b<W.heap.size) 2 A L.length (cutsV L)/\CtB (Rows.uptoBulk x.1) L:=by
 obtain⟨A,c,xs,L,hv,_,_,hL,hH,he⟩:=zEo (α:=CT) 2 (by omega) (fun cs a b=>cs=[.string (txt a.1),.int .i64 a.2]/\a.1.length<=b) ht cE (fun fuel cs y h2=>by
  obtain⟨xs,m2,rfl,hDx,hl2,hxl,hf2⟩:=DataW.trod_struct hE h2
  rw[cE] at hl2
  match cs,hl2 with
  | [v0,v1],_=>
   have hx2:xs.length=2:=by simpa using hxl
   match xs,hx2 with
   | [y0,y1],_=>
    have g0:=hf2 0 f0 rfl
    have g1:=hf2 1 f1 rfl
    simp[o0,c0] at g0
    simp[o1,c1] at g1
    obtain⟨a,ha,hy0,_⟩:=DataW.trod_string s0 g0
    obtain⟨k,hk,hy1,_⟩:=DataW.trod_int s1 g1
    simp only[List.cons.injEq,and_true] at ha hk
    subst ha hk
    have e0:y.1=.agg [y0.1,y1.1]:=(by simpa using congrArg Prod.fst hDx);have e1:y0.1=.lit (.string a.data.toList):=(by simpa using congrArg Prod.fst hy0);refine⟨(a.data.toList,k),rfl,by simp only[self_txtE],?_⟩
    rw[e0,e1]
    simp only[Rows.uptoBulk,Rows.uptoBulkAll]
    omega) h
 have hxs:xs=cutsV L:=zHg L xs hH.1 (fun i c hc=>by
  obtain⟨cs,b,_,⟨rfl,_⟩,_,hj⟩:=he i c hc
  exact⟨by simpa using hj 0 (by omega),by simpa using hj 1 (by omega)⟩)
 subst hxs;exact⟨A,c,L,hv,hH,hL,fun z hz=>by
  obtain⟨i,hi⟩:=List.getElem?_of_mem hz
  obtain⟨cs,b,hb,⟨_,h2⟩,_,_⟩:=he i z hi
  exact Nat.le_trans h2 hb⟩
def CxB (b:Nat) (x:CX):Prop:=x.1.length<=b/\SmN b x.2.1/\CtB b x.2.2
theorem SmN.mono {b b':Nat} {L:List EN} (h:SmN b L) (hb:b<=b'):SmN b' L:=⟨Nat.le_trans h.len hb,fun e he=>⟨Nat.le_trans (h.each e he).1 hb,(h.each e he).2.mono hb⟩⟩
theorem CxB.mono {b b':Nat} {x:CX} (h:CxB b x) (hb:b<=b'):CxB b' x:=⟨Nat.le_trans h.1 hb,h.2.1.mono hb,h.2.2.mono hb⟩
theorem zK4 {H:Type} {enc:TypeId × Value->H} {P:Program} {W:World} {base fuel:Nat} {sp:Nat->Bool} {held:Bool} {t E:TypeId} {f0 f1 f2:Field} {v:Value} {x:DataW H × List MemPlace}
  (ht:P.underlying t=some (.slice E)) (hE:P.underlying E=some (.struct #[f0,f1,f2])) (cE:P.cellsOf E=3) (o0:f0.offset=0) (o1:f1.offset=1) (o2:f2.offset=2) (c0:P.cellsOf f0.type=1) (c1:P.cellsOf f1.type=1) (c2:P.cellsOf f2.type=1)
  (s0:P.underlying f0.type=some .string)
  (s1:∀(n:Nat) (u:Value) (x:DataW H × List MemPlace),DataW.trod enc P W base sp held n f1.type [u]=some x->∃A c xs L,u=.slice A L.length c/\L.length<=c/\c<=maxLen/\Has W W.heap.size 2 A L.length xs/\ENs W W.heap.size xs L/\SmN (Rows.uptoBulk x.1) L)
  (s2:∀(n:Nat) (u:Value) (x:DataW H × List MemPlace),DataW.trod enc P W base sp held n f2.type [u]=some x->∃A c,∃L:List CT,u=.slice A L.length c/\HasP W (fun b=>b<W.heap.size) 2 A L.length (cutsV L)/\CtB (Rows.uptoBulk x.1) L)
  (h:DataW.trod enc P W base sp held fuel t [v]=some x):
  ∃A c xs,∃L:List CX,v=.slice A L.length c/\HasP W (fun b=>b<W.heap.size) 3 A L.length xs/\CXsP W (fun b=>b<W.heap.size) xs L/\L.length<=Rows.uptoBulk x.1/\∀y∈L,CxB (Rows.uptoBulk x.1) y:=by
 obtain⟨A,c,xs,L,hv,_,_,hL,hH,he⟩:=zEo (α:=CX) 3 (by omega) (fun cs a b=>∃A c ys S d,cs=[.string (txt a.1),.slice A a.2.1.length c,.slice S a.2.2.length d]/\HasP W (fun b=>b<W.heap.size) 2 A a.2.1.length ys/\ENsP W (fun b=>b<W.heap.size) ys a.2.1/\HasP W (fun b=>b<W.heap.size) 2 S a.2.2.length (cutsV a.2.2)/\CxB b a) ht cE (fun fuel cs y h2=>by
  obtain⟨xs,m2,rfl,hDx,hl2,hxl,hf2⟩:=DataW.trod_struct hE h2
  rw[cE] at hl2
  match cs,hl2 with
  | [v0,v1,v2],_=>
   have hx2:xs.length=3:=by simpa using hxl
   match xs,hx2 with
   | [y0,y1,y2],_=>
    have g0:=hf2 0 f0 rfl
    have g1:=hf2 1 f1 rfl
    have g2:=hf2 2 f2 rfl
    simp[o0,c0] at g0
    simp[o1,c1] at g1
    simp[o2,c2] at g2
    obtain⟨a,ha,hy0,_⟩:=DataW.trod_string s0 g0
    simp only[List.cons.injEq,and_true] at ha
    subst ha
    obtain⟨A,c,zs,M,rfl,_,_,hA,hM,hb1⟩:=s1 _ _ _ g1
    obtain⟨S,d,K,rfl,hS,hb2⟩:=s2 _ _ _ g2
    have e0:y.1=.agg [y0.1,y1.1,y2.1]:=(by simpa using congrArg Prod.fst hDx);have e1:y0.1=.lit (.string a.data.toList):=(by simpa using congrArg Prod.fst hy0);have n1:Rows.uptoBulk y1.1<=Rows.uptoBulk y.1:=by
     rw[e0]
     simp only[Rows.uptoBulk,Rows.uptoBulkAll]
     omega
    have n2:Rows.uptoBulk y2.1<=Rows.uptoBulk y.1:=by
     rw[e0]
     simp only[Rows.uptoBulk,Rows.uptoBulkAll]
     omega
    refine⟨(a.data.toList,M,K),rfl,A,c,zs,S,d,by simp only[self_txtE],hA,hM.ensP,hS,?_,hb1.mono n1,hb2.mono n2⟩
    rw[e0,e1]
    simp only[Rows.uptoBulk,Rows.uptoBulkAll]
    omega) h
 refine⟨A,c,xs,L,hv,hH,⟨hH.1,fun i y hy=>?_⟩,hL,fun z hz=>?_⟩
 ·obtain ⟨cs,b,_,⟨A',c',ys,S',d',rfl,k1,k2,k3,_⟩,_,hj⟩:=he i y hy;exact⟨A',c',ys,S',d',by simpa using hj 0 (by omega),by simpa using hj 1 (by omega),by simpa using hj 2 (by omega),k1,k2,k3⟩
 ·obtain ⟨i,hi⟩:=List.getElem?_of_mem hz;obtain⟨cs,b,hb,⟨_,_,_,_,_,_,_,_,_,k⟩,_,_⟩:=he i z hi;exact k.mono hb
def SvB (b:Nat) (X:List CX):Prop:=X.length<=b/\∀y∈X,CxB b y
theorem SvB.mono {b b':Nat} {X:List CX} (h:SvB b X) (hb:b<=b'):SvB b' X:=⟨Nat.le_trans h.1 hb,fun y hy=>(h.2 y hy).mono hb⟩
theorem zKf {H:Type} {enc:TypeId × Value->H} {P:Program} {W:World} {base fuel:Nat} {sp:Nat->Bool} {held:Bool} {t E:TypeId} {f0:Field} {v:Value} {x:DataW H × List MemPlace}
  (ht:P.underlying t=some (.slice E)) (hE:P.underlying E=some (.struct #[f0])) (cE:P.cellsOf E=1) (o0:f0.offset=0) (c0:P.cellsOf f0.type=1)
  (s0:∀(n:Nat) (u:Value) (x:DataW H × List MemPlace),DataW.trod enc P W base sp held n f0.type [u]=some x->∃A c xs,∃L:List CX,u=.slice A L.length c/\HasP W (fun b=>b<W.heap.size) 3 A L.length xs/\CXsP W (fun b=>b<W.heap.size) xs L/\L.length<=Rows.uptoBulk x.1/\∀y∈L,CxB (Rows.uptoBulk x.1) y)
  (h:DataW.trod enc P W base sp held fuel t [v]=some x):
  ∃A c xs,∃L:List (List CX),v=.slice A L.length c/\HasP W (fun b=>b<W.heap.size) 1 A L.length xs/\SVsP W (fun b=>b<W.heap.size) xs L/\L.length<=Rows.uptoBulk x.1/\∀y∈L,SvB (Rows.uptoBulk x.1) y:=by
 obtain⟨A,c,xs,L,hv,_,_,hL,hH,he⟩:=zEo (α:=List CX) 1 (by omega) (fun cs a b=>∃C c ys,cs=[.slice C a.length c]/\HasP W (fun b=>b<W.heap.size) 3 C a.length ys/\CXsP W (fun b=>b<W.heap.size) ys a/\SvB b a) ht cE (fun fuel cs y h2=>by
  obtain⟨xs,m2,rfl,hDx,hl2,hxl,hf2⟩:=DataW.trod_struct hE h2
  rw[cE] at hl2
  match cs,hl2 with
  | [v0],_=>
   have hx2:xs.length=1:=by simpa using hxl
   match xs,hx2 with
   | [y0],_=>
    have g0:=hf2 0 f0 rfl
    simp[o0,c0] at g0
    obtain⟨A,c,zs,M,rfl,hA,hM,hb1,hb2⟩:=s0 _ _ _ g0
    have e0:y.1=.agg [y0.1]:=(by simpa using congrArg Prod.fst hDx);have n1:Rows.uptoBulk y0.1<=Rows.uptoBulk y.1:=by
     rw[e0]
     simp only[Rows.uptoBulk,Rows.uptoBulkAll]
     omega
    exact⟨M,rfl,A,c,zs,rfl,hA,hM,Nat.le_trans hb1 n1,fun y hy=>(hb2 y hy).mono n1⟩) h
 refine⟨A,c,xs,L,hv,hH,⟨by have:=hH.1;omega,fun i y hy=>?_⟩,hL,fun z hz=>?_⟩
 ·obtain ⟨cs,b,_,⟨C,c',ys,rfl,k1,k2,_⟩,_,hj⟩:=he i y hy;exact⟨C,c',ys,by simpa using hj 0 (by omega),k1,k2⟩
 ·obtain ⟨i,hi⟩:=List.getElem?_of_mem hz;obtain⟨cs,b,hb,⟨_,_,_,_,_,_,k⟩,_,_⟩:=he i z hi;exact k.mono hb
structure CfgAt (W:World) (N:Nat) (v:Value) (A:Option Addr) (n c:Nat) (T:Option Addr) (m d:Nat) (L:List (List CX)) (Top:List CT):Prop where
 is:v=.agg #[.slice A n c,.slice T m d]
 cfg:CfgR W A n T m L Top
 wide:L.length<=N/\(∀X∈L,SvB N X)/\CtB N Top
theorem CfgAt.w {W:World} {N:Nat} {v:Value} {A:Option Addr} {n c:Nat} {T:Option Addr} {m d:Nat} {L:List (List CX)} {Top:List CT} (h:CfgAt W N v A n c T m d L Top) (hN:N<=1048576):CfgW L Top:=by
 obtain⟨h1,h2,h3⟩:=h.wide;refine⟨by omega,fun x hx=>⟨by have:=(h2 x hx).1;omega,fun y hy=>?_⟩,by have:=h3.1;omega,fun z hz=>by have:=h3.2 z hz;omega⟩;obtain⟨k1,k2,k3⟩:=(h2 x hx).2 y hy;exact⟨by omega,by have:=k3.1;omega,fun z hz=>by have:=k3.2 z hz;omega⟩
theorem CfgAt.b {W:World} {N:Nat} {v:Value} {A:Option Addr} {n c:Nat} {T:Option Addr} {m d:Nat} {L:List (List CX)} {Top:List CT} (h:CfgAt W N v A n c T m d L Top) (hN:N<=1048576):CfgB L:=by
 intro X hX y hy;obtain⟨_,k2,_⟩:=(h.wide.2.1 X hX).2 y hy;refine⟨by have:=k2.len;omega,fun e he=>?_⟩;obtain⟨q1,q2⟩:=k2.each e he;exact⟨by omega,by have:=q2.len;omega,fun a ha=>⟨by have:=(q2.each a ha).vals;omega,fun u hu=>by have:=(q2.each a ha).each u hu;omega⟩⟩
theorem open_cfg {H:Type} {enc:TypeId × Value->H} {P:Program} {W:World} {r:Reach} {base b0:Nat} {sp:Nat->Bool} {held:Bool} {T:TypeId} {v:Value} {d:DataW H} {p:List MemPlace} {f0 f1:Field}
  (hT:P.underlying T=some (.struct #[f0,f1])) (cT:P.cellsOf T=2) (o0:f0.offset=0) (o1:f1.offset=1) (c0:P.cellsOf f0.type=1) (c1:P.cellsOf f1.type=1)
  (s0:∀(n:Nat) (u:Value) (x:DataW H × List MemPlace),DataW.trod enc P W base sp held n f0.type [u]=some x->∃A c xs,∃L:List (List CX),u=.slice A L.length c/\HasP W (fun b=>b<W.heap.size) 1 A L.length xs/\SVsP W (fun b=>b<W.heap.size) xs L/\L.length<=Rows.uptoBulk x.1/\∀y∈L,SvB (Rows.uptoBulk x.1) y)
  (s1:∀(n:Nat) (u:Value) (x:DataW H × List MemPlace),DataW.trod enc P W base sp held n f1.type [u]=some x->∃A c,∃L:List CT,u=.slice A L.length c/\HasP W (fun b=>b<W.heap.size) 2 A L.length (cutsV L)/\CtB (Rows.uptoBulk x.1) L)
  (hval:Value.okWide P W r b0 T v) (h:DataW.Trod enc P W base sp held T v d p):
  ∃A n c T m k L Top,CfgAt W (Rows.uptoBulk d) v A n c T m k L Top:=by
 simp only[Value.okWide,hT] at hval;obtain⟨cs,rfl,_⟩:=hval;obtain⟨fuel,hf⟩:=h;obtain⟨l⟩:=cs;obtain⟨xs,m,rfl,hDx,hl,hxl,hf2⟩:=DataW.trod_struct hT hf;simp only[Value.cells] at hl hf2;rw[cT] at hl
 match l,hl with
 | [v0,v1],_=>
  have hx2:xs.length=2:=by simpa using hxl
  match xs,hx2 with
  | [y0,y1],_=>
   have q0:=hf2 0 f0 rfl;have q1:=hf2 1 f1 rfl;simp[o0,c0] at q0;simp[o1,c1] at q1;obtain⟨A,c,zs,L,rfl,k1,k2,k3,k4⟩:=s0 _ _ _ q0;obtain⟨B,e,M,rfl,k5,k6⟩:=s1 _ _ _ q1;have eD:d=.agg [y0.1,y1.1]:=by simpa using congrArg Prod.fst hDx
   have n0:Rows.uptoBulk y0.1<=Rows.uptoBulk d:=by rw[eD];simp only[Rows.uptoBulk,Rows.uptoBulkAll];omega
   have n1:Rows.uptoBulk y1.1<=Rows.uptoBulk d:=by rw[eD];simp only[Rows.uptoBulk,Rows.uptoBulkAll];omega
   exact⟨A,L.length,c,B,M.length,e,L,M,rfl,⟨⟨zs,k1,k2,k5⟩⟩,Nat.le_trans k3 n0,fun X hX=>(k4 X hX).mono n0,k6.mono n1⟩
theorem zEv {H:Type} {enc:TypeId × Value->H} {W:World} {r:Reach} {base b0:Nat} {sp:Nat->Bool} {held:Bool} {v:Value} {d:DataW H} {p:List MemPlace}
  (hv:Value.okWide Tryz.prog W r b0 25 v) (h:DataW.Trod enc Tryz.prog W base sp held 25 v d p):
  ∃A n c T m k L Top,CfgAt W (Rows.uptoBulk d) v A n c T m k L Top:=
 have hc:∀(n:Nat) (u:Value) (x:DataW H × List MemPlace),DataW.trod enc Tryz.prog W base sp held n 23 [u]=some x->∃A c,∃L:List CT,u=.slice A L.length c/\HasP W (fun b=>b<W.heap.size) 2 A L.length (cutsV L)/\CtB (Rows.uptoBulk x.1) L:=
  fun n u x hx=>zJl Tryz.underlying23 Tryz.underlying68 (by kernel_rfl) rfl rfl (by kernel_rfl) (by kernel_rfl) Tryz.underlying9 Tryz.underlying3 hx
 open_cfg Tryz.underlying25 (by kernel_rfl) rfl rfl (by kernel_rfl) (by kernel_rfl)
  (fun n u x hx=>zKf Tryz.underlying22 Tryz.underlying57 (by kernel_rfl) rfl (by kernel_rfl)
   (fun n u x hx=>zK4 Tryz.underlying55 Tryz.underlying59 (by kernel_rfl) rfl rfl rfl (by kernel_rfl) (by kernel_rfl) (by kernel_rfl) Tryz.underlying9
    (fun n u x hx=>zDu Tryz.underlying43 Tryz.underlying71 (by kernel_rfl) rfl rfl (by kernel_rfl) (by kernel_rfl) Tryz.underlying9 Tryz.underlying69 Tryz.underlying76 (by kernel_rfl) rfl rfl (by kernel_rfl) (by kernel_rfl) Tryz.underlying9 Tryz.underlying64 (by kernel_rfl) Tryz.underlying9 hx)
    (fun n u x hx=>hc n u x hx) hx) hx)
  (fun n u x hx=>hc n u x hx) hv h
end Go.Proofs.YtlfglibcggphjaaGreatDoor.Opens
