/- Arguments that are attributes, or entries, opened; and what their bulk bounds. By an AI agent. -/
import Derived.Test.YtlfglibcggphjaaGreatDoorEY
import Derived.Test.YtlfglibcggphjaaGreatDoorOpens
import Derived.Deep.SlicePairs
set_option linter.unusedSimpArgs false
set_option linter.unusedVariables false
namespace Go.Proofs.YtlfglibcggphjaaGreatDoor.Opens
open Go Go.ChangeShapes Go.WideShapes Go.ChangeAt Go.RowKit Go.Deep
theorem self_txtE (s:ByteArray):txt s.data.toList=s:=ByteArray.ext (Array.ext' (by simp[txt]))
theorem zJc {H:Type}:∀d:DataW H,1<=Rows.uptoBulk d:=by
 intro d;cases d with
 | lit l=>cases l<;>simp[Rows.uptoBulk]
 | _=>simp[Rows.uptoBulk]
theorem zBa {H:Type} (D:Nat->DataW H):∀l:List Nat,l.length<=Rows.uptoBulkAll (l.map D)
 | []=>by simp[Rows.uptoBulkAll]
 | r::l=>by
  have h1:=zJc (D r);have h2:=zBa D l;simp only[List.map_cons,List.length_cons,Rows.uptoBulkAll];omega
theorem zBf {H:Type} (D:Nat->DataW H):∀{l:List Nat} {r:Nat},r∈l->Rows.uptoBulk (D r)<=Rows.uptoBulkAll (l.map D)
 | s::l,r,h=>by
  simp only[List.map_cons,Rows.uptoBulkAll];cases List.mem_cons.1 h with
  | inl e=>subst e;omega
  | inr e=>have:=zBf D e;omega
structure Sm1 (N:Nat) (a:EA):Prop where
 name:a.1.length<=N
 vals:a.2.length<=N
 each:∀u∈a.2,u.length<=N
theorem Sm1.mono {N M:Nat} {a:EA} (h:Sm1 N a) (hM:N<=M):Sm1 M a:=⟨Nat.le_trans h.name hM,Nat.le_trans h.vals hM,fun u hu=>Nat.le_trans (h.each u hu) hM⟩
structure SmE (N:Nat) (L:List EA):Prop where
 len:L.length<=N
 each:∀a∈L,Sm1 N a
theorem SmE.mono {N M:Nat} {L:List EA} (h:SmE N L) (hM:N<=M):SmE M L:=⟨Nat.le_trans h.len hM,fun a ha=>(h.each a ha).mono hM⟩
structure SmN (N:Nat) (L:List EN):Prop where
 len:L.length<=N
 each:∀e∈L,e.1.length<=N/\SmE N e.2
theorem flat2E (f:Nat->List Value):∀(n:Nat),(∀i,i<n->(f i).length=2)->((List.range n).flatMap f).length=n*2/\∀j u,((List.range n).flatMap f)[j]?=some u->j/2<n/\(f (j/2))[j % 2]?=some u
 | 0,_=>⟨rfl,fun j u h=>by simp at h⟩
 | n+1,h=>by
  obtain⟨h1,h2⟩:=flat2E f n (fun i hi=>h i (by omega));have h7:=h n (by omega);rw[List.range_succ,List.flatMap_append];simp only[List.flatMap_cons,List.flatMap_nil,List.append_nil];refine⟨by rw[List.length_append,h1,h7];omega,fun j u hu=>?_⟩;by_cases hj:j<n*2
  ·rw [List.getElem?_append_left (by rw[h1];exact hj)] at hu;obtain⟨h3,h4⟩:=h2 j u hu;exact⟨by omega,h4⟩
  ·rw [List.getElem?_append_right (by rw[h1];omega),h1] at hu;have hl:=(List.getElem?_eq_some_iff.1 hu).1;have e1:j/2=n:=by omega
   have e2:j % 2=j-n*2:=by omega
   rw[e1,e2];exact⟨by omega,hu⟩
theorem zDb (f:Nat->List Value):∀(n:Nat),(∀i,i<n->(f i).length=2)->∀i,i<n->((List.range n).flatMap f)[i*2]?=(f i)[0]?/\((List.range n).flatMap f)[i*2+1]?=(f i)[1]?
 | 0,_,i,hi=>by omega
 | n+1,h,i,hi=>by
  have hlen:=(flat2E f n (fun i hi=>h i (by omega))).1;rw[List.range_succ,List.flatMap_append];simp only[List.flatMap_cons,List.flatMap_nil,List.append_nil];by_cases hin:i<n
  ·rw [List.getElem?_append_left (by omega),List.getElem?_append_left (by omega)];exact zDb f n (fun i hi=>h i (by omega)) i hin
  ·obtain rfl:i=n:=by omega
   rw[List.getElem?_append_right (by omega),List.getElem?_append_right (by omega),hlen];constructor
   ·congr 1;omega
   ·congr 1;omega
theorem zG0 {H:Type} {enc:TypeId × Value->H} {P:Program} {W:World} {base fuel:Nat} {sp:Nat->Bool} {held:Bool} {t e:TypeId} {v:Value} {x:DataW H × List MemPlace}
  (ht:P.underlying t=some (.slice e)) (ce:P.cellsOf e=1) (he:P.underlying e=some .string) (h:DataW.trod enc P W base sp held fuel t [v]=some x):
  ∃A c L,v=.slice A L.length c/\L.length<=c/\c<=maxLen/\Has W W.heap.size 1 A L.length (strs L)/\L.length<=Rows.uptoBulk x.1/\∀u∈L,u.length<=Rows.uptoBulk x.1:=by
 rcases open_slice1 ht ce h with⟨hcs,hx⟩ | ⟨a,len,cap,m,k,V,D,Pl,hcs,hb,hl,hm,hmm,hx,hall⟩
 ·simp at hcs;subst hcs;exact⟨none,0,[],rfl,by simp,by simp,Has.nil,by simp,fun u hu=>by cases hu⟩
 ·simp at hcs;subst hcs;have hlm:len<=m:=by rw[hmm];split<;>omega
  have each:∀i,i<len->∃q:List UInt8,W.cell? (a.add i)=some (.string (txt q))/\D i=.lit (.string q):=by
   intro i hi;obtain⟨h0,h1⟩:=hall i (by omega);obtain⟨s,hs,hd,_⟩:=DataW.trod_string he h1;have:V i=.string s:=by simpa using hs
   exact⟨s.data.toList,by rw[self_txtE,h0,this],by simpa using congrArg Prod.fst hd⟩
  obtain⟨q,hq⟩:=choose_lt each;refine⟨some a,cap,(List.range len).map q,by simp,by simp;omega,by omega,?_,?_,?_⟩
  ·rw [List.length_map,List.length_range];refine⟨by simp[strs],?_⟩;rcases Nat.eq_zero_or_pos len with h0 | h0
   ·subst h0;exact .inl rfl
   ·refine .inr ⟨a,rfl,?_,fun j u hu=>?_⟩
    ·have:=World.block_lt_of_cell? W _ (hq 0 h0).1
     rwa [zAh] at this
    ·have hj:j<len:=by
      have:=(List.getElem?_eq_some_iff.1 hu).1;simpa[strs] using this
     rw[(hq j hj).1];simpa[strs,List.getElem?_range hj] using hu
  ·rw [show x.1=_ from congrArg Prod.fst hx];have hbk:=zBa D (List.range len);simp only[Rows.uptoBulk,List.length_map,List.length_range] at hbk ⊢;omega
  ·intro u hu;obtain⟨i,hi,rfl⟩:=List.mem_map.1 hu;have h2:=zBf D hi;rw[(hq i (List.mem_range.1 hi)).2] at h2;rw[show x.1=_ from congrArg Prod.fst hx];simp only[Rows.uptoBulk] at h2 ⊢;omega
theorem zBp {H:Type} {enc:TypeId × Value->H} {P:Program} {W:World} {base fuel:Nat} {sp:Nat->Bool} {held:Bool} {t E e5:TypeId} {f0 f1:Field} {v:Value} {x:DataW H × List MemPlace}
  (ht:P.underlying t=some (.slice E)) (hE:P.underlying E=some (.struct #[f0,f1])) (cE:P.cellsOf E=2) (o0:f0.offset=0) (o1:f1.offset=1) (c0:P.cellsOf f0.type=1) (c1:P.cellsOf f1.type=1)
  (s0:P.underlying f0.type=some .string) (s1:P.underlying f1.type=some (.slice e5)) (ce5:P.cellsOf e5=1) (se5:P.underlying e5=some .string) (h:DataW.trod enc P W base sp held fuel t [v]=some x):
  ∃A c xs L,v=.slice A L.length c/\L.length<=c/\c<=maxLen/\Has W W.heap.size 2 A L.length xs/\EAs W W.heap.size xs L/\SmE (Rows.uptoBulk x.1) L:=by
 rcases open_slice ht h with⟨hcs,hx⟩ | ⟨ad,n,c,m,k,D,Pl,hcs,hb,hl,hm,hmm,hx,hall⟩
 ·simp at hcs;subst hcs;exact⟨none,0,[],[],rfl,by simp,by simp,Has.nil,⟨rfl,fun i a ha=>by simp at ha⟩,by simp,fun a ha=>by cases ha⟩
 ·simp at hcs;subst hcs;have hlm:n<=m:=by rw[hmm];split<;>omega
  have each:∀i,i<n->∃q:List Value × EA,(∀j u,q.1[j]?=some u->W.cell? ((ad.add (i*2)).add j)=some u)/\q.1.length=2/\(∃V cv,q.1=[.string (txt q.2.1),.slice V q.2.2.length cv]/\q.2.2.length<=cv/\cv<=maxLen/\Has W W.heap.size 1 V q.2.2.length (strs q.2.2))/\Sm1 (Rows.uptoBulk (D i)) q.2:=by
   intro i hi;obtain⟨cs',h1,h2⟩:=hall i (by omega);rw[cE] at h1;obtain⟨xs,m2,rfl,hDx,hl2,hxl,hf2⟩:=DataW.trod_struct hE h2;rw[cE] at hl2
   match cs',hl2 with
   | [v0,v1],_=>
    have hx2:xs.length=2:=by simpa using hxl
    match xs,hx2 with
    | [y0,y1],_=>
     have g0:=hf2 0 f0 rfl;have g1:=hf2 1 f1 rfl;simp[o0,c0] at g0;simp[o1,c1] at g1;obtain⟨a,ha,hy0,_⟩:=DataW.trod_string s0 g0;simp only[List.cons.injEq,and_true] at ha;subst ha;obtain⟨V,cv,L,hv1,k1,k2,hV,kb1,kb2⟩:=zG0 s1 ce5 se5 g1;subst hv1;have e0:D i=.agg [y0.1,y1.1]:=by simpa using congrArg Prod.fst hDx
     have e1:y0.1=.lit (.string a.data.toList):=(by simpa using congrArg Prod.fst hy0);have hD0:a.data.toList.length<=Rows.uptoBulk (D i):=(by rw[e0,e1];simp only[Rows.uptoBulk,Rows.uptoBulkAll];omega);have hD1:Rows.uptoBulk y1.1<=Rows.uptoBulk (D i):=(by rw[e0];simp only[Rows.uptoBulk,Rows.uptoBulkAll];omega);obtain⟨_,_,hcell⟩:=World.cells?_some h1;refine⟨([.string a,.slice V L.length cv],(a.data.toList,L)),fun j u hu=>?_,rfl,⟨V,cv,by simp only[self_txtE],k1,k2,hV⟩,⟨hD0,by simp only;omega,fun u hu=>Nat.le_trans (kb2 u hu) hD1⟩⟩;have hj:j<2:=(List.getElem?_eq_some_iff.1 hu).1;rw[hcell j hj];exact hu
  haveI:Inhabited EA:=⟨([],[])⟩
  obtain⟨q,hq⟩:=choose_lt each;have hflat:=flat2E (fun i=>(q i).1) n (fun i hi=>(hq i hi).2.1);have hat:=zDb (fun i=>(q i).1) n (fun i hi=>(hq i hi).2.1);refine⟨some ad,c,(List.range n).flatMap fun i=>(q i).1,(List.range n).map fun i=>(q i).2,by simp,by simp;omega,by omega,⟨by rw[hflat.1];simp,?_⟩,⟨by rw[hflat.1];simp,fun i a ha=>?_⟩,?_,?_⟩
  ·rcases Nat.eq_zero_or_pos n with h0 | h0
   ·subst h0;exact .inl rfl
   ·refine .inr ⟨ad,rfl,?_,fun j u hu=>?_⟩
    ·obtain ⟨h1,h2,_⟩:=hq 0 h0;have:=World.block_lt_of_cell? W _ (h1 0 _ (List.getElem?_eq_getElem (by omega)))
     rwa [zAh,zAh] at this
    ·obtain ⟨h1,h2⟩:=hflat.2 j u hu;have:=(hq (j/2) h1).1 (j % 2) u h2;rw[zEw] at this
     rwa [show j/2*2+j % 2=j by omega] at this
  ·have hi:i<n:=by
    have:=(List.getElem?_eq_some_iff.1 ha).1;simpa using this
   obtain rfl:(q i).2=a:=by simpa[List.getElem?_range hi] using ha
   obtain⟨_,_,hP,_⟩:=hq i hi;obtain⟨e0,e1⟩:=hat i hi;obtain⟨V,cv,h1,k1,k2,h2⟩:=hP;exact⟨V,cv,by rw[e0,h1];rfl,by rw[e1,h1];rfl,k1,k2,h2⟩
  ·rw [show x.1=_ from congrArg Prod.fst hx];have hbk:=zBa D (List.range n);simp only[Rows.uptoBulk,List.length_map,List.length_range] at hbk ⊢;omega
  ·intro a ha;have hle:∀i,i<n->Rows.uptoBulk (D i)<=Rows.uptoBulk x.1:=fun i hi=>by
    rw[show x.1=_ from congrArg Prod.fst hx];have h2:=zBf D (List.mem_range.2 hi);simp only[Rows.uptoBulk];omega
   obtain⟨i,hi,rfl⟩:=List.mem_map.1 ha;have hi:=List.mem_range.1 hi;exact (hq i hi).2.2.2.mono (hle i hi)
theorem zDu {H:Type} {enc:TypeId × Value->H} {P:Program} {W:World} {base fuel:Nat} {sp:Nat->Bool} {held:Bool} {t E E2 e5:TypeId} {f0 f1 h0 h1:Field} {v:Value} {x:DataW H × List MemPlace}
  (ht:P.underlying t=some (.slice E)) (hE:P.underlying E=some (.struct #[f0,f1])) (cE:P.cellsOf E=2) (o0:f0.offset=0) (o1:f1.offset=1) (c0:P.cellsOf f0.type=1) (c1:P.cellsOf f1.type=1)
  (s0:P.underlying f0.type=some .string) (s1:P.underlying f1.type=some (.slice E2)) (hE2:P.underlying E2=some (.struct #[h0,h1])) (cE2:P.cellsOf E2=2) (p0:h0.offset=0) (p1:h1.offset=1) (d0:P.cellsOf h0.type=1) (d1:P.cellsOf h1.type=1)
  (r0:P.underlying h0.type=some .string) (r1:P.underlying h1.type=some (.slice e5)) (ce5:P.cellsOf e5=1) (se5:P.underlying e5=some .string) (h:DataW.trod enc P W base sp held fuel t [v]=some x):
  ∃A c xs L,v=.slice A L.length c/\L.length<=c/\c<=maxLen/\Has W W.heap.size 2 A L.length xs/\ENs W W.heap.size xs L/\SmN (Rows.uptoBulk x.1) L:=by
 rcases open_slice ht h with⟨hcs,hx⟩ | ⟨ad,n,c,m,k,D,Pl,hcs,hb,hl,hm,hmm,hx,hall⟩
 ·simp at hcs;subst hcs;exact⟨none,0,[],[],rfl,by simp,by simp,Has.nil,⟨rfl,fun i a ha=>by simp at ha⟩,by simp,fun a ha=>by cases ha⟩
 ·simp at hcs;subst hcs;have hlm:n<=m:=by rw[hmm];split<;>omega
  have each:∀i,i<n->∃q:List Value × EN,(∀j u,q.1[j]?=some u->W.cell? ((ad.add (i*2)).add j)=some u)/\q.1.length=2/\(∃V cv ys,q.1=[.string (txt q.2.1),.slice V q.2.2.length cv]/\q.2.2.length<=cv/\cv<=maxLen/\Has W W.heap.size 2 V q.2.2.length ys/\EAs W W.heap.size ys q.2.2)/\(q.2.1.length<=Rows.uptoBulk (D i)/\SmE (Rows.uptoBulk (D i)) q.2.2):=by
   intro i hi;obtain⟨cs',h1,h2⟩:=hall i (by omega);rw[cE] at h1;obtain⟨xs,m2,rfl,hDx,hl2,hxl,hf2⟩:=DataW.trod_struct hE h2;rw[cE] at hl2
   match cs',hl2 with
   | [v0,v1],_=>
    have hx2:xs.length=2:=by simpa using hxl
    match xs,hx2 with
    | [y0,y1],_=>
     have g0:=hf2 0 f0 rfl;have g1:=hf2 1 f1 rfl;simp[o0,c0] at g0;simp[o1,c1] at g1;obtain⟨a,ha,hy0,_⟩:=DataW.trod_string s0 g0;simp only[List.cons.injEq,and_true] at ha;subst ha;obtain⟨V,cv,ys,L,hv1,k1,k2,hV,hA,kb⟩:=zBp s1 hE2 cE2 p0 p1 d0 d1 r0 r1 ce5 se5 g1;subst hv1;have e0:D i=.agg [y0.1,y1.1]:=by simpa using congrArg Prod.fst hDx
     have e1:y0.1=.lit (.string a.data.toList):=(by simpa using congrArg Prod.fst hy0);have hD0:a.data.toList.length<=Rows.uptoBulk (D i):=(by rw[e0,e1];simp only[Rows.uptoBulk,Rows.uptoBulkAll];omega);have hD1:Rows.uptoBulk y1.1<=Rows.uptoBulk (D i):=(by rw[e0];simp only[Rows.uptoBulk,Rows.uptoBulkAll];omega);obtain⟨_,_,hcell⟩:=World.cells?_some h1;refine⟨([.string a,.slice V L.length cv],(a.data.toList,L)),fun j u hu=>?_,rfl,⟨V,cv,ys,by simp only[self_txtE],k1,k2,hV,hA⟩,⟨hD0,kb.mono hD1⟩⟩;have hj:j<2:=(List.getElem?_eq_some_iff.1 hu).1;rw[hcell j hj];exact hu
  haveI:Inhabited EN:=⟨([],[])⟩
  obtain⟨q,hq⟩:=choose_lt each;have hflat:=flat2E (fun i=>(q i).1) n (fun i hi=>(hq i hi).2.1);have hat:=zDb (fun i=>(q i).1) n (fun i hi=>(hq i hi).2.1);refine⟨some ad,c,(List.range n).flatMap fun i=>(q i).1,(List.range n).map fun i=>(q i).2,by simp,by simp;omega,by omega,⟨by rw[hflat.1];simp,?_⟩,⟨by rw[hflat.1];simp,fun i a ha=>?_⟩,?_,?_⟩
  ·rcases Nat.eq_zero_or_pos n with g0 | g0
   ·subst g0;exact .inl rfl
   ·refine .inr ⟨ad,rfl,?_,fun j u hu=>?_⟩
    ·obtain ⟨h1,h2,_⟩:=hq 0 g0;have:=World.block_lt_of_cell? W _ (h1 0 _ (List.getElem?_eq_getElem (by omega)))
     rwa [zAh,zAh] at this
    ·obtain ⟨h1,h2⟩:=hflat.2 j u hu;have:=(hq (j/2) h1).1 (j % 2) u h2;rw[zEw] at this
     rwa [show j/2*2+j % 2=j by omega] at this
  ·have hi:i<n:=by
    have:=(List.getElem?_eq_some_iff.1 ha).1;simpa using this
   obtain rfl:(q i).2=a:=by simpa[List.getElem?_range hi] using ha
   obtain⟨_,_,hP,_⟩:=hq i hi;obtain⟨e0,e1⟩:=hat i hi;obtain⟨V,cv,ys,h1,k1,k2,h2,h3⟩:=hP;exact⟨V,cv,ys,by rw[e0,h1];rfl,by rw[e1,h1];rfl,k1,k2,h2,h3⟩
  ·rw [show x.1=_ from congrArg Prod.fst hx];have hbk:=zBa D (List.range n);simp only[Rows.uptoBulk,List.length_map,List.length_range] at hbk ⊢;omega
  ·intro a ha;have hle:∀i,i<n->Rows.uptoBulk (D i)<=Rows.uptoBulk x.1:=fun i hi=>by
    rw[show x.1=_ from congrArg Prod.fst hx];have h2:=zBf D (List.mem_range.2 hi);simp only[Rows.uptoBulk];omega
   obtain⟨i,hi,rfl⟩:=List.mem_map.1 ha;have hi:=List.mem_range.1 hi;exact⟨Nat.le_trans (hq i hi).2.2.2.1 (hle i hi),(hq i hi).2.2.2.2.mono (hle i hi)⟩
theorem open_eattrs {H:Type} {enc:TypeId × Value->H} {P:Program} {W:World} {r:Reach} {base b0:Nat} {sp:Nat->Bool} {held:Bool} {t E e5:TypeId} {v:Value} {d:DataW H} {p:List MemPlace} {f0 f1:Field}
  (ht:P.underlying t=some (.slice E)) (hE:P.underlying E=some (.struct #[f0,f1])) (cE:P.cellsOf E=2) (o0:f0.offset=0) (o1:f1.offset=1) (c0:P.cellsOf f0.type=1) (c1:P.cellsOf f1.type=1)
  (s0:P.underlying f0.type=some .string) (s1:P.underlying f1.type=some (.slice e5)) (ce5:P.cellsOf e5=1) (se5:P.underlying e5=some .string) (hv:Value.okWide P W r b0 t v) (h:DataW.Trod enc P W base sp held t v d p):
  ∃A c xs L,v=.slice A L.length c/\L.length<=c/\c<=maxLen/\Has W W.heap.size 2 A L.length xs/\EAs W W.heap.size xs L/\SmE (Rows.uptoBulk d) L:=by
 obtain⟨A,n,c,rfl⟩:=okWide_slice ht hv;obtain⟨fuel,hf⟩:=h;exact zBp ht hE cE o0 o1 c0 c1 s0 s1 ce5 se5 (x:=(d,p)) (by simpa[Value.cells] using hf)
theorem open_ents {H:Type} {enc:TypeId × Value->H} {P:Program} {W:World} {r:Reach} {base b0:Nat} {sp:Nat->Bool} {held:Bool} {t E E2 e5:TypeId} {v:Value} {d:DataW H} {p:List MemPlace} {f0 f1 h0 h1:Field}
  (ht:P.underlying t=some (.slice E)) (hE:P.underlying E=some (.struct #[f0,f1])) (cE:P.cellsOf E=2) (o0:f0.offset=0) (o1:f1.offset=1) (c0:P.cellsOf f0.type=1) (c1:P.cellsOf f1.type=1)
  (s0:P.underlying f0.type=some .string) (s1:P.underlying f1.type=some (.slice E2)) (hE2:P.underlying E2=some (.struct #[h0,h1])) (cE2:P.cellsOf E2=2) (p0:h0.offset=0) (p1:h1.offset=1) (d0:P.cellsOf h0.type=1) (d1:P.cellsOf h1.type=1)
  (r0:P.underlying h0.type=some .string) (r1:P.underlying h1.type=some (.slice e5)) (ce5:P.cellsOf e5=1) (se5:P.underlying e5=some .string) (hv:Value.okWide P W r b0 t v) (h:DataW.Trod enc P W base sp held t v d p):
  ∃A c xs L,v=.slice A L.length c/\L.length<=c/\c<=maxLen/\Has W W.heap.size 2 A L.length xs/\ENs W W.heap.size xs L/\SmN (Rows.uptoBulk d) L:=by
 obtain⟨A,n,c,rfl⟩:=okWide_slice ht hv;obtain⟨fuel,hf⟩:=h;exact zDu ht hE cE o0 o1 c0 c1 s0 s1 hE2 cE2 p0 p1 d0 d1 r0 r1 ce5 se5 (x:=(d,p)) (by simpa[Value.cells] using hf)
theorem open_entry {H:Type} {enc:TypeId × Value->H} {P:Program} {W:World} {r:Reach} {base b0:Nat} {sp:Nat->Bool} {held:Bool} {E E2 e5:TypeId} {v:Value} {d:DataW H} {p:List MemPlace} {f0 f1 h0 h1:Field}
  (hE:P.underlying E=some (.struct #[f0,f1])) (cE:P.cellsOf E=2) (o0:f0.offset=0) (o1:f1.offset=1) (c0:P.cellsOf f0.type=1) (c1:P.cellsOf f1.type=1)
  (s0:P.underlying f0.type=some .string) (s1:P.underlying f1.type=some (.slice E2)) (hE2:P.underlying E2=some (.struct #[h0,h1])) (cE2:P.cellsOf E2=2) (p0:h0.offset=0) (p1:h1.offset=1) (d0:P.cellsOf h0.type=1) (d1:P.cellsOf h1.type=1)
  (r0:P.underlying h0.type=some .string) (r1:P.underlying h1.type=some (.slice e5)) (ce5:P.cellsOf e5=1) (se5:P.underlying e5=some .string)
  (hval:Value.okWide P W r b0 E v) (h:DataW.Trod enc P W base sp held E v d p):
  ∃(A:Option Addr) (c:Nat) (ys:List Value) (e:EN),v=.agg #[.string (txt e.1),.slice A e.2.length c]/\e.2.length<=c/\c<=maxLen/\Has W W.heap.size 2 A e.2.length ys/\EAs W W.heap.size ys e.2/\e.1.length<=Rows.uptoBulk d/\SmE (Rows.uptoBulk d) e.2:=by
 simp only[Value.okWide,hE] at hval;obtain⟨cs,rfl,_⟩:=hval;obtain⟨fuel,hf⟩:=h;obtain⟨l⟩:=cs;obtain⟨xs,m,rfl,hDx,hl,hxl,hf2⟩:=DataW.trod_struct hE hf;simp only[Value.cells] at hl hf2;rw[cE] at hl
 match l,hl with
 | [v0,v1],_=>
  have hx2:xs.length=2:=by simpa using hxl
  match xs,hx2 with
  | [y0,y1],_=>
   have g0:=hf2 0 f0 rfl;have g1:=hf2 1 f1 rfl;simp[o0,c0] at g0;simp[o1,c1] at g1;obtain⟨a,ha,hy0,_⟩:=DataW.trod_string s0 g0;simp only[List.cons.injEq,and_true] at ha;subst ha;obtain⟨V,cv,ys,L,hv1,k1,k2,hV,hA,kb⟩:=zBp s1 hE2 cE2 p0 p1 d0 d1 r0 r1 ce5 se5 g1;subst hv1;have e0:d=.agg [y0.1,y1.1]:=by simpa using congrArg Prod.fst hDx
   have e1:y0.1=.lit (.string a.data.toList):=by simpa using congrArg Prod.fst hy0
   have hD0:a.data.toList.length<=Rows.uptoBulk d:=by rw[e0,e1];simp only[Rows.uptoBulk,Rows.uptoBulkAll];omega
   have hD1:Rows.uptoBulk y1.1<=Rows.uptoBulk d:=by rw[e0];simp only[Rows.uptoBulk,Rows.uptoBulkAll];omega
   exact⟨V,cv,ys,(a.data.toList,L),by simp only[self_txtE],k1,k2,hV,hA,hD0,kb.mono hD1⟩
end Go.Proofs.YtlfglibcggphjaaGreatDoor.Opens
