/- Arguments that are changes, opened; and what their bulk bounds. By an AI agent. -/
import Derived.Test.YtajkmiialgiikaaGreatDoorDV
import Derived.Test.YtajkmiialgiikaaGreatDoorOpenEnts
set_option linter.unusedSimpArgs false
set_option linter.unusedVariables false
set_option maxRecDepth 1000000
namespace Go.Proofs.YtajkmiialgiikaaGreatDoor.Opens
open Go Go.ChangeShapes Go.WideShapes Go.ChangeAt Go.RowKit Go.Deep
theorem flat3E (f:Nat->List Value):∀(n:Nat),(∀i,i<n->(f i).length=3)->((List.range n).flatMap f).length=n*3/\∀j u,((List.range n).flatMap f)[j]?=some u->j/3<n/\(f (j/3))[j % 3]?=some u
 | 0,_=>⟨rfl,fun j u h=>by simp at h⟩
 | n+1,h=>by
  obtain⟨h1,h2⟩:=flat3E f n (fun i hi=>h i (by omega));have h7:=h n (by omega);rw[List.range_succ,List.flatMap_append];simp only[List.flatMap_cons,List.flatMap_nil,List.append_nil];refine⟨by rw[List.length_append,h1,h7];omega,fun j u hu=>?_⟩;by_cases hj:j<n*3
  ·rw [List.getElem?_append_left (by rw[h1];exact hj)] at hu;obtain⟨h3,h4⟩:=h2 j u hu;exact⟨by omega,h4⟩
  ·rw [List.getElem?_append_right (by rw[h1];omega),h1] at hu;have hl:=(List.getElem?_eq_some_iff.1 hu).1;have e1:j/3=n:=by omega
   have e2:j % 3=j-n*3:=by omega
   rw[e1,e2];exact⟨by omega,hu⟩
theorem zIj (f:Nat->List Value):∀(n:Nat),(∀i,i<n->(f i).length=3)->∀i,i<n->((List.range n).flatMap f)[i*3]?=(f i)[0]?/\((List.range n).flatMap f)[i*3+1]?=(f i)[1]?/\((List.range n).flatMap f)[i*3+2]?=(f i)[2]?
 | 0,_,i,hi=>by omega
 | n+1,h,i,hi=>by
  have hlen:=(flat3E f n (fun i hi=>h i (by omega))).1;rw[List.range_succ,List.flatMap_append];simp only[List.flatMap_cons,List.flatMap_nil,List.append_nil];by_cases hin:i<n
  ·rw [List.getElem?_append_left (by omega),List.getElem?_append_left (by omega),List.getElem?_append_left (by omega)];exact zIj f n (fun i hi=>h i (by omega)) i hin
  ·obtain rfl:i=n:=by omega
   rw[List.getElem?_append_right (by omega),List.getElem?_append_right (by omega),List.getElem?_append_right (by omega),hlen];refine⟨?_,?_,?_⟩
   ·congr 1;omega
   ·congr 1;omega
   ·congr 1;omega
structure SmC (N:Nat) (L:List CH):Prop where
 len:L.length<=N
 each:∀a∈L,Sm1 N a.2
theorem zIh {H:Type} {enc:TypeId × Value->H} {P:Program} {W:World} {base fuel:Nat} {sp:Nat->Bool} {held:Bool} {t E e5:TypeId} {f0 f1 h0 h1:Field} {v:Value} {x:DataW H × List MemPlace}
  (ht:P.underlying t=some (.slice E)) (hE:P.underlying E=some (.struct #[f0,f1])) (cE:P.cellsOf E=3) (o0:f0.offset=0) (o1:f1.offset=1) (c0:P.cellsOf f0.type=1) (c1:P.cellsOf f1.type=2)
  (s0:P.underlying f0.type=some (.int .i64)) (hE2:P.underlying f1.type=some (.struct #[h0,h1])) (p0:h0.offset=0) (p1:h1.offset=1) (d0:P.cellsOf h0.type=1) (d1:P.cellsOf h1.type=1)
  (r0:P.underlying h0.type=some .string) (r1:P.underlying h1.type=some (.slice e5)) (ce5:P.cellsOf e5=1) (se5:P.underlying e5=some .string) (h:DataW.trod enc P W base sp held fuel t [v]=some x):
  ∃A c xs L,v=.slice A L.length c/\L.length<=c/\c<=maxLen/\Has W W.heap.size 3 A L.length xs/\CHs W W.heap.size xs L/\SmC (Rows.uptoBulk x.1) L:=by
 rcases open_slice ht h with⟨hcs,hx⟩ | ⟨ad,n,c,m,k,D,Pl,hcs,hb,hl,hm,hmm,hx,hall⟩
 ·simp at hcs;subst hcs;exact⟨none,0,[],[],rfl,by simp,by simp,Has.nil,⟨rfl,fun i a ha=>by simp at ha⟩,by simp,fun a ha=>by cases ha⟩
 ·simp at hcs;subst hcs;have hlm:n<=m:=by rw[hmm];split<;>omega
  have each:∀i,i<n->∃q:List Value × CH,(∀j u,q.1[j]?=some u->W.cell? ((ad.add (i*3)).add j)=some u)/\q.1.length=3/\(∃V cv,q.1=[.int .i64 q.2.1,.string (txt q.2.2.1),.slice V q.2.2.2.length cv]/\q.2.2.2.length<=cv/\cv<=maxLen/\Has W W.heap.size 1 V q.2.2.2.length (strs q.2.2.2))/\Sm1 (Rows.uptoBulk (D i)) q.2.2:=by
   intro i hi;obtain⟨cs',hc1,hc2⟩:=hall i (by omega);rw[cE] at hc1;obtain⟨xs,m2,rfl,hDx,hl2,hxl,hf2⟩:=DataW.trod_struct hE hc2;rw[cE] at hl2
   match cs',hl2 with
   | [v0,v1,v2],_=>
    have hx2:xs.length=2:=by simpa using hxl
    match xs,hx2 with
    | [y0,y1],_=>
     have g0:=hf2 0 f0 rfl;have g1:=hf2 1 f1 rfl;simp[o0,c0] at g0;simp[o1,c1] at g1;obtain⟨op,hop,hy0,_⟩:=DataW.trod_int s0 g0;simp only[List.cons.injEq,and_true] at hop;subst hop;obtain⟨zs,m3,rfl,hDz,hl3,hzl,hf3⟩:=DataW.trod_struct hE2 g1;have hz2:zs.length=2:=by simpa using hzl
     match zs,hz2 with
     | [z0,z1],_=>
      have k0:=hf3 0 h0 rfl;have k1:=hf3 1 h1 rfl;simp[p0,d0] at k0;simp[p1,d1] at k1;obtain⟨a,ha,hz0,_⟩:=DataW.trod_string r0 k0;simp only[List.cons.injEq,and_true] at ha;subst ha;obtain⟨V,cv,L,hv1,q1,q2,hV,kb1,kb2⟩:=zFk r1 ce5 se5 k1;subst hv1;have e0:D i=.agg [y0.1,y1.1]:=by simpa using congrArg Prod.fst hDx
      have e2:y1.1=.agg [z0.1,z1.1]:=(by simpa using congrArg Prod.fst hDz);have e1:z0.1=.lit (.string a.data.toList):=(by simpa using congrArg Prod.fst hz0);have hD0:a.data.toList.length<=Rows.uptoBulk (D i):=(by rw[e0,e2,e1];simp only[Rows.uptoBulk,Rows.uptoBulkAll];omega);have hD1:Rows.uptoBulk z1.1<=Rows.uptoBulk (D i):=(by rw[e0,e2];simp only[Rows.uptoBulk,Rows.uptoBulkAll];omega);obtain⟨_,_,hcell⟩:=World.cells?_some hc1;refine⟨([.int .i64 op,.string a,.slice V L.length cv],(op,(a.data.toList,L))),fun j u hu=>?_,rfl,⟨V,cv,by simp only[zBw],q1,q2,hV⟩,⟨hD0,by simp only;omega,fun u hu=>Nat.le_trans (kb2 u hu) hD1⟩⟩;have hj:j<3:=(List.getElem?_eq_some_iff.1 hu).1;rw[hcell j hj];exact hu
  haveI:Inhabited CH:=⟨(0,([],[]))⟩
  obtain⟨q,hq⟩:=choose_lt each;have hflat:=flat3E (fun i=>(q i).1) n (fun i hi=>(hq i hi).2.1);have hat:=zIj (fun i=>(q i).1) n (fun i hi=>(hq i hi).2.1);refine⟨some ad,c,(List.range n).flatMap fun i=>(q i).1,(List.range n).map fun i=>(q i).2,by simp,by simp;omega,by omega,⟨by rw[hflat.1];simp,?_⟩,⟨by rw[hflat.1];simp,fun i a ha=>?_⟩,?_,?_⟩
  ·rcases Nat.eq_zero_or_pos n with h0 | h0
   ·subst h0;exact .inl rfl
   ·refine .inr ⟨ad,rfl,?_,fun j u hu=>?_⟩
    ·obtain ⟨h1,h2,_⟩:=hq 0 h0;have:=World.block_lt_of_cell? W _ (h1 0 _ (List.getElem?_eq_getElem (by omega)))
     rwa [zAq,zAq] at this
    ·obtain ⟨h1,h2⟩:=hflat.2 j u hu;have:=(hq (j/3) h1).1 (j % 3) u h2;rw[zG3] at this
     rwa [show j/3*3+j % 3=j by omega] at this
  ·have hi:i<n:=by
    have:=(List.getElem?_eq_some_iff.1 ha).1;simpa using this
   obtain rfl:(q i).2=a:=by simpa[List.getElem?_range hi] using ha
   obtain⟨_,_,hP,_⟩:=hq i hi;obtain⟨e0,e1,e2⟩:=hat i hi;obtain⟨V,cv,h1,k1,k2,h2⟩:=hP;exact⟨V,cv,by rw[e0,h1];rfl,by rw[e1,h1];rfl,by rw[e2,h1];rfl,k1,k2,h2⟩
  ·rw [show x.1=_ from congrArg Prod.fst hx];have hbk:=zCb D (List.range n);simp only[Rows.uptoBulk,List.length_map,List.length_range] at hbk ⊢;omega
  ·intro a ha;have hle:∀i,i<n->Rows.uptoBulk (D i)<=Rows.uptoBulk x.1:=fun i hi=>by
    rw[show x.1=_ from congrArg Prod.fst hx];have h2:=zCk D (List.mem_range.2 hi);simp only[Rows.uptoBulk];omega
   obtain⟨i,hi,rfl⟩:=List.mem_map.1 ha;have hi:=List.mem_range.1 hi;exact (hq i hi).2.2.2.mono (hle i hi)
theorem zQi {H:Type} {enc:TypeId × Value->H} {P:Program} {W:World} {r:Reach} {base b0:Nat} {sp:Nat->Bool} {held:Bool} {t E e5:TypeId} {v:Value} {d:DataW H} {p:List MemPlace} {f0 f1 h0 h1:Field}
  (ht:P.underlying t=some (.slice E)) (hE:P.underlying E=some (.struct #[f0,f1])) (cE:P.cellsOf E=3) (o0:f0.offset=0) (o1:f1.offset=1) (c0:P.cellsOf f0.type=1) (c1:P.cellsOf f1.type=2)
  (s0:P.underlying f0.type=some (.int .i64)) (hE2:P.underlying f1.type=some (.struct #[h0,h1])) (p0:h0.offset=0) (p1:h1.offset=1) (d0:P.cellsOf h0.type=1) (d1:P.cellsOf h1.type=1)
  (r0:P.underlying h0.type=some .string) (r1:P.underlying h1.type=some (.slice e5)) (ce5:P.cellsOf e5=1) (se5:P.underlying e5=some .string) (hv:Value.okWide P W r b0 t v) (h:DataW.Trod enc P W base sp held t v d p):
  ∃A c xs L,v=.slice A L.length c/\L.length<=c/\c<=maxLen/\Has W W.heap.size 3 A L.length xs/\CHs W W.heap.size xs L/\SmC (Rows.uptoBulk d) L:=by
 obtain⟨A,n,c,rfl⟩:=okWide_slice ht hv;obtain⟨fuel,hf⟩:=h;exact zIh ht hE cE o0 o1 c0 c1 s0 hE2 p0 p1 d0 d1 r0 r1 ce5 se5 (x:=(d,p)) (by simpa[Value.cells] using hf)
theorem open_chgs_here {H:Type} {enc:TypeId × Value->H} {W:World} {r:Reach} {base b0:Nat} {sp:Nat->Bool} {held:Bool} {v:Value} {d:DataW H} {p:List MemPlace}
  (hv:Value.okWide Tryz.prog W r b0 46 v) (h:DataW.Trod enc Tryz.prog W base sp held 46 v d p):
  ∃A c xs L,v=.slice A L.length c/\L.length<=c/\c<=maxLen/\Has W W.heap.size 3 A L.length xs/\CHs W W.heap.size xs L/\SmC (Rows.uptoBulk d) L:=
 zQi Tryz.underlying46 Tryz.underlying85 (by kernel_rfl) rfl rfl (by kernel_rfl) (by kernel_rfl) Tryz.underlying3 Tryz.underlying60 rfl rfl (by kernel_rfl) (by kernel_rfl) Tryz.underlying9 Tryz.underlying43 (by kernel_rfl) Tryz.underlying9 hv h
end Go.Proofs.YtajkmiialgiikaaGreatDoor.Opens
