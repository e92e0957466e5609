/- Arguments that are attributes, or rows of texts, opened. By an AI agent. -/
import Derived.Test.YtaolhefllfnmiaaGreatDoorHX
import Derived.Test.YtaolhefllfnmiaaGreatDoorOpenFilter
namespace Go.Proofs.YtaolhefllfnmiaaGreatDoor.Opens
open Go Go.ChangeShapes Go.WideShapes Go.ChangeAt Go.RowKit Go.Deep
set_option linter.unusedVariables false
theorem open_texts {H:Type} {enc:TypeId × Value→H} {P:Program} {W:World} {r:Reach} {base b0:Nat} {sp:Nat→Bool} {held:Bool} {t e:TypeId} {v:Value} {d:DataW H} {p:List MemPlace}
  (ht:P.underlying t=some (.slice e)) (ce:P.cellsOf e=1) (he:P.underlying e=some .string) (hv:Value.okWide P W r b0 t v) (h:DataW.Trod enc P W base sp held t v d p):
  ∃A c L,v=.slice A L.length c∧L.length≤maxLen∧Has W W.heap.size 1 A L.length (strs L):=by
 obtain⟨A,n,c,rfl⟩:=okWide_slice ht hv
 obtain⟨fuel,hf⟩:=h
 exact texts_cells ht ce he (by simpa[Value.cells] using hf)
theorem flat2 (f:Nat→List Value):∀(n:Nat),(∀i,i<n→(f i).length=2)→((List.range n).flatMap f).length=n*2∧∀j u,((List.range n).flatMap f)[j]?=some u→j/2<n∧(f (j/2))[j % 2]?=some u
 | 0,_=>⟨rfl,fun j u h=>by simp at h⟩
 | n+1,h=>by
  obtain⟨h1,h2⟩:=flat2 f n (fun i hi=>h i (by omega))
  have h7:=h n (by omega)
  rw[List.range_succ,List.flatMap_append]
  simp only[List.flatMap_cons,List.flatMap_nil,List.append_nil]
  refine⟨by rw[List.length_append,h1,h7];omega,fun j u hu=>?_⟩
  by_cases hj:j<n*2
  ·rw [List.getElem?_append_left (by rw[h1];exact hj)] at hu
   obtain⟨h3,h4⟩:=h2 j u hu
   exact⟨by omega,h4⟩
  ·rw [List.getElem?_append_right (by rw[h1];omega),h1] at hu
   have hl:=(List.getElem?_eq_some_iff.1 hu).1
   have e1:j/2=n:=by omega
   have e2:j % 2=j-n*2:=by omega
   rw[e1,e2]
   exact⟨by omega,hu⟩
theorem flat2_at (f:Nat→List Value):∀(n:Nat),(∀i,i<n→(f i).length=2)→∀i,i<n→((List.range n).flatMap f)[i*2]?=(f i)[0]?∧((List.range n).flatMap f)[i*2+1]?=(f i)[1]?
 | 0,_,i,hi=>by omega
 | n+1,h,i,hi=>by
  have hlen:=(flat2 f n (fun i hi=>h i (by omega))).1
  rw[List.range_succ,List.flatMap_append]
  simp only[List.flatMap_cons,List.flatMap_nil,List.append_nil]
  by_cases hin:i<n
  ·rw [List.getElem?_append_left (by omega),List.getElem?_append_left (by omega)]
   exact flat2_at f n (fun i hi=>h i (by omega)) i hin
  ·obtain rfl:i=n:=by omega
   rw[List.getElem?_append_right (by omega),List.getElem?_append_right (by omega),hlen]
   constructor
   ·congr 1;omega
   ·congr 1;omega
theorem open_attrs {H:Type} {enc:TypeId × Value→H} {P:Program} {W:World} {r:Reach} {base b0:Nat} {sp:Nat→Bool} {held:Bool} {t E e5:TypeId} {v:Value} {d:DataW H} {p:List MemPlace} {f0 f1:Field}
  (ht:P.underlying t=some (.slice E)) (hE:P.underlying E=some (.struct #[f0,f1])) (cE:P.cellsOf E=2) (o0:f0.offset=0) (o1:f1.offset=1) (c0:P.cellsOf f0.type=1) (c1:P.cellsOf f1.type=1)
  (s0:P.underlying f0.type=some .string) (s1:P.underlying f1.type=some (.slice e5)) (ce5:P.cellsOf e5=1) (se5:P.underlying e5=some .string) (hv:Value.okWide P W r b0 t v) (h:DataW.Trod enc P W base sp held t v d p):
  ∃A n c xs L,v=.slice A n c∧n≤maxLen∧Has W W.heap.size 2 A n xs∧AsIn W W.heap.size xs L:=by
 obtain⟨A,n,c,rfl⟩:=okWide_slice ht hv
 obtain⟨fuel,hf⟩:=h
 rcases open_slice ht hf with⟨hcs,hx⟩ | ⟨ad,len,cap,m,k,D,Pl,hcs,hb,hl,hm,hmm,hx,hall⟩
 ·simp [Value.cells] at hcs
  obtain⟨rfl,rfl,rfl⟩:=hcs
  exact⟨none,0,0,[],[],rfl,by simp,Has.nil,⟨rfl,fun i a ha=>by simp at ha⟩⟩
 ·simp [Value.cells] at hcs
  obtain⟨rfl,rfl,rfl⟩:=hcs
  have hlm:n≤m:=by rw[hmm];split<;>omega
  have each:∀i,i<n→∃q:List Value × At2,(∀j u,q.1[j]?=some u→W.cell? ((ad.add (i*2)).add j)=some u)∧q.1.length=2∧∃V cv,q.1=[.string (txt q.2.1),.slice V q.2.2.length cv]∧Has W W.heap.size 1 V q.2.2.length (strs q.2.2):=by
   intro i hi
   obtain⟨cs',h1,h2⟩:=hall i (by omega)
   rw[cE] at h1
   obtain⟨xs,m2,rfl,_,hl2,hxl,hf2⟩:=DataW.trod_struct hE h2
   rw[cE] at hl2
   match cs',hl2 with
   | [v0,v1],_=>
    have hx2:xs.length=2:=by simpa using hxl
    match xs,hx2 with
    | [y0,y1],_=>
     have g0:=hf2 0 f0 rfl
     have g1:=hf2 1 f1 rfl
     simp[o0,c0] at g0
     simp[o1,c1] at g1
     obtain⟨a,ha,_,_⟩:=DataW.trod_string s0 g0
     simp only[List.cons.injEq,and_true] at ha
     subst ha
     obtain⟨V,cv,L,hv1,_,hV⟩:=texts_cells s1 ce5 se5 g1
     subst hv1
     obtain⟨_,_,hcell⟩:=World.cells?_some h1
     refine⟨([.string a,.slice V L.length cv],(a.data.toList,L)),fun j u hu=>?_,rfl,V,cv,by simp only[self_txt],hV⟩
     have hj:j<2:=(List.getElem?_eq_some_iff.1 hu).1
     rw[hcell j hj]
     exact hu
  haveI:Inhabited At2:=⟨([],[])⟩
  obtain⟨q,hq⟩:=choose_lt each
  have hflat:=flat2 (fun i=>(q i).1) n (fun i hi=>(hq i hi).2.1)
  have hat:=flat2_at (fun i=>(q i).1) n (fun i hi=>(hq i hi).2.1)
  refine⟨some ad,n,c,(List.range n).flatMap fun i=>(q i).1,(List.range n).map fun i=>(q i).2,rfl,by omega,⟨hflat.1,?_⟩,⟨by rw[hflat.1];simp,fun i a ha=>?_⟩⟩
  ·rcases Nat.eq_zero_or_pos n with h0 | h0
   ·subst h0
    exact .inl rfl
   ·refine .inr ⟨ad,rfl,?_,fun j u hu=>?_⟩
    ·obtain ⟨h1,h2,_⟩:=hq 0 h0
     have:=World.block_lt_of_cell? W _ (h1 0 _ (List.getElem?_eq_getElem (by omega)))
     rwa [block_add,block_add] at this
    ·obtain ⟨h1,h2⟩:=hflat.2 j u hu
     have:=(hq (j/2) h1).1 (j % 2) u h2
     rw[add_add] at this
     rwa [show j/2*2+j % 2=j by omega] at this
  ·have hi:i<n:=by
    have:=(List.getElem?_eq_some_iff.1 ha).1
    simpa using this
   obtain rfl:(q i).2=a:=by simpa[List.getElem?_range hi] using ha
   obtain⟨_,_,V,cv,h1,h2⟩:=hq i hi
   obtain⟨e0,e1⟩:=hat i hi
   exact⟨V,cv,by rw[e0,h1];rfl,by rw[e1,h1];rfl,h2⟩
end Go.Proofs.YtaolhefllfnmiaaGreatDoor.Opens
