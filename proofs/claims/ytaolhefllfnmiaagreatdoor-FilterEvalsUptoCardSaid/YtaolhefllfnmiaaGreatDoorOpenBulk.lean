/- Arguments that are attributes, opened; and what their bulk bounds. By an AI agent. -/
import Derived.Test.YtaolhefllfnmiaaGreatDoorHZ
import Derived.Test.YtaolhefllfnmiaaGreatDoorOpenAttrs
namespace Go.Proofs.YtaolhefllfnmiaaGreatDoor.Opens
open Go Go.ChangeShapes Go.WideShapes Go.ChangeAt Go.RowKit Go.Deep
set_option linter.unusedVariables false
theorem bulk_list {H:Type} (D:Nat→DataW H) (g:Nat→Nat):∀l:List Nat,(∀r∈l,g r≤Rows.uptoBulk (D r))→(l.map g).sum≤Rows.uptoBulkAll (l.map D)
 | [],_=>by simp[Rows.uptoBulkAll]
 | r::l,h=>by
  have h1:=h r (by simp)
  have h2:=bulk_list D g l (fun s hs=>h s (by simp[hs]))
  simp only[List.map_cons,List.sum_cons,Rows.uptoBulkAll]
  omega
theorem mem_bulk {H:Type} (D:Nat→DataW H):∀{l:List Nat} {r:Nat},r∈l→Rows.uptoBulk (D r)≤Rows.uptoBulkAll (l.map D)
 | s::l,r,h=>by
  simp only[List.map_cons,Rows.uptoBulkAll]
  cases List.mem_cons.1 h with
  | inl e=>subst e;omega
  | inr e=>have:=mem_bulk D e;omega
theorem texts_bulk {H:Type} {enc:TypeId × Value→H} {P:Program} {W:World} {base fuel:Nat} {sp:Nat→Bool} {held:Bool} {t e:TypeId} {v:Value} {x:DataW H × List MemPlace}
  (ht:P.underlying t=some (.slice e)) (ce:P.cellsOf e=1) (he:P.underlying e=some .string) (h:DataW.trod enc P W base sp held fuel t [v]=some x):
  ∃A c L,v=.slice A L.length c∧L.length≤maxLen∧Has W W.heap.size 1 A L.length (strs L)∧L.length+wX L+1≤Rows.uptoBulk x.1:=by
 rcases open_slice1 ht ce h with⟨hcs,hx⟩ | ⟨a,len,cap,m,k,V,D,Pl,hcs,hb,hl,hm,hmm,hx,hall⟩
 ·simp at hcs
  subst hcs
  rw[hx]
  exact⟨none,0,[],rfl,by simp,Has.nil,by simp[wX,Rows.uptoBulk]⟩
 ·simp at hcs
  subst hcs
  have hlm:len≤m:=by rw[hmm];split<;>omega
  have each:∀i,i<len→∃q:List UInt8,W.cell? (a.add i)=some (.string (txt q))∧D i=.lit (.string q):=by
   intro i hi
   obtain⟨h0,h1⟩:=hall i (by omega)
   obtain⟨s,hs,hd,_⟩:=DataW.trod_string he h1
   have:V i=.string s:=by simpa using hs
   exact⟨s.data.toList,by rw[self_txt,h0,this],by simpa using congrArg Prod.fst hd⟩
  obtain⟨q,hq⟩:=choose_lt each
  have hbk:=bulk_list D (fun i=>1+(q i).length/100) (List.range len) (fun i hi=>by
   rw[(hq i (List.mem_range.1 hi)).2]
   simp only[Rows.uptoBulk]
   omega)
  refine⟨some a,cap,(List.range len).map q,by simp,by simp;omega,?_,?_⟩
  rotate_left
  ·rw [hx]
   simp only[Rows.uptoBulk]
   have e1:∀l:List Nat,(l.map q).length+wX (l.map q)=(l.map fun i=>1+(q i).length/100).sum:=fun l=>by
    induction l with
    | nil=>simp[wX]
    | cons y r ih=>simp only[wX,List.map_cons,List.sum_cons,List.length_cons] at ih ⊢;omega
   rw[e1]
   omega
  rw[List.length_map,List.length_range]
  refine⟨by simp[strs],?_⟩
  rcases Nat.eq_zero_or_pos len with h0 | h0
  ·subst h0
   exact .inl rfl
  ·refine .inr ⟨a,rfl,?_,fun j u hu=>?_⟩
   ·have:=World.block_lt_of_cell? W _ (hq 0 h0).1
    rwa [block_add] at this
   ·have hj:j<len:=by
     have:=(List.getElem?_eq_some_iff.1 hu).1
     simpa[strs] using this
    rw[(hq j hj).1]
    simpa[strs,List.getElem?_range hj] using hu
theorem open_attrs_bulk {H:Type} {enc:TypeId × Value→H} {P:Program} {W:World} {r:Reach} {base b0:Nat} {sp:Nat→Bool} {held:Bool} {t E e5:TypeId} {v:Value} {d:DataW H} {p:List MemPlace} {f0 f1:Field}
  (ht:P.underlying t=some (.slice E)) (hE:P.underlying E=some (.struct #[f0,f1])) (cE:P.cellsOf E=2) (o0:f0.offset=0) (o1:f1.offset=1) (c0:P.cellsOf f0.type=1) (c1:P.cellsOf f1.type=1)
  (s0:P.underlying f0.type=some .string) (s1:P.underlying f1.type=some (.slice e5)) (ce5:P.cellsOf e5=1) (se5:P.underlying e5=some .string) (hv:Value.okWide P W r b0 t v) (h:DataW.Trod enc P W base sp held t v d p):
  ∃A n c xs L,v=.slice A n c∧n≤maxLen∧Has W W.heap.size 2 A n xs∧AsIn W W.heap.size xs L∧wL L≤Rows.uptoBulk d∧∀a∈L,a.1.length≤Rows.uptoBulk d:=by
 obtain⟨A,n,c,rfl⟩:=okWide_slice ht hv
 obtain⟨fuel,hf⟩:=h
 rcases open_slice ht hf with⟨hcs,hx⟩ | ⟨ad,len,cap,m,k,D,Pl,hcs,hb,hl,hm,hmm,hx,hall⟩
 ·simp [Value.cells] at hcs
  obtain⟨rfl,rfl,rfl⟩:=hcs
  exact⟨none,0,0,[],[],rfl,by simp,Has.nil,⟨rfl,fun i a ha=>by simp at ha⟩,by simp[wL],fun a ha=>by simp at ha⟩
 ·simp [Value.cells] at hcs
  obtain⟨rfl,rfl,rfl⟩:=hcs
  have hlm:n≤m:=by rw[hmm];split<;>omega
  have each:∀i,i<n→∃q:List Value × At2,(∀j u,q.1[j]?=some u→W.cell? ((ad.add (i*2)).add j)=some u)∧q.1.length=2∧(∃V cv,q.1=[.string (txt q.2.1),.slice V q.2.2.length cv]∧Has W W.heap.size 1 V q.2.2.length (strs q.2.2))∧wA q.2≤Rows.uptoBulk (D i)∧q.2.1.length≤Rows.uptoBulk (D i):=by
   intro i hi
   obtain⟨cs',h1,h2⟩:=hall i (by omega)
   rw[cE] at h1
   obtain⟨xs,m2,rfl,hDx,hl2,hxl,hf2⟩:=DataW.trod_struct hE h2
   rw[cE] at hl2
   match cs',hl2 with
   | [v0,v1],_=>
    have hx2:xs.length=2:=by simpa using hxl
    match xs,hx2 with
    | [y0,y1],_=>
     have g0:=hf2 0 f0 rfl
     have g1:=hf2 1 f1 rfl
     simp[o0,c0] at g0
     simp[o1,c1] at g1
     obtain⟨a,ha,hy0,_⟩:=DataW.trod_string s0 g0
     simp only[List.cons.injEq,and_true] at ha
     subst ha
     obtain⟨V,cv,L,hv1,_,hV,hbk⟩:=texts_bulk s1 ce5 se5 g1
     subst hv1
     have hbD:wA (a.data.toList,L)≤Rows.uptoBulk (D i)∧a.data.toList.length≤Rows.uptoBulk (D i):=by
      have e0:D i=.agg [y0.1,y1.1]:=by simpa using congrArg Prod.fst hDx
      have e1:y0.1=.lit (.string a.data.toList):=by simpa using congrArg Prod.fst hy0
      rw[e0,e1]
      simp only[Rows.uptoBulk,Rows.uptoBulkAll,wA]
      constructor<;>omega
     obtain⟨_,_,hcell⟩:=World.cells?_some h1
     refine⟨([.string a,.slice V L.length cv],(a.data.toList,L)),fun j u hu=>?_,rfl,⟨V,cv,by simp only[self_txt],hV⟩,hbD.1,hbD.2⟩
     have hj:j<2:=(List.getElem?_eq_some_iff.1 hu).1
     rw[hcell j hj]
     exact hu
  haveI:Inhabited At2:=⟨([],[])⟩
  obtain⟨q,hq⟩:=choose_lt each
  have hflat:=flat2 (fun i=>(q i).1) n (fun i hi=>(hq i hi).2.1)
  have hat:=flat2_at (fun i=>(q i).1) n (fun i hi=>(hq i hi).2.1)
  refine⟨some ad,n,c,(List.range n).flatMap fun i=>(q i).1,(List.range n).map fun i=>(q i).2,rfl,by omega,⟨hflat.1,?_⟩,⟨by rw[hflat.1];simp,fun i a ha=>?_⟩,?_,?_⟩
  ·rcases Nat.eq_zero_or_pos n with h0 | h0
   ·subst h0
    exact .inl rfl
   ·refine .inr ⟨ad,rfl,?_,fun j u hu=>?_⟩
    ·obtain ⟨h1,h2,_⟩:=hq 0 h0
     have:=World.block_lt_of_cell? W _ (h1 0 _ (List.getElem?_eq_getElem (by omega)))
     rwa [block_add,block_add] at this
    ·obtain ⟨h1,h2⟩:=hflat.2 j u hu
     have:=(hq (j/2) h1).1 (j % 2) u h2
     rw[add_add] at this
     rwa [show j/2*2+j % 2=j by omega] at this
  ·have hi:i<n:=by
    have:=(List.getElem?_eq_some_iff.1 ha).1
    simpa using this
   obtain rfl:(q i).2=a:=by simpa[List.getElem?_range hi] using ha
   obtain⟨_,_,⟨V,cv,h1,h2⟩,_⟩:=hq i hi
   obtain⟨e0,e1⟩:=hat i hi
   exact⟨V,cv,by rw[e0,h1];rfl,by rw[e1,h1];rfl,h2⟩
  ·rw [show d=_ from congrArg Prod.fst hx]
   have hbk:=bulk_list D (fun i=>wA (q i).2) (List.range n) (fun i hi=>(hq i (List.mem_range.1 hi)).2.2.2.1)
   simp only[Rows.uptoBulk,wL,List.map_map,Function.comp_def]
   omega
  ·intro a ha
   rw[show d=_ from congrArg Prod.fst hx]
   obtain⟨i,hi,rfl⟩:=List.mem_map.1 ha
   have h1:=(hq i (List.mem_range.1 hi)).2.2.2.2
   have h2:=mem_bulk D hi
   simp only[Rows.uptoBulk]
   omega
end Go.Proofs.YtaolhefllfnmiaaGreatDoor.Opens
