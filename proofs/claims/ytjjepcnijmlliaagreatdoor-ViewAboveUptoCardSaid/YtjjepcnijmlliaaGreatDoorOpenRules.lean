/- Arguments that are rules, or a question, opened; how long their texts may be. By an AI agent. -/
import Derived.Test.YtjjepcnijmlliaaGreatDoorVX
import Derived.Test.YtjjepcnijmlliaaGreatDoorOpens
import Derived.Deep.SlicePairs
import Derived.SizedLaws
namespace Go.Proofs.YtjjepcnijmlliaaGreatDoor.Opens
open Go Go.ChangeShapes Go.WideShapes Go.ChangeAt Go.RowKit Go.Deep
set_option linter.unusedVariables false
theorem self_txt' (s:ByteArray):txt s.data.toList=s:=ByteArray.ext (Array.ext' (by simp[txt]))
theorem weights_all_mem {H:Type} {P:Program} {e:TypeId}:∀{l:List (DataW H)} {d:DataW H} {n:Nat},d∈l→n∈d.weights P e→n∈DataW.weightsAll P e l
 | x::l,d,n,hd,hn=>by
  simp only[DataW.weightsAll]
  rcases List.mem_cons.1 hd with rfl | h
  ·exact List.mem_append_left _ hn
  ·exact List.mem_append_right _ (weights_all_mem h hn)
def FitsT (l:List UInt8):Prop:=l.length≤reachBytes
def FitsR (r:Ru):Prop:=FitsT r.who∧FitsT r.tgt∧FitsT r.att
theorem flat5 (f:Nat→Ru):∀(n:Nat),rusC ((List.range n).map f)=(List.range n).flatMap fun i=>ruC (f i)
 | 0=>rfl
 | n+1=>by
  have:=flat5 f n
  rw[List.range_succ,List.map_append,rusC_app,this,List.flatMap_append]
  simp[rusC]
theorem open_rules {H:Type} {enc:TypeId × Value→H} {P:Program} {W:World} {r:Reach} {base b0:Nat} {sp:Nat→Bool} {held:Bool} {t E:TypeId} {v:Value} {d:DataW H} {p:List MemPlace} {f0 f1 f2 f3 f4:Field}
  (ht:P.underlying t=some (.slice E)) (hE:P.underlying E=some (.struct #[f0,f1,f2,f3,f4])) (cE:P.cellsOf E=5) (o0:f0.offset=0) (o1:f1.offset=1) (o2:f2.offset=2) (o3:f3.offset=3) (o4:f4.offset=4)
  (c0:P.cellsOf f0.type=1) (c1:P.cellsOf f1.type=1) (c2:P.cellsOf f2.type=1) (c3:P.cellsOf f3.type=1) (c4:P.cellsOf f4.type=1)
  (s0:P.underlying f0.type=some .string) (s1:P.underlying f1.type=some .string) (s2:P.underlying f2.type=some .string) (s3:P.underlying f3.type=some (.int .i64)) (s4:P.underlying f4.type=some .bool)
  (hv:Value.okWide P W r b0 t v) (h:DataW.Trod enc P W base sp held t v d p) (hw:∀n∈d.weights P t,n≤reachBytes):
  ∃A c L,v=.slice A L.length c∧L.length≤maxLen∧Has W W.heap.size 5 A L.length (rusC L)∧∀r∈L,FitsR r:=by
 obtain⟨A,n,c,rfl⟩:=okWide_slice ht hv
 obtain⟨fuel,hf⟩:=h
 rcases open_slice ht hf with⟨hcs,hx⟩ | ⟨ad,len,cap,m,k,D,Pl,hcs,hb,hl,hm,hmm,hx,hall⟩
 ·simp [Value.cells] at hcs
  obtain⟨rfl,rfl,rfl⟩:=hcs
  exact⟨none,0,[],rfl,by simp,Has.nil,fun r hr=>by cases hr⟩
 ·simp [Value.cells] at hcs
  obtain⟨rfl,rfl,rfl⟩:=hcs
  have hlm:n≤m:=by rw[hmm];split<;>omega
  have hd:d=.slice ((List.range n).map D) ((List.range (m-n)).map fun j=>D (n+j)):=congrArg Prod.fst hx
  have hwD:∀i,i<n→∀q∈(D i).weights P E,q≤reachBytes:=by
   intro i hi q hq
   refine hw q ?_
   rw[hd]
   simp only[DataW.weights,ht]
   refine List.mem_cons_of_mem _ (List.mem_append_left _ (weights_all_mem (List.mem_map.2 ⟨i,List.mem_range.2 hi,rfl⟩) hq))
  have each:∀i,i<n→∃q:Ru,(∀j u,(ruC q)[j]?=some u→W.cell? ((ad.add (i*5)).add j)=some u)∧FitsR q:=by
   intro i hi
   obtain⟨cs',h1,h2⟩:=hall i (by omega)
   rw[cE] at h1
   obtain⟨xs,m2,_,hDx,hl2,hxl,hf2⟩:=DataW.trod_struct hE h2
   rw[cE] at hl2
   match cs',hl2 with
   | [v0,v1,v2,v3,v4],_=>
    have hx2:xs.length=5:=by simpa using hxl
    match xs,hx2 with
    | [y0,y1,y2,y3,y4],_=>
     have g0:=hf2 0 f0 rfl
     have g1:=hf2 1 f1 rfl
     have g2:=hf2 2 f2 rfl
     have g3:=hf2 3 f3 rfl
     have g4:=hf2 4 f4 rfl
     simp[o0,c0] at g0
     simp[o1,c1] at g1
     simp[o2,c2] at g2
     simp[o3,c3] at g3
     simp[o4,c4] at g4
     obtain⟨a,ha,ea,_⟩:=DataW.trod_string s0 g0
     obtain⟨b,hb',eb,_⟩:=DataW.trod_string s1 g1
     obtain⟨e,he,ee,_⟩:=DataW.trod_string s2 g2
     obtain⟨x,hx',_,_⟩:=DataW.trod_int s3 g3
     obtain⟨al,hal,_⟩:=DataW.trod_bool s4 g4
     simp only[List.cons.injEq,and_true] at ha hb' he hx' hal
     subst ha hb' he hx' hal
     have eD:D i=.agg [y0.1,y1.1,y2.1,y3.1,y4.1]:=by simpa using congrArg Prod.fst hDx
     have ea1:y0.1=.lit (.string a.data.toList):=by simpa using congrArg Prod.fst ea
     have eb1:y1.1=.lit (.string b.data.toList):=by simpa using congrArg Prod.fst eb
     have ee1:y2.1=.lit (.string e.data.toList):=by simpa using congrArg Prod.fst ee
     have hwi:=hwD i hi
     rw[eD,ea1,eb1,ee1] at hwi
     simp only[DataW.weights,hE,List.map_cons,List.map_nil,DataW.weightsEach] at hwi
     obtain⟨_,_,hcell⟩:=World.cells?_some h1
     refine⟨⟨a.data.toList,b.data.toList,e.data.toList,x,al⟩,fun j u hu=>?_,hwi _ (by simp),hwi _ (by simp),hwi _ (by simp)⟩
     have hj:j<5:=(List.getElem?_eq_some_iff.1 hu).1
     rw[hcell j hj]
     simpa only[ruC,self_txt'] using hu
  haveI:Inhabited Ru:=⟨⟨[],[],[],0,false⟩⟩
  obtain⟨q,hq⟩:=choose_lt each
  refine⟨some ad,c,(List.range n).map q,by simp,by simp;omega,?_,fun r hr=>?_⟩
  ·rw [List.length_map,List.length_range]
   refine⟨by rw[rusC_len];simp,?_⟩
   rcases Nat.eq_zero_or_pos n with h0 | h0
   ·subst h0
    exact .inl rfl
   ·refine .inr ⟨ad,rfl,?_,fun j u hu=>?_⟩
    ·have:=World.block_lt_of_cell? W _ ((hq 0 h0).1 0 _ rfl)
     rwa [block_add,block_add] at this
    ·have hjl:j<n*5:=by
      have:=(List.getElem?_eq_some_iff.1 hu).1
      rw[rusC_len] at this
      simpa using this
     have hi:j/5<n:=by omega
     have hr:((List.range n).map q)[j/5]?=some (q (j/5)):=by simp[List.getElem?_range hi]
     have hat:=rusC_at _ _ _ hr (j % 5) (by omega)
     rw[show j/5*5+j % 5=j by omega,hu] at hat
     have:=(hq (j/5) hi).1 (j % 5) u hat.symm
     rw[add_add] at this
     rwa [show j/5*5+j % 5=j by omega] at this
  ·obtain ⟨i,hi,rfl⟩:=List.mem_map.1 hr
   exact (hq i (List.mem_range.1 hi)).2
theorem open_asked {H:Type} {enc:TypeId × Value→H} {P:Program} {W:World} {base b0:Nat} {r:Reach} {sp:Nat→Bool} {held:Bool} {T:TypeId} {v:Value} {d:DataW H} {p:List MemPlace} {f0 f1 f2 f3:Field}
  (hT:P.underlying T=some (.struct #[f0,f1,f2,f3])) (cT:P.cellsOf T=4) (o0:f0.offset=0) (o1:f1.offset=1) (o2:f2.offset=2) (o3:f3.offset=3)
  (c0:P.cellsOf f0.type=1) (c1:P.cellsOf f1.type=1) (c2:P.cellsOf f2.type=1) (c3:P.cellsOf f3.type=1)
  (s0:P.underlying f0.type=some .string) (s1:P.underlying f1.type=some .string) (s2:P.underlying f2.type=some .string) (s3:P.underlying f3.type=some (.int .i64))
  (hval:Value.okWide P W r b0 T v) (h:DataW.Trod enc P W base sp held T v d p) (hw:∀n∈d.weights P T,n≤reachBytes):
  ∃s n a x,v=.agg #[.string (txt s),.string (txt n),.string (txt a),.int .i64 x]∧FitsT s∧FitsT n∧FitsT a:=by
 simp only[Value.okWide,hT] at hval
 obtain⟨cs,rfl,_⟩:=hval
 obtain⟨fuel,hf⟩:=h
 obtain⟨l⟩:=cs
 obtain⟨xs,m,_,hDx,hl,hxl,hf2⟩:=DataW.trod_struct hT hf
 simp only[Value.cells] at hl hf2
 rw[cT] at hl
 match l,hl with
 | [v0,v1,v2,v3],_=>
  have hx2:xs.length=4:=by simpa using hxl
  match xs,hx2 with
  | [y0,y1,y2,y3],_=>
   have g0:=hf2 0 f0 rfl
   have g1:=hf2 1 f1 rfl
   have g2:=hf2 2 f2 rfl
   have g3:=hf2 3 f3 rfl
   simp[o0,c0] at g0
   simp[o1,c1] at g1
   simp[o2,c2] at g2
   simp[o3,c3] at g3
   obtain⟨a,ha,ea,_⟩:=DataW.trod_string s0 g0
   obtain⟨b,hb',eb,_⟩:=DataW.trod_string s1 g1
   obtain⟨e,he,ee,_⟩:=DataW.trod_string s2 g2
   obtain⟨x,hx',_,_⟩:=DataW.trod_int s3 g3
   simp only[List.cons.injEq,and_true] at ha hb' he hx'
   subst ha hb' he hx'
   have eD:d=.agg [y0.1,y1.1,y2.1,y3.1]:=by simpa using congrArg Prod.fst hDx
   have ea1:y0.1=.lit (.string a.data.toList):=by simpa using congrArg Prod.fst ea
   have eb1:y1.1=.lit (.string b.data.toList):=by simpa using congrArg Prod.fst eb
   have ee1:y2.1=.lit (.string e.data.toList):=by simpa using congrArg Prod.fst ee
   rw[eD,ea1,eb1,ee1] at hw
   simp only[DataW.weights,hT,List.map_cons,List.map_nil,DataW.weightsEach] at hw
   exact⟨a.data.toList,b.data.toList,e.data.toList,x,by simp only[self_txt'],hw _ (by simp),hw _ (by simp),hw _ (by simp)⟩
end Go.Proofs.YtjjepcnijmlliaaGreatDoor.Opens
