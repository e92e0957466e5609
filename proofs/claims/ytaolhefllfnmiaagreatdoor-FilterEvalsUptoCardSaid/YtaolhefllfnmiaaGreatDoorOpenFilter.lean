/- An argument that is a filter, opened: whatever reads as a value of the struct is a tree. By an AI agent. -/
import Derived.Test.YtaolhefllfnmiaaGreatDoorHX
import Derived.Test.YtaolhefllfnmiaaGreatDoorOpens
import Derived.Deep.SlicePairs
namespace Go.Proofs.YtaolhefllfnmiaaGreatDoor.Opens
open Go Go.ChangeShapes Go.WideShapes Go.ChangeAt Go.RowKit Go.Deep
set_option linter.unusedVariables false
theorem flat7 (f:Nat→List Value):∀(n:Nat),(∀i,i<n→(f i).length=7)→((List.range n).flatMap f).length=n*7∧∀j u,((List.range n).flatMap f)[j]?=some u→j/7<n∧(f (j/7))[j % 7]?=some u
 | 0,_=>⟨rfl,fun j u h=>by simp at h⟩
 | n+1,h=>by
  obtain⟨h1,h2⟩:=flat7 f n (fun i hi=>h i (by omega))
  have h7:=h n (by omega)
  rw[List.range_succ,List.flatMap_append]
  simp only[List.flatMap_cons,List.flatMap_nil,List.append_nil]
  refine⟨by rw[List.length_append,h1,h7];omega,fun j u hu=>?_⟩
  by_cases hj:j<n*7
  ·rw [List.getElem?_append_left (by rw[h1];exact hj)] at hu
   obtain⟨h3,h4⟩:=h2 j u hu
   exact⟨by omega,h4⟩
  ·rw [List.getElem?_append_right (by rw[h1];omega),h1] at hu
   have hl:=(List.getElem?_eq_some_iff.1 hu).1
   have e1:j/7=n:=by omega
   have e2:j % 7=j-n*7:=by omega
   rw[e1,e2]
   exact⟨by omega,hu⟩
theorem flat7_in {w:World} {B:Nat} (f:Nat→List Value) (t:Nat→FT):∀(n:Nat),(∀i,i<n→FIn w B (t i) (f i))→FsIn w B ((List.range n).map t) ((List.range n).flatMap f)
 | 0,_=>by simp[FsIn]
 | n+1,h=>by
  have h1:=flat7_in f t n (fun i hi=>h i (by omega))
  rw[List.range_succ,List.flatMap_append,List.map_append]
  simp only[List.flatMap_cons,List.flatMap_nil,List.append_nil,List.map_cons,List.map_nil]
  exact h1.snoc (h n (by omega))
theorem self_txt (s:ByteArray):txt s.data.toList=s:=ByteArray.ext (Array.ext' (by simp[txt]))
theorem texts_cells {H:Type} {enc:TypeId × Value→H} {P:Program} {W:World} {base fuel:Nat} {sp:Nat→Bool} {held:Bool} {t e:TypeId} {v:Value} {x:DataW H × List MemPlace}
  (ht:P.underlying t=some (.slice e)) (ce:P.cellsOf e=1) (he:P.underlying e=some .string) (h:DataW.trod enc P W base sp held fuel t [v]=some x):
  ∃A c L,v=.slice A L.length c∧L.length≤maxLen∧Has W W.heap.size 1 A L.length (strs L):=by
 rcases open_slice1 ht ce h with⟨hcs,hx⟩ | ⟨a,len,cap,m,k,V,D,Pl,hcs,hb,hl,hm,hmm,hx,hall⟩
 ·simp at hcs
  subst hcs
  exact⟨none,0,[],rfl,by simp,Has.nil⟩
 ·simp at hcs
  subst hcs
  have hlm:len≤m:=by rw[hmm];split<;>omega
  have each:∀i,i<len→∃q:List UInt8,W.cell? (a.add i)=some (.string (txt q)):=by
   intro i hi
   obtain⟨h0,h1⟩:=hall i (by omega)
   obtain⟨s,hs,_,_⟩:=DataW.trod_string he h1
   have:V i=.string s:=by simpa using hs
   exact⟨s.data.toList,by rw[self_txt,h0,this]⟩
  obtain⟨q,hq⟩:=choose_lt each
  refine⟨some a,cap,(List.range len).map q,by simp,by simp;omega,?_⟩
  rw[List.length_map,List.length_range]
  refine⟨by simp[strs],?_⟩
  rcases Nat.eq_zero_or_pos len with h0 | h0
  ·subst h0
   exact .inl rfl
  ·refine .inr ⟨a,rfl,?_,fun j u hu=>?_⟩
   ·have:=World.block_lt_of_cell? W _ (hq 0 h0)
    rwa [block_add] at this
   ·have hj:j<len:=by
     have:=(List.getElem?_eq_some_iff.1 hu).1
     simpa[strs] using this
    rw[hq j hj]
    simpa[strs,List.getElem?_range hj] using hu
theorem open_filter_cells {H:Type} {enc:TypeId × Value→H} {P:Program} {W:World} {base:Nat} {sp:Nat→Bool} {held:Bool} {T e5:TypeId} {f0 f1 f2 f3 f4 f5 f6:Field}
  (hT:P.underlying T=some (.struct #[f0,f1,f2,f3,f4,f5,f6])) (cT:P.cellsOf T=7) (o0:f0.offset=0) (o1:f1.offset=1) (o2:f2.offset=2) (o3:f3.offset=3) (o4:f4.offset=4) (o5:f5.offset=5) (o6:f6.offset=6)
  (c0:P.cellsOf f0.type=1) (c1:P.cellsOf f1.type=1) (c2:P.cellsOf f2.type=1) (c3:P.cellsOf f3.type=1) (c4:P.cellsOf f4.type=1) (c5:P.cellsOf f5.type=1) (c6:P.cellsOf f6.type=1)
  (s0:P.underlying f0.type=some (.int .i64)) (s1:P.underlying f1.type=some .string) (s2:P.underlying f2.type=some .string) (s3:P.underlying f3.type=some .string) (s4:P.underlying f4.type=some .string)
  (s5:P.underlying f5.type=some (.slice e5)) (ce5:P.cellsOf e5=1) (se5:P.underlying e5=some .string) (s6:P.underlying f6.type=some (.slice T)):
  ∀(fuel:Nat) (cs:List Value) (x:DataW H × List MemPlace),DataW.trod enc P W base sp held fuel T cs=some x→∃t:FT,FIn W W.heap.size t cs:=by
 intro fuel
 induction fuel using Nat.strongRecOn with
 | _ fuel ih=>
  intro cs x h
  obtain⟨xs,m,rfl,rfl,hl,hxl,hf⟩:=DataW.trod_struct hT h
  rw[cT] at hl
  obtain⟨v0,v1,v2,v3,v4,v5,v6,rfl⟩:=seven hl
  have hx7:xs.length=7:=by simpa using hxl
  match xs,hx7 with
  | [y0,y1,y2,y3,y4,y5,y6],_=>
   have g0:=hf 0 f0 rfl
   have g1:=hf 1 f1 rfl
   have g2:=hf 2 f2 rfl
   have g3:=hf 3 f3 rfl
   have g4:=hf 4 f4 rfl
   have g5:=hf 5 f5 rfl
   have g6:=hf 6 f6 rfl
   simp[o0,c0] at g0
   simp[o1,c1] at g1
   simp[o2,c2] at g2
   simp[o3,c3] at g3
   simp[o4,c4] at g4
   simp[o5,c5] at g5
   simp[o6,c6] at g6
   obtain⟨k,hk,_,_⟩:=DataW.trod_int s0 g0
   obtain⟨a,ha,_,_⟩:=DataW.trod_string s1 g1
   obtain⟨v,hv,_,_⟩:=DataW.trod_string s2 g2
   obtain⟨f,hff,_,_⟩:=DataW.trod_string s3 g3
   obtain⟨l,hll,_,_⟩:=DataW.trod_string s4 g4
   simp only[List.cons.injEq,and_true] at hk ha hv hff hll
   subst hk ha hv hff hll
   obtain⟨A,c,any,hv5,hm5,hA⟩:=texts_cells s5 ce5 se5 g5
   subst hv5
   have parts:∃D d ps xs,v6=.slice D ps.length d∧ps.length≤maxLen∧Has W W.heap.size 7 D ps.length xs∧FsIn W W.heap.size ps xs:=by
    rcases DataW.trod_slice s6 g6 with⟨hcs,_⟩ | ⟨ad,len,cap,elems,rest,n,hn,hcs,_,hb,hlc,hm,hlen,hel,_,_⟩
    ·simp at hcs
     subst hcs
     exact⟨none,0,[],[],rfl,by simp,Has.nil,by simp[FsIn]⟩
    ·simp at hcs
     subst hcs
     have each:∀i,i<len→∃q:List Value × FT,(∀j u,q.1[j]?=some u→W.cell? ((ad.add (i*7)).add j)=some u)∧q.1.length=7∧FIn W W.heap.size q.2 q.1:=by
      intro i hi
      have hi2:=hel i hi
      rw[cT,List.getElem?_eq_getElem (by omega)] at hi2
      obtain⟨cs',h1,h2⟩:=Option.bind_eq_some_iff.1 hi2
      obtain⟨t,ht⟩:=ih n (by omega) cs' _ h2
      have hl7:=ht.len
      obtain⟨_,_,hcell⟩:=World.cells?_some h1
      refine⟨(cs',t),fun j u hu=>?_,hl7,ht⟩
      have hj:j<cs'.length:=(List.getElem?_eq_some_iff.1 hu).1
      rw[hcell j (by omega)]
      exact hu
     haveI:Inhabited FT:=⟨.mk 0 [] [] [] [] [] []⟩
     obtain⟨q,hq⟩:=choose_lt each
     have hflat:=flat7 (fun i=>(q i).1) len (fun i hi=>(hq i hi).2.1)
     refine⟨some ad,cap,(List.range len).map fun i=>(q i).2,(List.range len).flatMap fun i=>(q i).1,by simp,by simp;omega,?_,flat7_in _ _ _ (fun i hi=>(hq i hi).2.2)⟩
     rw[List.length_map,List.length_range]
     refine⟨hflat.1,?_⟩
     rcases Nat.eq_zero_or_pos len with h0 | h0
     ·subst h0
      exact .inl rfl
     ·refine .inr ⟨ad,rfl,?_,fun j u hu=>?_⟩
      ·obtain ⟨h1,h2,_⟩:=hq 0 h0
       have:=World.block_lt_of_cell? W _ (h1 0 _ (List.getElem?_eq_getElem (by omega)))
       rwa [block_add,block_add] at this
      ·obtain ⟨h1,h2⟩:=hflat.2 j u hu
       have:=(hq (j/7) h1).1 (j % 7) u h2
       rw[add_add] at this
       rwa [show j/7*7+j % 7=j by omega] at this
   obtain⟨D,d,ps,zs,hv6,hmp,hD,hP⟩:=parts
   subst hv6
   refine⟨.mk k a.data.toList v.data.toList f.data.toList l.data.toList any ps,?_⟩
   simp only[FIn,self_txt]
   exact⟨A,c,D,d,zs,rfl,⟨hm5,hmp⟩,hA,hD,hP⟩
theorem open_filter {H:Type} {enc:TypeId × Value→H} {P:Program} {W:World} {base b0:Nat} {r:Reach} {sp:Nat→Bool} {held:Bool} {T e5:TypeId} {v:Value} {d:DataW H} {p:List MemPlace} {f0 f1 f2 f3 f4 f5 f6:Field}
  (hT:P.underlying T=some (.struct #[f0,f1,f2,f3,f4,f5,f6])) (cT:P.cellsOf T=7) (o0:f0.offset=0) (o1:f1.offset=1) (o2:f2.offset=2) (o3:f3.offset=3) (o4:f4.offset=4) (o5:f5.offset=5) (o6:f6.offset=6)
  (c0:P.cellsOf f0.type=1) (c1:P.cellsOf f1.type=1) (c2:P.cellsOf f2.type=1) (c3:P.cellsOf f3.type=1) (c4:P.cellsOf f4.type=1) (c5:P.cellsOf f5.type=1) (c6:P.cellsOf f6.type=1)
  (s0:P.underlying f0.type=some (.int .i64)) (s1:P.underlying f1.type=some .string) (s2:P.underlying f2.type=some .string) (s3:P.underlying f3.type=some .string) (s4:P.underlying f4.type=some .string)
  (s5:P.underlying f5.type=some (.slice e5)) (ce5:P.cellsOf e5=1) (se5:P.underlying e5=some .string) (s6:P.underlying f6.type=some (.slice T))
  (hval:Value.okWide P W r b0 T v) (h:DataW.Trod enc P W base sp held T v d p):∃t u0 u1 u2 u3 u4 u5 u6,v=.agg #[u0,u1,u2,u3,u4,u5,u6]∧FIn W W.heap.size t [u0,u1,u2,u3,u4,u5,u6]:=by
 simp only[Value.okWide,hT] at hval
 obtain⟨cs,rfl,_⟩:=hval
 obtain⟨fuel,hf⟩:=h
 obtain⟨t,ht⟩:=open_filter_cells hT cT o0 o1 o2 o3 o4 o5 o6 c0 c1 c2 c3 c4 c5 c6 s0 s1 s2 s3 s4 s5 ce5 se5 s6 fuel _ _ hf
 obtain⟨u0,u1,u2,u3,u4,u5,u6,he⟩:=seven ht.len
 rw[he] at ht
 refine⟨t,u0,u1,u2,u3,u4,u5,u6,?_,ht⟩
 obtain⟨l⟩:=cs
 simp[Value.cells] at he
 rw[he]
end Go.Proofs.YtaolhefllfnmiaaGreatDoor.Opens
