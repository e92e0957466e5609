/- An argument that is a message, opened: its cells, its lists, and what their bulk bounds. By an AI agent. -/
import Derived.Test.YtcpjmgfloimfhaaGreatM13
import Derived.Test.YtcpjmgfloimfhaaGreatM05
set_option linter.unusedSimpArgs false
set_option linter.unusedVariables false
set_option maxRecDepth 100000
set_option maxHeartbeats 8000000
namespace Go.Proofs.YtcpjmgfloimfhaaGreat
open Go.RowKit
def elA0:Elem Atr where
 size:=2
 rep:=fun w P x cs=>∃A c,cs=[.string (txt x.1),.slice A x.2.length c]/\x.2.length<=maxLen/\HasP w P 1 A x.2.length (strs x.2)
 len:=fun h=>by obtain⟨A,c,rfl,_⟩:=h;rfl
 one:=fun h u hu=>by obtain⟨A,c,rfl,_⟩:=h;simp only[List.mem_cons,List.not_mem_nil,or_false] at hu;rcases hu with rfl | rfl<;>rfl
 move:=fun hc hP h=>by obtain⟨A,c,e,hl,h⟩:=h;exact⟨A,c,e,hl,h.move hc hP⟩
def elH0:Elem (Int × Atr) where
 size:=3
 rep:=fun w P x cs=>∃A c,cs=[.int .i64 x.1,.string (txt x.2.1),.slice A x.2.2.length c]/\x.2.2.length<=maxLen/\HasP w P 1 A x.2.2.length (strs x.2.2)/\(-9223372036854775808<=x.1/\x.1<=9223372036854775807)
 len:=fun h=>by obtain⟨A,c,rfl,_⟩:=h;rfl
 one:=fun h u hu=>by obtain⟨A,c,rfl,_⟩:=h;simp only[List.mem_cons,List.not_mem_nil,or_false] at hu;rcases hu with rfl | rfl | rfl<;>rfl
 move:=fun hc hP h=>by obtain⟨A,c,e,hl,h,hi⟩:=h;exact⟨A,c,e,hl,h.move hc hP,hi⟩
theorem rowH0_ints {w:World} {P:Nat->Prop}:∀{L:List (Int × Atr)} {xs:List Value},rowIn elH0 w P L xs->∀x∈L,-9223372036854775808<=x.1/\x.1<=9223372036854775807
 | p::r,xs,h,x,hx=>by
  rcases List.mem_cons.1 hx with rfl | hx
  ·obtain ⟨A,c,_,_,_,hi⟩:=h.1;exact hi
  ·exact rowH0_ints h.2 x hx
def repW {α:Type} (E:Elem α):World->(Nat->Prop)->List α->Value->Prop:=fun w P L v=>∃A c xs,v=.slice A L.length c/\L.length<=maxLen/\HasP w P E.size A L.length xs/\rowIn E w P L xs
theorem repW.low {α:Type} {E:Elem α} {w:World} {P:Nat->Prop} {L:List α} {v:Value} (h:repW E w P L v) (hl:L.length<=20000):repL E w P L v:=by
 obtain⟨A,c,xs,e,_,h1,h2⟩:=h;exact⟨A,c,xs,e,hl,h1,h2⟩
theorem rowIn.turn {α:Type} {E F:Elem α} {w:World} {P:Nat->Prop} (hs:E.size=F.size):∀{L:List α} {xs:List Value},(∀x∈L,∀cs,E.rep w P x cs->F.rep w P x cs)->rowIn E w P L xs->rowIn F w P L xs
 | [],xs,_,h=>h
 | p::r,xs,hx,h=>by
  refine⟨?_,?_⟩
  ·rw [<-hs];exact hx p (List.mem_cons_self ..) _ h.1
  ·rw [<-hs];exact rowIn.turn hs (fun x hm=>hx x (List.mem_cons_of_mem _ hm)) h.2
theorem repW.turn {α:Type} {E F:Elem α} {w:World} {P:Nat->Prop} {L:List α} {v:Value} (h:repW E w P L v) (hs:E.size=F.size) (hx:∀x∈L,∀cs,E.rep w P x cs->F.rep w P x cs):repW F w P L v:=by
 obtain⟨A,c,xs,e,hl,h1,h2⟩:=h;exact⟨A,c,xs,e,hl,by rw[<-hs];exact h1,h2.turn hs hx⟩
structure MWide (W:World) (m:MT) (f0 f1 f2 f3 f4 f5 f6 va vl vc vr vk:Value):Prop where
 filt:FIn W W.heap.size m.filt [f0,f1,f2,f3,f4,f5,f6]
 attrs:repW elT W (inB W) m.attrs va
 lst:repW elA0 W (inB W) m.lst vl
 chs:repW elH0 W (inB W) m.chs vc
 refs:repW elT W (inB W) m.refs vr
 ctls:repW elC W (inB W) m.ctls vk
structure MT.few (m:MT):Prop where
 attrs:m.attrs.length<=5000
 lst:m.lst.length<=5000
 chs:m.chs.length<=5000
 refs:m.refs.length<=5000
 ctls:m.ctls.length<=5000
 lsts:∀a∈m.lst,a.2.length<=5000
 chss:∀a∈m.chs,a.2.2.length<=5000
mutual
theorem FIn.finP {w:World} {B:Nat}:∀{t:FT} {cs:List Value},FIn w B t cs->FInP w (fun b=>b<B) t cs
 | .mk k a v f l any ps,cs,h=>by
  simp only[FIn] at h
  simp only[FInP]
  obtain⟨A,c,D,d,xs,h1,hm,h2,h3,h4⟩:=h
  exact⟨A,c,D,d,xs,h1,hm,h2.hasP,h3.hasP,FsIn.finP h4⟩
theorem FsIn.finP {w:World} {B:Nat}:∀{ps:List FT} {xs:List Value},FsIn w B ps xs->FsInP w (fun b=>b<B) ps xs
 | [],xs,h=>by simp only[FsIn] at h;simp only[FsInP];exact h
 | p::r,xs,h=>by
  simp only[FsIn] at h
  simp only[FsInP]
  exact⟨FIn.finP h.1,FsIn.finP h.2⟩
end
theorem MWide.reps {W:World} {m:MT} {f0 f1 f2 f3 f4 f5 f6 va vl vc vr vk:Value} (h:MWide W m f0 f1 f2 f3 f4 f5 f6 va vl vc vr vk) (hf:m.few):MReps W (inB W) m f0 f1 f2 f3 f4 f5 f6 va vl vc vr vk:=
 ⟨h.filt.finP,h.attrs.low (by have:=hf.attrs;omega),(h.lst.turn (F:=elA) rfl fun x hx cs hr=>by
   obtain⟨A,c,e,_,h3⟩:=hr
   exact⟨A,c,e,by have:=hf.lsts x hx;omega,h3⟩).low (by have:=hf.lst;omega),
  (h.chs.turn (F:=elH) rfl fun x hx cs hr=>by
   obtain⟨A,c,e,_,h3,_⟩:=hr
   exact⟨A,c,e,by have:=hf.chss x hx;omega,h3⟩).low (by have:=hf.chs;omega),h.refs.low (by have:=hf.refs;omega),h.ctls.low (by have:=hf.ctls;omega)⟩
def tw (s:List UInt8):Nat:=s.length+1
def tsw (L:List (List UInt8)):Nat:=(L.map tw).sum+1
def aw (a:Atr):Nat:=tw a.1+tsw a.2+1
def hw (c:Int × Atr):Nat:=aw c.2+2
def cw (c:Ct):Nat:=tw c.oid+tw c.value+3
def mw (m:MT):Nat:=tw m.name+tw m.pw+tw m.nrdn+tw m.sup+tw m.attr+tw m.value+tw m.matched+tw m.text+tsw m.attrs+((m.lst.map aw).sum+1)+((m.chs.map hw).sum+1)+tsw m.refs+((m.ctls.map cw).sum+1)
namespace Opens
open Go Go.ChangeShapes Go.WideShapes Go.ChangeAt Go.RowKit Go.Deep
theorem flatS {s:Nat} (hs:0<s) (f:Nat->List Value):∀(n:Nat),(∀i,i<n->(f i).length=s)->((List.range n).flatMap f).length=n*s/\∀j u,((List.range n).flatMap f)[j]?=some u->j/s<n/\(f (j/s))[j % s]?=some u
 | 0,_=>⟨by simp,fun j u h=>by simp at h⟩
 | n+1,h=>by
  obtain⟨h1,h2⟩:=flatS hs f n (fun i hi=>h i (by omega))
  have h7:=h n (by omega)
  rw[List.range_succ,List.flatMap_append]
  simp only[List.flatMap_cons,List.flatMap_nil,List.append_nil]
  refine⟨by rw[List.length_append,h1,h7,Nat.add_mul,Nat.one_mul],fun j u hu=>?_⟩
  by_cases hj:j<n*s
  ·rw [List.getElem?_append_left (by rw[h1];exact hj)] at hu
   obtain⟨h3,h4⟩:=h2 j u hu
   exact⟨by omega,h4⟩
  ·rw [List.getElem?_append_right (by rw[h1];omega),h1] at hu
   have hl:=(List.getElem?_eq_some_iff.1 hu).1
   have e0:j=s*n+(j-n*s):=by rw[Nat.mul_comm s n];omega
   have hlt:j-n*s<s:=by omega
   have e1:j/s=n:=by
    rw[e0,Nat.mul_add_div hs,Nat.div_eq_of_lt hlt];rfl
   have e2:j % s=j-n*s:=by
    rw[e0,Nat.mul_add_mod,Nat.mod_eq_of_lt hlt,<-e0]
   rw[e1,e2]
   exact⟨by omega,hu⟩
theorem flatS_in {α:Type} {E:Elem α} {w:World} {P:Nat->Prop} (f:Nat->List Value) (t:Nat->α):∀(n:Nat),(∀i,i<n->E.rep w P (t i) (f i))->rowIn E w P ((List.range n).map t) ((List.range n).flatMap f)
 | 0,_=>rfl
 | n+1,h=>by
  have h1:=flatS_in f t n (fun i hi=>h i (by omega))
  rw[List.range_succ,List.flatMap_append,List.map_append]
  simp only[List.flatMap_cons,List.flatMap_nil,List.append_nil,List.map_cons,List.map_nil]
  exact h1.snoc (h n (by omega))
theorem bulk_sum {H:Type} (D:Nat->DataW H) (g:Nat->Nat):∀l:List Nat,(∀r∈l,g r<=Rows.uptoBulk (D r))->(l.map g).sum<=Rows.uptoBulkAll (l.map D)
 | [],_=>by simp[Rows.uptoBulkAll]
 | r::l,h=>by
  have h1:=h r (by simp)
  have h2:=bulk_sum D g l (fun s hs=>h s (by simp[hs]))
  simp only[List.map_cons,List.sum_cons,Rows.uptoBulkAll]
  omega
theorem open_list {H:Type} {enc:TypeId × Value->H} {P:Program} {W:World} {base:Nat} {sp:Nat->Bool} {held:Bool} {α:Type} [Inhabited α] (E:Elem α) {t e:TypeId} (wt:α->Nat)
  (ht:P.underlying t=some (.slice e)) (ce:P.cellsOf e=E.size) (hs:0<E.size)
  (elem:∀(fuel:Nat) (cs:List Value) (x:DataW H × List MemPlace),DataW.trod enc P W base sp held fuel e cs=some x->∃y,E.rep W (inB W) y cs/\wt y<=Rows.uptoBulk x.1)
  {fuel:Nat} {v:Value} {x:DataW H × List MemPlace} (h:DataW.trod enc P W base sp held fuel t [v]=some x):
  ∃L:List α,repW E W (inB W) L v/\(L.map wt).sum+1<=Rows.uptoBulk x.1:=by
 rcases open_slice ht h with⟨hcs,hx⟩ | ⟨ad,len,cap,m,k,D,Pl,hcs,hb,hl,hm,hmm,hx,hall⟩
 ·simp at hcs
  subst hcs
  rw[hx]
  exact⟨[],⟨none,0,[],rfl,by simp,⟨by simp,.inl rfl⟩,rfl⟩,by simp[Rows.uptoBulk]⟩
 ·simp at hcs
  subst hcs
  have hlm:len<=m:=by rw[hmm];split<;>omega
  have each:∀i,i<len->∃q:List Value × α,(∀j u,q.1[j]?=some u->W.cell? ((ad.add (i*E.size)).add j)=some u)/\q.1.length=E.size/\E.rep W (inB W) q.2 q.1/\wt q.2<=Rows.uptoBulk (D i):=by
   intro i hi
   obtain⟨cs',h1,h2⟩:=hall i (by omega)
   rw[ce] at h1
   obtain⟨y,hy,hw⟩:=elem _ _ _ h2
   have hl7:=E.len hy
   obtain⟨_,_,hcell⟩:=World.cells?_some h1
   refine⟨(cs',y),fun j u hu=>?_,hl7,hy,hw⟩
   have hj:j<cs'.length:=(List.getElem?_eq_some_iff.1 hu).1
   rw[hcell j (by omega)]
   exact hu
  obtain⟨q,hq⟩:=choose_lt each
  have hflat:=flatS hs (fun i=>(q i).1) len (fun i hi=>(hq i hi).2.1)
  refine⟨(List.range len).map fun i=>(q i).2,⟨some ad,cap,(List.range len).flatMap fun i=>(q i).1,by simp,by simp;omega,?_,flatS_in _ _ _ (fun i hi=>(hq i hi).2.2.1)⟩,?_⟩
  ·rw [List.length_map,List.length_range]
   refine⟨hflat.1,?_⟩
   rcases Nat.eq_zero_or_pos len with h0 | h0
   ·subst h0
    exact .inl rfl
   ·refine .inr ⟨ad,rfl,?_,fun j u hu=>?_⟩
    ·obtain ⟨h1,h2,_⟩:=hq 0 h0
     have:=World.block_lt_of_cell? W _ (h1 0 _ (List.getElem?_eq_getElem (by omega)))
     rwa [zBl,zBl] at this
    ·obtain ⟨h1,h2⟩:=hflat.2 j u hu
     have:=(hq (j/E.size) h1).1 (j % E.size) u h2
     rw[add_add] at this
     rwa [show j/E.size*E.size+j % E.size=j by rw[Nat.mul_comm];exact Nat.div_add_mod j E.size] at this
  ·have hbk:=bulk_sum D (fun i=>wt (q i).2) (List.range len) (fun i hi=>(hq i (List.mem_range.1 hi)).2.2.2)
   rw[hx]
   simp only[Rows.uptoBulk,List.map_map,Function.comp_def]
   omega
section
variable {H:Type} {enc:TypeId × Value->H} {W:World} {base:Nat} {sp:Nat->Bool} {held:Bool}
theorem el_text {fuel:Nat} {cs:List Value} {x:DataW H × List MemPlace} (h:DataW.trod enc Tryz.prog W base sp held fuel 9 cs=some x):∃y:List UInt8,elT.rep W (inB W) y cs/\tw y<=Rows.uptoBulk x.1:=by
 obtain⟨s,hs,hx,_⟩:=DataW.trod_string Tryz.underlying9 h
 subst hs hx
 exact⟨s.data.toList,by simp only[elT,self_txt],by simp only[Rows.uptoBulk,tw];omega⟩
theorem el_texts {fuel:Nat} {v:Value} {x:DataW H × List MemPlace} (h:DataW.trod enc Tryz.prog W base sp held fuel 22 [v]=some x):∃L,repW elT W (inB W) L v/\tsw L<=Rows.uptoBulk x.1:=
 open_list elT tw Tryz.underlying22 (by kernel_rfl) (by decide) (fun fuel cs x h=>el_text h) h
theorem el_attr {fuel:Nat} {cs:List Value} {x:DataW H × List MemPlace} (h:DataW.trod enc Tryz.prog W base sp held fuel 59 cs=some x):∃y:Atr,elA0.rep W (inB W) y cs/\aw y<=Rows.uptoBulk x.1:=by
 obtain⟨xs,m2,rfl,hDx,hl2,hxl,hf2⟩:=DataW.trod_struct Tryz.underlying59 h
 rw[show Tryz.prog.cellsOf 59=2 by kernel_rfl] at hl2
 match cs,hl2 with
 | [v0,v1],_=>
  have hx2:xs.length=2:=by simpa using hxl
  match xs,hx2 with
  | [y0,y1],_=>
   have g0:DataW.trod enc Tryz.prog W base sp held m2 9 [v0]=some y0:=hf2 0 _ rfl
   have g1:DataW.trod enc Tryz.prog W base sp held m2 22 [v1]=some y1:=hf2 1 _ rfl
   obtain⟨a,ha,hw0⟩:=el_text g0
   obtain⟨L,hL,hw1⟩:=el_texts g1
   obtain⟨A,c,zs,e1,hlm,hA,hr⟩:=hL
   have e2:=zBm hr
   subst e2
   simp only[elT,List.cons.injEq,and_true] at ha
   subst ha e1
   refine⟨(a,L),⟨A,c,rfl,hlm,hA⟩,?_⟩
   rw[hDx]
   simp only[Rows.uptoBulk,Rows.uptoBulkAll,aw,List.map_cons,List.map_nil]
   omega
theorem el_change {fuel:Nat} {cs:List Value} {x:DataW H × List MemPlace} (h:DataW.trod enc Tryz.prog W base sp held fuel 61 cs=some x):∃y:Int × Atr,elH0.rep W (inB W) y cs/\hw y<=Rows.uptoBulk x.1:=by
 obtain⟨xs,m2,rfl,hDx,hl2,hxl,hf2⟩:=DataW.trod_struct Tryz.underlying61 h
 rw[show Tryz.prog.cellsOf 61=3 by kernel_rfl] at hl2
 match cs,hl2 with
 | [v0,v1,v2],_=>
  have hx2:xs.length=2:=by simpa using hxl
  match xs,hx2 with
  | [y0,y1],_=>
   have g0:DataW.trod enc Tryz.prog W base sp held m2 3 [v0]=some y0:=hf2 0 _ rfl
   have g1:DataW.trod enc Tryz.prog W base sp held m2 59 [v1,v2]=some y1:=hf2 1 _ rfl
   obtain⟨k,hk,hy0,hwf⟩:=DataW.trod_int Tryz.underlying3 g0
   obtain⟨a,⟨A,c,e1,hlm,hA⟩,hw1⟩:=el_attr g1
   simp only[List.cons.injEq,and_true] at hk e1
   obtain⟨e1,e2⟩:=e1
   subst hk e1 e2 hy0
   refine⟨(k,a),⟨A,c,rfl,hlm,hA,by have:=hwf;simp[Lit.wf,IntKind.min,IntKind.max,IntKind.signed,IntKind.bits] at this;omega⟩,?_⟩
   rw[hDx]
   simp only[Rows.uptoBulk,Rows.uptoBulkAll,hw,List.map_cons,List.map_nil]
   omega
theorem el_ctl {fuel:Nat} {cs:List Value} {x:DataW H × List MemPlace} (h:DataW.trod enc Tryz.prog W base sp held fuel 68 cs=some x):∃y:Ct,elC.rep W (inB W) y cs/\cw y<=Rows.uptoBulk x.1:=by
 obtain⟨xs,m2,rfl,hDx,hl2,hxl,hf2⟩:=DataW.trod_struct Tryz.underlying68 h
 rw[show Tryz.prog.cellsOf 68=4 by kernel_rfl] at hl2
 match cs,hl2 with
 | [v0,v1,v2,v3],_=>
  have hx2:xs.length=4:=by simpa using hxl
  match xs,hx2 with
  | [y0,y1,y2,y3],_=>
   have g0:DataW.trod enc Tryz.prog W base sp held m2 9 [v0]=some y0:=hf2 0 _ rfl
   have g1:DataW.trod enc Tryz.prog W base sp held m2 4 [v1]=some y1:=hf2 1 _ rfl
   have g2:DataW.trod enc Tryz.prog W base sp held m2 4 [v2]=some y2:=hf2 2 _ rfl
   have g3:DataW.trod enc Tryz.prog W base sp held m2 9 [v3]=some y3:=hf2 3 _ rfl
   obtain⟨a,ha,hw0⟩:=el_text g0
   obtain⟨b1,hb1,hy1⟩:=DataW.trod_bool Tryz.underlying4 g1
   obtain⟨b2,hb2,hy2⟩:=DataW.trod_bool Tryz.underlying4 g2
   obtain⟨d,hd,hw3⟩:=el_text g3
   simp only[elT,List.cons.injEq,and_true] at ha hb1 hb2 hd
   subst ha hb1 hb2 hd hy1 hy2
   refine⟨⟨a,b1,b2,d⟩,rfl,?_⟩
   rw[hDx]
   simp only[Rows.uptoBulk,Rows.uptoBulkAll,cw,List.map_cons,List.map_nil]
   omega
instance:Inhabited Ct:=⟨⟨[],false,false,[]⟩⟩
theorem el_filt {fuel:Nat} {cs:List Value} {x:DataW H × List MemPlace} (h:DataW.trod enc Tryz.prog W base sp held fuel 25 cs=some x):∃t:FT,FIn W W.heap.size t cs:=
 open_filter_cells Tryz.underlying25 (by kernel_rfl) rfl rfl rfl rfl rfl rfl rfl (by kernel_rfl) (by kernel_rfl) (by kernel_rfl) (by kernel_rfl) (by kernel_rfl) (by kernel_rfl) (by kernel_rfl)
  Tryz.underlying3 Tryz.underlying9 Tryz.underlying9 Tryz.underlying9 Tryz.underlying9 Tryz.underlying22 (by kernel_rfl) Tryz.underlying9 Tryz.underlying23 fuel cs x h
theorem len32 {cs:List Value} (h:cs.length=32):∃a0 a1 a2 a3 a4 a5 a6 a7 a8 a9 b0 b1 b2 b3 b4 b5 b6 b7 b8 b9 c0 c1 c2 c3 c4 c5 c6 c7 c8 c9 d0 d1,cs=[a0,a1,a2,a3,a4,a5,a6,a7,a8,a9,b0,b1,b2,b3,b4,b5,b6,b7,b8,b9,c0,c1,c2,c3,c4,c5,c6,c7,c8,c9,d0,d1]:=by
 match cs,h with
 | [a0,a1,a2,a3,a4,a5,a6,a7,a8,a9,b0,b1,b2,b3,b4,b5,b6,b7,b8,b9,c0,c1,c2,c3,c4,c5,c6,c7,c8,c9,d0,d1],_=>exact⟨_,_,_,_,_,_,_,_,_,_,_,_,_,_,_,_,_,_,_,_,_,_,_,_,_,_,_,_,_,_,_,_,rfl⟩
theorem len26 {α:Type} {cs:List α} (h:cs.length=26):∃a0 a1 a2 a3 a4 a5 a6 a7 a8 a9 b0 b1 b2 b3 b4 b5 b6 b7 b8 b9 c0 c1 c2 c3 c4 c5,cs=[a0,a1,a2,a3,a4,a5,a6,a7,a8,a9,b0,b1,b2,b3,b4,b5,b6,b7,b8,b9,c0,c1,c2,c3,c4,c5]:=by
 match cs,h with
 | [a0,a1,a2,a3,a4,a5,a6,a7,a8,a9,b0,b1,b2,b3,b4,b5,b6,b7,b8,b9,c0,c1,c2,c3,c4,c5],_=>exact⟨_,_,_,_,_,_,_,_,_,_,_,_,_,_,_,_,_,_,_,_,_,_,_,_,_,_,rfl⟩
structure MsgIn {H:Type} (W:World) (v:Value) (d:DataW H) (m:MT):Prop where
 out:∃f0 f1 f2 f3 f4 f5 f6 va vl vc vr vk,v=.agg (mcells m f0 f1 f2 f3 f4 f5 f6 va vl vc vr vk).toArray/\MWide W m f0 f1 f2 f3 f4 f5 f6 va vl vc vr vk
 bulk:mw m<=Rows.uptoBulk d
 ints:∀n∈[m.id,m.kind,m.ver,m.scope,m.deref,m.size,m.time,m.target,m.code],-9223372036854775808<=n/\n<=9223372036854775807
theorem open_msg {r:Reach} {b0:Nat} {v:Value} {d:DataW H} {p:List MemPlace} (hval:Value.okWide Tryz.prog W r b0 30 v) (h:DataW.Trod enc Tryz.prog W base sp held 30 v d p):∃m,MsgIn W v d m:=by
 simp only[Value.okWide,Tryz.underlying30] at hval
 obtain⟨us,rfl,_⟩:=hval
 obtain⟨fuel,hf⟩:=h
 obtain⟨xs,n,rfl,hDx,hl,hxl,hg⟩:=DataW.trod_struct Tryz.underlying30 hf
 rw[show Tryz.prog.cellsOf 30=32 by kernel_rfl] at hl
 obtain⟨a0,a1,a2,a3,a4,a5,a6,a7,a8,a9,b0,b1,b2,b3,b4,b5,b6,b7,b8,b9,c0,c1,c2,c3,c4,c5,c6,c7,c8,c9,d0,d1,hus⟩:=len32 hl
 obtain⟨z0,z1,z2,z3,z4,z5,z6,z7,z8,z9,z10,z11,z12,z13,z14,z15,z16,z17,z18,z19,z20,z21,z22,z23,z24,z25,hxs⟩:=len26 (show xs.length=26 by simpa using hxl)
 rw[hus,hxs] at hg
 rw[hxs] at hDx
 have g0:DataW.trod enc Tryz.prog W base sp held n 2 [a0]=some z0:=hg 0 _ rfl
 obtain⟨x0,e0,_,w0⟩:=DataW.trod_int Tryz.underlying2 g0
 simp only[List.cons.injEq,and_true] at e0
 clear g0
 have g1:DataW.trod enc Tryz.prog W base sp held n 2 [a1]=some z1:=hg 1 _ rfl
 obtain⟨x1,e1,_,w1⟩:=DataW.trod_int Tryz.underlying2 g1
 simp only[List.cons.injEq,and_true] at e1
 clear g1
 have g2:DataW.trod enc Tryz.prog W base sp held n 9 [a2]=some z2:=hg 2 _ rfl
 obtain⟨x2,e2,w2⟩:=el_text g2
 simp only[elT,List.cons.injEq,and_true] at e2
 clear g2
 have g3:DataW.trod enc Tryz.prog W base sp held n 9 [a3]=some z3:=hg 3 _ rfl
 obtain⟨x3,e3,w3⟩:=el_text g3
 simp only[elT,List.cons.injEq,and_true] at e3
 clear g3
 have g4:DataW.trod enc Tryz.prog W base sp held n 2 [a4]=some z4:=hg 4 _ rfl
 obtain⟨x4,e4,_,w4⟩:=DataW.trod_int Tryz.underlying2 g4
 simp only[List.cons.injEq,and_true] at e4
 clear g4
 have g5:DataW.trod enc Tryz.prog W base sp held n 2 [a5]=some z5:=hg 5 _ rfl
 obtain⟨x5,e5,_,w5⟩:=DataW.trod_int Tryz.underlying2 g5
 simp only[List.cons.injEq,and_true] at e5
 clear g5
 have g6:DataW.trod enc Tryz.prog W base sp held n 2 [a6]=some z6:=hg 6 _ rfl
 obtain⟨x6,e6,_,w6⟩:=DataW.trod_int Tryz.underlying2 g6
 simp only[List.cons.injEq,and_true] at e6
 clear g6
 have g7:DataW.trod enc Tryz.prog W base sp held n 2 [a7]=some z7:=hg 7 _ rfl
 obtain⟨x7,e7,_,w7⟩:=DataW.trod_int Tryz.underlying2 g7
 simp only[List.cons.injEq,and_true] at e7
 clear g7
 have g8:DataW.trod enc Tryz.prog W base sp held n 2 [a8]=some z8:=hg 8 _ rfl
 obtain⟨x8,e8,_,w8⟩:=DataW.trod_int Tryz.underlying2 g8
 simp only[List.cons.injEq,and_true] at e8
 clear g8
 have g9:DataW.trod enc Tryz.prog W base sp held n 4 [a9]=some z9:=hg 9 _ rfl
 obtain⟨x9,e9,_⟩:=DataW.trod_bool Tryz.underlying4 g9
 simp only[List.cons.injEq,and_true] at e9
 clear g9
 have g10:DataW.trod enc Tryz.prog W base sp held n 25 [b0,b1,b2,b3,b4,b5,b6]=some z10:=hg 10 _ rfl
 obtain⟨x10,e10⟩:=el_filt g10
 clear g10
 have g11:DataW.trod enc Tryz.prog W base sp held n 22 [b7]=some z11:=hg 11 _ rfl
 obtain⟨x11,e11,w11⟩:=el_texts g11
 clear g11
 have g12:DataW.trod enc Tryz.prog W base sp held n 26 [b8]=some z12:=hg 12 _ rfl
 obtain⟨x12,e12,w12⟩:=open_list elA0 aw Tryz.underlying26 (by kernel_rfl) (by decide) (fun fuel cs x h=>el_attr h) g12
 clear g12
 have g13:DataW.trod enc Tryz.prog W base sp held n 27 [b9]=some z13:=hg 13 _ rfl
 obtain⟨x13,e13,w13⟩:=open_list elH0 hw Tryz.underlying27 (by kernel_rfl) (by decide) (fun fuel cs x h=>el_change h) g13
 clear g13
 have g14:DataW.trod enc Tryz.prog W base sp held n 9 [c0]=some z14:=hg 14 _ rfl
 obtain⟨x14,e14,w14⟩:=el_text g14
 simp only[elT,List.cons.injEq,and_true] at e14
 clear g14
 have g15:DataW.trod enc Tryz.prog W base sp held n 4 [c1]=some z15:=hg 15 _ rfl
 obtain⟨x15,e15,_⟩:=DataW.trod_bool Tryz.underlying4 g15
 simp only[List.cons.injEq,and_true] at e15
 clear g15
 have g16:DataW.trod enc Tryz.prog W base sp held n 4 [c2]=some z16:=hg 16 _ rfl
 obtain⟨x16,e16,_⟩:=DataW.trod_bool Tryz.underlying4 g16
 simp only[List.cons.injEq,and_true] at e16
 clear g16
 have g17:DataW.trod enc Tryz.prog W base sp held n 9 [c3]=some z17:=hg 17 _ rfl
 obtain⟨x17,e17,w17⟩:=el_text g17
 simp only[elT,List.cons.injEq,and_true] at e17
 clear g17
 have g18:DataW.trod enc Tryz.prog W base sp held n 9 [c4]=some z18:=hg 18 _ rfl
 obtain⟨x18,e18,w18⟩:=el_text g18
 simp only[elT,List.cons.injEq,and_true] at e18
 clear g18
 have g19:DataW.trod enc Tryz.prog W base sp held n 9 [c5]=some z19:=hg 19 _ rfl
 obtain⟨x19,e19,w19⟩:=el_text g19
 simp only[elT,List.cons.injEq,and_true] at e19
 clear g19
 have g20:DataW.trod enc Tryz.prog W base sp held n 2 [c6]=some z20:=hg 20 _ rfl
 obtain⟨x20,e20,_,w20⟩:=DataW.trod_int Tryz.underlying2 g20
 simp only[List.cons.injEq,and_true] at e20
 clear g20
 have g21:DataW.trod enc Tryz.prog W base sp held n 2 [c7]=some z21:=hg 21 _ rfl
 obtain⟨x21,e21,_,w21⟩:=DataW.trod_int Tryz.underlying2 g21
 simp only[List.cons.injEq,and_true] at e21
 clear g21
 have g22:DataW.trod enc Tryz.prog W base sp held n 9 [c8]=some z22:=hg 22 _ rfl
 obtain⟨x22,e22,w22⟩:=el_text g22
 simp only[elT,List.cons.injEq,and_true] at e22
 clear g22
 have g23:DataW.trod enc Tryz.prog W base sp held n 9 [c9]=some z23:=hg 23 _ rfl
 obtain⟨x23,e23,w23⟩:=el_text g23
 simp only[elT,List.cons.injEq,and_true] at e23
 clear g23
 have g24:DataW.trod enc Tryz.prog W base sp held n 22 [d0]=some z24:=hg 24 _ rfl
 obtain⟨x24,e24,w24⟩:=el_texts g24
 clear g24
 have g25:DataW.trod enc Tryz.prog W base sp held n 28 [d1]=some z25:=hg 25 _ rfl
 obtain⟨x25,e25,w25⟩:=open_list elC cw Tryz.underlying28 (by kernel_rfl) (by decide) (fun fuel cs x h=>el_ctl h) g25
 clear g25
 clear hg hf
 subst e0 e1 e2 e3 e4 e5 e6 e7 e8 e9 e14 e15 e16 e17 e18 e19 e20 e21 e22 e23
 refine⟨⟨x0,x1,x2,x3,x4,x5,x6,x7,x8,x9,x10,x11,x12,x13,x14,x15,x16,x17,x18,x19,x20,x21,x22,x23,x24,x25⟩,⟨_,_,_,_,_,_,_,_,_,_,_,_,?_,⟨e10,e11,e12,e13,e24,e25⟩⟩,?_,?_⟩
 ·obtain ⟨l⟩:=us
  simp only[Value.cells] at hus
  rw[hus]
  rfl
 ·have hd:d=_:=congrArg Prod.fst hDx
  rw[hd]
  simp only[Rows.uptoBulk,Rows.uptoBulkAll,List.map_cons,List.map_nil,mw]
  have:=one_le z0.1
  omega
 ·intro n hn
  simp only[List.mem_cons,List.not_mem_nil,or_false] at hn
  rcases hn with rfl | rfl | rfl | rfl | rfl | rfl | rfl | rfl | rfl
  ·have:=w0;simp[Lit.wf,IntKind.min,IntKind.max,IntKind.signed,IntKind.bits] at this;omega
  ·have:=w1;simp[Lit.wf,IntKind.min,IntKind.max,IntKind.signed,IntKind.bits] at this;omega
  ·have:=w4;simp[Lit.wf,IntKind.min,IntKind.max,IntKind.signed,IntKind.bits] at this;omega
  ·have:=w5;simp[Lit.wf,IntKind.min,IntKind.max,IntKind.signed,IntKind.bits] at this;omega
  ·have:=w6;simp[Lit.wf,IntKind.min,IntKind.max,IntKind.signed,IntKind.bits] at this;omega
  ·have:=w7;simp[Lit.wf,IntKind.min,IntKind.max,IntKind.signed,IntKind.bits] at this;omega
  ·have:=w8;simp[Lit.wf,IntKind.min,IntKind.max,IntKind.signed,IntKind.bits] at this;omega
  ·have:=w20;simp[Lit.wf,IntKind.min,IntKind.max,IntKind.signed,IntKind.bits] at this;omega
  ·have:=w21;simp[Lit.wf,IntKind.min,IntKind.max,IntKind.signed,IntKind.bits] at this;omega
end
end Opens
end Go.Proofs.YtcpjmgfloimfhaaGreat
