/- Several texts in one: LElem, HTheirs, LElem2. By an AI agent. -/
import Derived.Test.YtcpjmgfloimfhaaGreatM03
import Derived.Test.YtcpjmgfloimfhaaGreatM02
import Derived.Deep.CutRange
import Derived.Deep.CutBlock
set_option linter.unusedSimpArgs false
set_option linter.unusedVariables false
set_option maxRecDepth 100000
set_option maxHeartbeats 64000000
namespace Go.Proofs.YtcpjmgfloimfhaaGreat
open Go.RowKit
structure Elem (α:Type) where
 size:Nat
 rep:World->(Nat->Prop)->α->List Value->Prop
 len:∀{w:World} {P:Nat->Prop} {x:α} {cs:List Value},rep w P x cs->cs.length=size
 one:∀{w:World} {P:Nat->Prop} {x:α} {cs:List Value},rep w P x cs->∀u∈cs,u.oneCell'=true
 move:∀{w w':World} {P P':Nat->Prop} {x:α} {cs:List Value},(∀p:Addr,P p.block->w'.cell? p=w.cell? p)->(∀b,P b->P' b)->rep w P x cs->rep w' P' x cs
def rowIn {α:Type} (E:Elem α) (w:World) (P:Nat->Prop):List α->List Value->Prop
 | [],xs=>xs=[]
 | p::r,xs=>E.rep w P p (xs.take E.size)/\rowIn E w P r (xs.drop E.size)
section
variable {α:Type} {E:Elem α} {w w':World} {P P':Nat->Prop}
theorem rowIn.len:∀{L:List α} {xs:List Value},rowIn E w P L xs->xs.length=L.length*E.size
 | [],xs,h=>by simp only[rowIn] at h;subst h;simp
 | p::r,xs,h=>by
  simp only[rowIn] at h
  have h1:=E.len h.1
  have h2:=rowIn.len h.2
  simp only[List.length_take,List.length_drop,List.length_cons,Nat.add_mul,Nat.one_mul] at h1 h2 ⊢
  omega
theorem rowIn.move (hc:∀p:Addr,P p.block->w'.cell? p=w.cell? p) (hP:∀b,P b->P' b):∀{L:List α} {xs:List Value},rowIn E w P L xs->rowIn E w' P' L xs
 | [],xs,h=>h
 | p::r,xs,h=>⟨E.move hc hP h.1,rowIn.move hc hP h.2⟩
theorem rowIn.snoc:∀{L:List α} {xs:List Value} {x:α} {cs:List Value},rowIn E w P L xs->E.rep w P x cs->rowIn E w P (L++[x]) (xs++cs)
 | [],xs,x,cs,h,hp=>by
  simp only[rowIn] at h
  subst h
  have:=E.len hp
  simp only[List.nil_append,rowIn]
  exact⟨by rw[List.take_of_length_le (by omega)];exact hp,List.drop_eq_nil_of_le (by omega)⟩
 | q::r,xs,x,cs,h,hp=>by
  have hl:=rowIn.len h
  simp only[List.length_cons,Nat.add_mul,Nat.one_mul] at hl
  simp only[rowIn] at h
  simp only[List.cons_append,rowIn]
  refine⟨by rw[List.take_append_of_le_length (by omega)];exact h.1,?_⟩
  rw[List.drop_append_of_le_length (by omega)]
  exact rowIn.snoc h.2 hp
end
def elT:Elem (List UInt8) where
 size:=1
 rep:=fun _ _ x cs=>cs=[.string (txt x)]
 len:=fun h=>by rw[h];rfl
 one:=fun h u hu=>by subst h;simp only[List.mem_singleton] at hu;subst hu;rfl
 move:=fun _ _ h=>h
def elC:Elem Ct where
 size:=4
 rep:=fun _ _ x cs=>cs=[.string (txt x.oid),.bool x.crit,.bool x.hasv,.string (txt x.value)]
 len:=fun h=>by rw[h];rfl
 one:=fun h u hu=>by subst h;simp only[List.mem_cons,List.not_mem_nil,or_false] at hu;rcases hu with rfl | rfl | rfl | rfl<;>rfl
 move:=fun _ _ h=>h
def elA:Elem Atr where
 size:=2
 rep:=fun w P x cs=>∃A c,cs=[.string (txt x.1),.slice A x.2.length c]/\x.2.length<=20000/\HasP w P 1 A x.2.length (strs x.2)
 len:=fun h=>by obtain⟨A,c,rfl,_⟩:=h;rfl
 one:=fun h u hu=>by obtain⟨A,c,rfl,_⟩:=h;simp only[List.mem_cons,List.not_mem_nil,or_false] at hu;rcases hu with rfl | rfl<;>rfl
 move:=fun hc hP h=>by obtain⟨A,c,e,hl,h⟩:=h;exact⟨A,c,e,hl,h.move hc hP⟩
def elH:Elem (Int × Atr) where
 size:=3
 rep:=fun w P x cs=>∃A c,cs=[.int .i64 x.1,.string (txt x.2.1),.slice A x.2.2.length c]/\x.2.2.length<=20000/\HasP w P 1 A x.2.2.length (strs x.2.2)
 len:=fun h=>by obtain⟨A,c,rfl,_⟩:=h;rfl
 one:=fun h u hu=>by obtain⟨A,c,rfl,_⟩:=h;simp only[List.mem_cons,List.not_mem_nil,or_false] at hu;rcases hu with rfl | rfl | rfl<;>rfl
 move:=fun hc hP h=>by obtain⟨A,c,e,hl,h⟩:=h;exact⟨A,c,e,hl,h.move hc hP⟩
def repE {α:Type} (E:Elem α):World->(Nat->Prop)->α->Value->Prop:=fun w P x v=>∃cs,v=.agg cs.toArray/\E.rep w P x cs
def repL {α:Type} (E:Elem α):World->(Nat->Prop)->List α->Value->Prop:=fun w P L v=>∃A c xs,v=.slice A L.length c/\L.length<=20000/\HasP w P E.size A L.length xs/\rowIn E w P L xs
def Eats {α:Type} (p:Rdr α):Prop:=∀F x G,p F=some (x,G)->G.length<F.length
theorem many_fuel {α:Type} {p:Rdr α} (he:Eats p):∀(n:Nat) (F:List Fd) (acc:List α),F.length<=n->Rd.manyGo p n F acc=Rd.manyGo p F.length F acc
 | n,[],acc,_=>by cases n<;>rfl
 | 0,f::r,acc,h=>by simp at h
 | n+1,f::r,acc,h=>by
  simp only[List.length_cons] at h ⊢
  rw[Rd.manyGo,Rd.manyGo]
  cases hp:p (f::r) with
  | none=>rfl
  | some q=>
   obtain⟨x,G⟩:=q
   have h1:=he _ _ _ hp
   simp only[List.length_cons] at h1
   simp only
   rw[many_fuel he n G _ (by omega),many_fuel he r.length G _ (by omega)]
theorem many_next {α:Type} {p:Rdr α} (he:Eats p) {F G:List Fd} {x:α} (acc:List α) (h:p F=some (x,G)) (hn:F≠[]):Rd.manyGo p F.length F acc=Rd.manyGo p G.length G (acc++[x]):=by
 cases F with
 | nil=>exact absurd rfl hn
 | cons f r=>
  have h1:=he _ _ _ h
  simp only[List.length_cons] at h1 ⊢
  rw[Rd.manyGo,h]
  simp only
  exact many_fuel he _ _ _ (by omega)
theorem many_none {α:Type} {p:Rdr α} {F:List Fd} (acc:List α) (h:p F=none) (hn:F≠[]):Rd.manyGo p F.length F acc=none:=by
 cases F with
 | nil=>exact absurd rfl hn
 | cons f r=>simp only[List.length_cons];rw[Rd.manyGo,h]
structure LstS {α:Type} (E:Elem α) (ety:TypeId) (bl lo2:Nat) (L:List α) (W:World):Prop where
 blo:bl<lo2
 lt:bl<W.heap.size
 fz:∀i,W.frozen? ⟨bl,i,none⟩=false
 row:∃v xs,W.cell? ⟨bl,0,none⟩=some v/\W.ownsRow lo2 ety E.size v L.length xs/\rowIn E W (fun k=>lo2<=k/\k<W.heap.size/\v.ownBlock≠some k) L xs
 len:L.length<=20000
theorem LstS.fr {α:Type} {E:Elem α} {ety:TypeId} {bl lo2:Nat} {L:List α} {W W':World} {X:Nat->Prop} (h:LstS E ety bl lo2 L W) (hf:Fr X W W') (hb:¬X bl) (hx:∀k,lo2<=k->¬X k):LstS E ety bl lo2 L W':=by
 obtain⟨v,xs,h1,h2,h3⟩:=h.row
 have hlt:=h.lt
 refine⟨h.blo,Nat.lt_of_lt_of_le hlt hf.size,fun i=>(hf.frozen (p:=⟨bl,i,none⟩) hlt hb).trans (h.fz i),⟨v,xs,(hf.cell (p:=⟨bl,0,none⟩) hlt hb).trans h1,?_,h3.move (fun p hp=>hf.cell hp.2.1 (hx _ hp.1)) fun k hk=>⟨hk.1,Nat.lt_of_lt_of_le hk.2.1 hf.size,hk.2.2⟩⟩,h.len⟩
 refine⟨h2.1,h2.2.imp id ?_⟩
 rintro ⟨g,cap,cur,hv,hg,hh,rest⟩
 have hglt:g<W.heap.size:=(Array.getElem?_eq_some_iff.1 hh).1
 exact⟨g,cap,cur,hv,hg,(hf.same g hglt (hx _ hg)).trans hh,rest⟩
mutual
def FT.wee:FT->Prop
 | .mk k a v f l any ps=>any.length<=100000/\ps.length<=100000/\FT.weeL ps
def FT.weeL:List FT->Prop
 | []=>True
 | p::r=>FT.wee p/\FT.weeL r
end
theorem FT.weeL_mem:∀{ps:List FT},FT.weeL ps->∀p∈ps,p.wee
 | [],_,p,hp=>by cases hp
 | q::r,h,p,hp=>by
  simp only[FT.weeL] at h
  rcases List.mem_cons.1 hp with rfl | hp
  ·exact h.1
  ·exact FT.weeL_mem h.2 p hp
mutual
theorem FT.small_nodes:∀(t:FT) (d n:Int),0<=t.small d n->(t.nodes:Int)<=n-t.small d n/\(n<=60->t.wee)
 | .mk k a v f l any ps,d,n,h=>by
  simp only[FT.small] at h ⊢
  split at h
  ·omega
  ·rename_i h1
   split at h
   ·omega
   ·rename_i h2
    rw[if_neg h1,if_neg h2]
    have:=FT.smallL_nodes ps (d+1) (n-1) h
    have hl:=FT.nodesL_len ps
    simp only[FT.nodes,FT.wee]
    exact⟨by omega,fun hn=>⟨by omega,by omega,this.2 (by omega)⟩⟩
theorem FT.smallL_nodes:∀(ps:List FT) (d n:Int),0<=FT.smallL ps d n->(FT.nodesL ps:Int)<=n-FT.smallL ps d n/\(n<=60->FT.weeL ps)
 | [],d,n,h=>by simp[FT.smallL,FT.nodesL,FT.weeL]
 | p::r,d,n,h=>by
  simp only[FT.smallL] at h ⊢
  split at h
  ·omega
  ·rename_i h1
   rw[if_neg h1]
   have h2:=FT.smallL_nodes r d (p.small d n) h
   have h3:=FT.small_nodes p d n (by
    rcases Int.lt_or_le (p.small d n) 0 with h4 | h4
    ·exfalso
     cases r with
     | nil=>simp only[FT.smallL] at h;omega
     | cons q r=>simp only[FT.smallL] at h;rw[if_pos h4] at h;omega
    ·exact h4)
   have h5:=FT.nodes_pos p
   simp only[FT.nodesL,FT.weeL]
   exact⟨by omega,fun hn=>⟨h3.2 hn,h2.2 (by omega)⟩⟩
theorem FT.nodesL_len:∀ps:List FT,ps.length<=FT.nodesL ps
 | []=>by simp[FT.nodesL]
 | p::r=>by have:=FT.nodesL_len r;have:=FT.nodes_pos p;simp only[FT.nodesL,List.length_cons];omega
end
theorem FT.wee_of_small {t:FT} (h:t.small 0 60≥0):t.wee:=(FT.small_nodes t 0 60 h).2 (by omega)
theorem stepA {ops:Array Oper} {o:Oper} {a:Act} {K:Act->World->Prop} {Q:Exit->Act->World->Prop} {E:Prop} (W:World) (t e:TypeId) (z:Value) (size bytes:Nat) (hu:Tryz.prog.underlying t=some (.slice e))
  (hinf:(Tryz.prog.info? e).map (fun i=>(i.zero,i.size,i.bytes))=some (some z,size,bytes)) (hzs:z.cells.size=size) (hsz:0<size) (h32:bytes<=128)
  (d:Option Tmp) (hd:o.dst=d) (hgd:o.guard=none) (s x:Operand) (ho:o.op=.call { callee:=.builtin .append,args:=#[s,x],argTypes:=#[t,t] })
  (base:Nat) (v:Value) (n:Nat) (xs:List Value) (hs:a.eval s=v) (hown:W.ownsRow base e size v n xs)
  (B:Nat) (A:Option Addr) (m c:Nat) (l:List Value) (hx:a.eval x=.slice A m c) (hr:Has W B size A m l) (h1:∀u∈l,u.oneCell'=true)
  (hb:n+m<=1000000) (hbase:base<=W.heap.size)
  (h:∀v' w',w'.ownsRow base e size v' (n+m) (xs++l)->Below base W w'->W.grownBy w' v.ownBlock->(v'.ownBlock=v.ownBlock\/v'.ownBlock=some W.heap.size)->K (a.put d v') w'):
  if Region.wanted o (yielded ops a.tmps)=true then Oper.wp Tryz.prog o a W K Q else E:=by
 subst hd
 obtain⟨i0,hi,hz0,hz1,hz2⟩:=info_parts hinf
 have hbb:(n+m)*bytes<=140737488355328:=Nat.le_trans (Nat.mul_le_mul hb h32) (by omega)
 refine step_app W hgd s x t ho base e i0 z size bytes hu hi hz0 hz1 hz2 hzs hsz v n xs hs hown B A m c l hx hr h1 (by unfold maxLen;omega) hbb hbase ?_
 intro v' w' h1 h2 h3
 exact h v' w' h1 (below_grown hown h2 hbase) h2 h3
theorem zBu {w:World} {base n size:Nat} {e:TypeId} {v:Value} {xs:List Value} (h:w.ownsRow base e size v n xs):∀b,w.heap.size<=b->v.ownBlock≠some b:=fun b hb e=>by
 have:=(h.lt b e).2
 omega
theorem own_one {w:World} {base n size:Nat} {e:TypeId} {v:Value} {xs:List Value} (h:w.ownsRow base e size v n xs):v.oneCell'=true:=by
 obtain⟨A,c,rfl,_⟩:=own_form h
 rfl
theorem nilS (w:World):(w.alloc (.cells #[] 9)).ownsRow w.heap.size 9 1 (.slice (some ⟨w.heap.size,0,none⟩) 0 0) 0 []:=
 own_lit w #[] 9 0 (by unfold maxLen;omega) rfl
structure ConvPost (t:FT) (w:World) (e:Ending) (w':World):Prop where
 out:∃v0 v1 v2 v3 v4 v5 v6,e=.returned (.agg #[v0,v1,v2,v3,v4,v5,v6])/\FInP w' (fun b=>w.heap.size<=b/\b<w'.heap.size) t [v0,v1,v2,v3,v4,v5,v6]/\Below w.heap.size w w'
structure Th1 (w2 wx:World) (h:Nat) (k:Int) (a v f l:ByteArray) (v5:Value) (m:Nat) (L:List (List UInt8)):Prop where
 bel:Below w2.heap.size w2 wx
 le:w2.heap.size<=h
 out:Out7 wx h (.int .i64 k) (.string a) (.string v) (.string f) (.string l) v5 (.slice none 0 0)
 own:wx.ownsRow w2.heap.size 9 1 v5 m (strs L)
 off:v5.ownBlock=none\/v5.ownBlock≠some h
structure ThL (E:TypeId) (wc wx:World) (h:Nat) (k:Int) (a v f l:ByteArray) (v5 v6:Value) (j:Nat) (xs:List Value) (L:List FT):Prop where
 grown:wc.grownBy wx (some h)
 out:Out7 wx h (.int .i64 k) (.string a) (.string v) (.string f) (.string l) v5 v6
 own:wx.ownsRow wc.heap.size E 7 v6 j xs
 parts:FsInP wx (fun b=>wc.heap.size<=b/\b<wx.heap.size/\some b≠v6.ownBlock) L xs
theorem ThL.next {E:TypeId} {wc wr w7 w9:World} {h:Nat} {k:Int} {a v f l:ByteArray} {v5 v6 v9:Value} {j:Nat} {xs ys:List Value} {L:List FT} {p:FT} {C:Obj}
  (hT:ThL E wc wr h k a v f l v5 v6 j xs L) (hltc:h<wc.heap.size) (hb7:Below wr.heap.size wr w7) (hy:FInP w7 (fun b=>wr.heap.size<=b/\b<w7.heap.size) p ys)
  (hown:w9.ownsRow wc.heap.size E 7 v9 (j+1) (xs++ys)) (hg:(w7.alloc C).grownBy w9 v6.ownBlock) (ht:v9.ownBlock=v6.ownBlock\/v9.ownBlock=some (w7.alloc C).heap.size):
  ThL E wc (w9.setCell ⟨h,6,none⟩ v9) h k a v f l v5 v9 (j+1) (xs++ys) (L++[p]):=by
 have hs8:(w7.alloc C).heap.size=w7.heap.size+1:=by simp
 have hs1:=hT.grown.size
 have hs7:=hb7.size
 have hs9:=hg.size
 have ho:=hT.own.lt
 have hgs:=grown_setCell w9 h 6 v9
 have hss:=hgs.size
 have q7:∀b,b<w7.heap.size->some b≠v6.ownBlock->w9.heap[b]?=w7.heap[b]?:=fun b hb hne=>(hg.block b (by omega) hne).trans (heap_alloc_old w7 C hb)
 have q1:∀b,b<wr.heap.size->some b≠v6.ownBlock->w9.heap[b]?=wr.heap[b]?:=fun b hb hne=>(q7 b (by omega) hne).trans (hb7.block b hb)
 have qs:∀b,b<w9.heap.size->b≠h->(w9.setCell ⟨h,6,none⟩ v9).heap[b]?=w9.heap[b]?:=fun b hb hne=>hgs.block b hb (fun e=>hne (Option.some.inj e))
 have hno:∀b,b<wc.heap.size->some b≠v6.ownBlock:=fun b hb e=>by have:=ho b e.symm;omega
 have hn9:v9.ownBlock≠some h:=fun e=>by
  rcases ht with e2 | e2
  ·rw [e2] at e;have:=ho h e;omega
  ·rw [e2] at e;have:=Option.some.inj e;omega
 refine⟨⟨hgs.os.trans (hg.os.trans (hb7.os.trans hT.grown.os)),hgs.tape.trans (hg.tape.trans (hb7.tape.trans hT.grown.tape)),hgs.output.trans (hg.output.trans (hb7.output.trans hT.grown.output)),by omega,fun b hb hne=>?_⟩,?_,?_,?_⟩
 ·have hbh:b≠h:=fun e=>hne (by rw[e])
  exact (qs b (by omega) hbh).trans ((q1 b (by omega) (hno b hb)).trans (hT.grown.block b hb hne))
 ·exact (hT.out.keep (by omega) (q1 h (by omega) (hno h hltc))).set6 v9
 ·exact hown.kept hgs (.inr hn9)
 ·refine FsInP.snoc (FsInP.move ?_ ?_ hT.parts) (FInP.move ?_ ?_ hy)
  ·rintro x ⟨h1,h2,h3⟩
   exact World.cell?_of_block ((qs _ (by omega) (by omega)).trans (q1 _ h2 h3))
  ·rintro b ⟨h1,h2,h3⟩
   refine⟨h1,by omega,?_⟩
   rcases ht with e2 | e2
   ·rw [e2];exact h3
   ·rw [e2];intro e;have:=Option.some.inj e;omega
  ·rintro x ⟨h1,h2⟩
   exact World.cell?_of_block ((qs _ (by omega) (by omega)).trans (q7 _ h2 (fun e=>by have:=ho _ e.symm;omega)))
  ·rintro b ⟨h1,h2⟩
   refine⟨by omega,by omega,?_⟩
   rcases ht with e2 | e2
   ·rw [e2];intro e;have:=ho _ e.symm;omega
   ·rw [e2];intro e;have:=Option.some.inj e;omega
theorem conv_done {E:TypeId} {w w2 wc wr:World} {h b1:Nat} {k:Int} {a v f l:List UInt8} {A D:Option Addr} {m c np d:Nat} {xs:List Value} {any:List (List UInt8)} {ps:List FT}
  (hTh:Th1 w2 wc h k (txt a) (txt v) (txt f) (txt l) (.slice A m c) m any) (hL:ThL E wc wr h k (txt a) (txt v) (txt f) (txt l) (.slice A m c) (.slice D np d) np xs ps)
  (hm:any.length=m) (hn:ps.length=np) (hm5:m<=100000) (hn5:np<=100000) (hb1:w.heap.size<=b1) (hb2:b1<w2.heap.size) (hw:w.heap.size<=w2.heap.size) (hb:Below w.heap.size w wc) (cs:List Value):
  FInP (wr.setCells b1 0 cs) (fun b=>w.heap.size<=b/\b<(wr.setCells b1 0 cs).heap.size) (.mk k a v f l any ps) [.int .i64 k,.string (txt a),.string (txt v),.string (txt f),.string (txt l),.slice A m c,.slice D np d]/\
   Below w.heap.size w (wr.setCells b1 0 cs):=by
 have hgs:=zAx b1 cs 0 wr
 have hs0:=hgs.size
 have hs1:=hL.grown.size
 have hsc:=hTh.bel.size
 have hlt:=hTh.out.lt
 have hle:=hTh.le
 subst hm hn
 obtain⟨A',c',e1,_,hP1⟩:=zA5 hTh.own
 obtain⟨D',d',e2,_,hP2⟩:=zA5 hL.own
 cases e1
 cases e2
 have hoff:=hTh.off
 have hoA:∀b,(Value.slice A any.length c).ownBlock=some b->w2.heap.size<=b/\b<wc.heap.size:=hTh.own.lt
 refine⟨?_,?_⟩
 ·simp only[FInP]
  refine⟨A,c,D,d,xs,rfl,⟨by unfold maxLen;omega,by unfold maxLen;omega⟩,?_,?_,?_⟩
  ·refine ⟨hP1.1,hP1.2.imp id ?_⟩
   rintro ⟨ad,rfl,hb3,hc⟩
   have hne:ad.block≠h:=fun e=>by
    rcases hoff with h0 | h0
    ·cases h0
    ·exact h0 (by rw[<-e];rfl)
   refine⟨ad,rfl,⟨by omega,by omega⟩,fun i u hu=>(World.cell?_of_block ?_).trans (hc i u hu)⟩
   rw[zBl]
   exact (hgs.block _ (by omega) (fun e=>by have:=Option.some.inj e;omega)).trans (hL.grown.block _ hb3.2 (fun e=>hne (Option.some.inj e)))
  ·refine hP2.move (fun x hx=>World.cell?_of_block (hgs.block _ hx.2 (fun e=>by have:=Option.some.inj e;omega))) (fun b hx=>⟨by omega,by omega⟩)
  ·refine FsInP.move (fun x hx=>World.cell?_of_block (hgs.block _ hx.2.1 (fun e=>by have:=Option.some.inj e;omega))) (fun b hx=>⟨by omega,by omega⟩) hL.parts
 ·exact hb.trans ((zAv hL.grown (fun q hq=>by have:=Option.some.inj hq;omega) (by omega)).trans (zAv hgs (fun q hq=>by have:=Option.some.inj hq;omega) (by omega)))
theorem Box7.keep {w w':World} {b:Nat} {k:Int} {a v f l:ByteArray} {A D:Option Addr} {m c n d:Nat} (t:Box7 w b k a v f l A m c D n d) (hs:w.heap.size<=w'.heap.size) (hb:w'.heap[b]?=w.heap[b]?):Box7 w' b k a v f l A m c D n d:=
 have q:∀i,w'.cell? ⟨b,i,none⟩=w.cell? ⟨b,i,none⟩:=fun i=>World.cell?_of_block (a:=⟨b,i,none⟩) hb
 ⟨Nat.lt_of_lt_of_le t.lt hs,(q 0).trans t.c0,(q 1).trans t.c1,(q 2).trans t.c2,(q 3).trans t.c3,(q 4).trans t.c4,(q 5).trans t.c5,(q 6).trans t.c6⟩
theorem zAy {fn:Func} {p:Tmp} {ty:TypeId} (h:fn.results=#[.cell p ty]) (tmps:Array Value) {P:Program} (w:World) (b:Nat) (cs:List Value) (d:TypeDesc)
  (hp:tmps.getD p undef=.pointer (some ⟨b,0,none⟩)) (hc:w.rangeAt b 0 cs) (hu:P.underlying ty=some d) (hd:d.isRow=true) (hi:(P.info? ty).map (·.size)=some cs.length):
  (results fn tmps).run P w=.ok (.agg cs.toArray) w:=by
 have hp':tmps[p]?.getD undef=.pointer (some ⟨b,0,none⟩):=by simpa using hp
 simp[results,h,hp',asAddr,run_loadVar_mid w b 0 ty cs d hc hu hd hi]
theorem Out7.range {w:World} {b:Nat} {u0 u1 u2 u3 u4 u5 u6:Value} (h:Out7 w b u0 u1 u2 u3 u4 u5 u6):w.rangeAt b 0 [u0,u1,u2,u3,u4,u5,u6]:=by
 intro j u hu
 rw[Nat.zero_add]
 match j,hu with
 | 0,hu=>cases hu;exact h.c0
 | 1,hu=>cases hu;exact h.c1
 | 2,hu=>cases hu;exact h.c2
 | 3,hu=>cases hu;exact h.c3
 | 4,hu=>cases hu;exact h.c4
 | 5,hu=>cases hu;exact h.c5
 | 6,hu=>cases hu;exact h.c6
theorem theirs7_any (t:FT):t.wee->∀(w:World) (u0 u1 u2 u3 u4 u5 u6:Value),FIn w w.heap.size t [u0,u1,u2,u3,u4,u5,u6]->
  Calls Tryz.prog 23 #[.agg #[u0,u1,u2,u3,u4,u5,u6]] w (ConvPost t w):=by
 induction t using FT.induct
 rename_i k a v f l any ps ih
 intro hwee w u0 u1 u2 u3 u4 u5 u6 hF
 simp only[FIn] at hF
 simp only[FT.wee] at hwee
 obtain⟨A,c,D,dd,xs,hcs,⟨hml,hnl⟩,hA,hD,hP⟩:=hF
 cases hcs
 obtain⟨hwm,hwn,hwl⟩:=hwee
 have hwp:=FT.weeL_mem hwl
 obtain⟨m,hm⟩:∃m,any.length=m:=⟨_,rfl⟩
 obtain⟨np,hnp⟩:∃np,ps.length=np:=⟨_,rfl⟩
 have hnl1:(np:Int)<=9223372036854775807:=by omega
 have hm5:m<=100000:=by omega
 have hn5:np<=100000:=by omega
 have hX:=Box7.new w k (txt a) (txt v) (txt f) (txt l) A any.length c D ps.length dd 25
 have hb0:=below1 w (.cells #[.int .i64 k,.string (txt a),.string (txt v),.string (txt f),.string (txt l),.slice A any.length c,.slice D ps.length dd] 25)
 obtain⟨w1,hw1⟩:∃w1,(w.alloc (.cells #[.int .i64 k,.string (txt a),.string (txt v),.string (txt f),.string (txt l),.slice A any.length c,.slice D ps.length dd] 25))=w1:=⟨_,rfl⟩
 have hsz1:w1.heap.size=w.heap.size+1:=by rw[<-hw1];simp
 rw[hw1] at hX hb0
 have hR:=Out7.new (u0:=.int .i64 0) (u1:=.string ⟨#[]⟩) (u2:=.string ⟨#[]⟩) (u3:=.string ⟨#[]⟩) (u4:=.string ⟨#[]⟩) (u5:=.slice none 0 0) (u6:=.slice none 0 0) w1 39
 have hb1:=below1 w1 (.cells #[.int .i64 0,.string ⟨#[]⟩,.string ⟨#[]⟩,.string ⟨#[]⟩,.string ⟨#[]⟩,.slice none 0 0,.slice none 0 0] 39)
 obtain⟨w2,hw2⟩:∃w2,w1.alloc (.cells #[.int .i64 0,.string ⟨#[]⟩,.string ⟨#[]⟩,.string ⟨#[]⟩,.string ⟨#[]⟩,.slice none 0 0,.slice none 0 0] 39)=w2:=⟨_,rfl⟩
 rw[hw2] at hR hb1
 have hsz2:w2.heap.size=w.heap.size+2:=by rw[<-hw2];simp[hsz1]
 have hX2:=hX.below hX.lt hb1
 have hb2:=hb0.trans (hb1.mono hb0.size)
 rw[hm,hnp] at hX2 hw1 ⊢
 rw[hsz1] at hR
 have hA2:=hA.below hb2
 rw[hm] at hA2
 have HW1:=hide hw1
 have HW2:=hide hw2
 have HX:=hide hX2
 have HR:=hide hR
 have HB:=hide hb2
 have HA:=hide hA2
 have HA0:=hide hA
 have HD:=hide hD
 have HP:=hide hP
 have Hih:=hide ih
 have Hwp:=hide hwp
 have Hnp:=hide hnp
 have Hm:=hide hm
 have HS1:=hide hsz1
 have HS2:=hide hsz2
 have H1t:=hide (strs_one any)
 clear ih hA hA2 hD hP hm hnp hml hnl hwp hwl hwm hwn hX hX2 hR hb0 hb1 hb2 hw1 hw2 hsz1 hsz2
 generalize hsa:txt a=sa at *
 have Hsa:=hide hsa
 clear hsa
 generalize hsv:txt v=sv at *
 have Hsv:=hide hsv
 clear hsv
 generalize hsf:txt f=sf at *
 have Hsf:=hide hsf
 clear hsf
 generalize hsl:txt l=sl at *
 have Hsl:=hide hsl
 clear hsl
 go_enter Tryz.func23,Tryz.ntmps23
 go_upto_region 1 with fail
 rw[HW1.out]
 rw[HW2.out]
 have HLT:w.heap.size<w2.heap.size:=by rw[HS2.out];omega
 go_cut [3] from 5 to 19 (fun s3 wx=>∃(h:Nat) (v5:Value),s3=.pointer (some ⟨h,0,none⟩)/\Th1 w2 wx h k sa sv sf sl v5 m any)
 case first=>
  clear Hih HD HP Hwp Hnp HA0 Hm HW1 HW2 HB HR HS1 HS2
  refine grow_begin_at w2.heap.size (by kernel_rfl) ?_
  have hdr:Below w2.heap.size w2 w2.drew:=(Below.refl _ _).drew
  have HXd:=hide (HX.out.below HX.out.lt hdr)
  have HBc:=hide hdr
  clear hdr HX
  generalize w2.drew=wd at *
  refine zAa 0 (some 5) rfl rfl (by kernel_rfl) rfl (by rfl) (fun W hW=>by go_simp<;>with_reducible rfl) ?_
  simp only[pU]
  refine zAa 1 (some 6) (v:=?va1) rfl rfl (by kernel_rfl) rfl (by rfl) (fun W hW=>?ya1) ?_
  case ya1=>
   have h0:=(HXd.out.below HLT hW).c0
   go_simp<;>with_reducible rfl
  simp only[pU]
  refine zAa 2 (some 7) rfl rfl (by kernel_rfl) rfl (by rfl) (fun W hW=>by go_simp<;>with_reducible rfl) ?_
  simp only[pU]
  refine zAa 3 (some 8) (v:=?va3) rfl rfl (by kernel_rfl) rfl (by rfl) (fun W hW=>?ya3) ?_
  case ya3=>
   have h1:=(HXd.out.below HLT hW).c1
   go_simp<;>with_reducible rfl
  simp only[pU]
  refine zAa 4 (some 9) rfl rfl (by kernel_rfl) rfl (by rfl) (fun W hW=>by go_simp<;>with_reducible rfl) ?_
  simp only[pU]
  refine zAa 5 (some 10) (v:=?va5) rfl rfl (by kernel_rfl) rfl (by rfl) (fun W hW=>?ya5) ?_
  case ya5=>
   have h2:=(HXd.out.below HLT hW).c2
   go_simp<;>with_reducible rfl
  simp only[pU]
  refine zAa 6 (some 11) rfl rfl (by kernel_rfl) rfl (by rfl) (fun W hW=>by go_simp<;>with_reducible rfl) ?_
  simp only[pU]
  refine zAa 7 (some 12) (v:=?va7) rfl rfl (by kernel_rfl) rfl (by rfl) (fun W hW=>?ya7) ?_
  case ya7=>
   have h3:=(HXd.out.below HLT hW).c3
   go_simp<;>with_reducible rfl
  simp only[pU]
  refine zAa 8 (some 13) rfl rfl (by kernel_rfl) rfl (by rfl) (fun W hW=>by go_simp<;>with_reducible rfl) ?_
  simp only[pU]
  refine zAa 9 (some 14) (v:=?va9) rfl rfl (by kernel_rfl) rfl (by rfl) (fun W hW=>?ya9) ?_
  case ya9=>
   have h4:=(HXd.out.below HLT hW).c4
   go_simp<;>with_reducible rfl
  simp only[pU]
  refine zAa 11 (some 16) rfl rfl (by kernel_rfl) rfl (by rfl) (fun W hW=>by go_simp<;>with_reducible rfl) ?_
  simp only[pU]
  refine zAa 12 (some 17) (v:=?va12) rfl rfl (by kernel_rfl) rfl (by rfl) (fun W hW=>?ya12) ?_
  case ya12=>
   have h5:=(HXd.out.below HLT hW).c5
   go_simp<;>with_reducible rfl
  simp only[pU]
  refine grow_each [10,15] (by kernel_rfl) (by simp) ?_
  refine AllG.cons rfl (fun K hK=>?_) (AllG.cons rfl (fun K hK=>?_) AllG.nil)
  ·go_simp
   have hb3:Below w2.heap.size wd (wd.alloc (.cells #[] 9)):=(Below.refl _ _).alloc HBc.out.size _
   have HOw:=hide (zAg (nilS wd) HBc.out.size)
   replace HBc:=hide (HBc.out.trans hb3)
   refine hK.out _ _ hb3 ?_
   clear hK K hb3
   generalize (Value.slice (some ⟨wd.heap.size,0,none⟩) 0 0)=x10 at *
   generalize wd.alloc (.cells #[] 9)=w10 at *
   try simp only[pU]
   refine grow_each [13,15] (by kernel_rfl) (by simp) ?_
   refine AllG.cons rfl (fun K hK=>?_) (AllG.cons rfl (fun K hK=>?_) AllG.nil)
   ·refine stepA _ 22 9 _ 1 16 Tryz.underlying22 infoS rfl (by omega) (by omega) (some 18) rfl rfl (.tmp 15) (.tmp 17) rfl w2.heap.size _ 0 [] rfl HOw.out _ _ m _ (strs any) rfl (HA.out.below (HBc.out.mono (Nat.le_of_lt HLT))) H1t.out (by omega) HBc.out.size ?_
    intro v13 w13 hown hb3 hg ht
    have HOn:Hid (w13.ownsRow w2.heap.size 9 1 v13 m (strs any)):=hide (by simpa using hown)
    obtain⟨A3,d3,hv3,_,_⟩:=own_form HOn.out
    subst hv3
    replace HBc:=hide (HBc.out.trans hb3)
    refine hK.out _ _ hb3 ?_
    clear hK K hown hb3 hg ht HOw
    try simp only[pU]
    refine zAa 14 (some 19) rfl rfl (by kernel_rfl) rfl (by rfl) (fun W hW=>by go_simp<;>with_reducible rfl) ?_
    simp only[pU]
    refine zAc 15 rfl (by kernel_rfl) (fun K hK=>?_)
    go_simp
    have hb3:Below w2.heap.size w13 (w13.alloc (.cells #[.int .i64 0,.string ⟨#[]⟩,.string ⟨#[]⟩,.string ⟨#[]⟩,.string ⟨#[]⟩,.slice none 0 0,.slice none 0 0] 39)):=(Below.refl _ _).alloc HBc.out.size _
    have HOt:=hide (Out7.new (u0:=.int .i64 0) (u1:=.string ⟨#[]⟩) (u2:=.string ⟨#[]⟩) (u3:=.string ⟨#[]⟩) (u4:=.string ⟨#[]⟩) (u5:=.slice none 0 0) (u6:=.slice none 0 0) w13 39)
    have HLe:Hid (w2.heap.size<=w13.heap.size):=hide HBc.out.size
    have HOff2:Hid ((Value.slice A3 m d3).ownBlock≠some w13.heap.size):=hide (zBu HOn.out _ (Nat.le_refl _))
    replace HOn:=hide (HOn.out.alloc (.cells #[.int .i64 0,.string ⟨#[]⟩,.string ⟨#[]⟩,.string ⟨#[]⟩,.string ⟨#[]⟩,.slice none 0 0,.slice none 0 0] 39))
    replace HBc:=hide (HBc.out.trans hb3)
    refine hK.out _ _ hb3 ?_
    clear hK K hb3
    generalize w13.alloc (.cells #[.int .i64 0,.string ⟨#[]⟩,.string ⟨#[]⟩,.string ⟨#[]⟩,.string ⟨#[]⟩,.slice none 0 0,.slice none 0 0] 39)=w15 at *
    generalize w13.heap.size=h at *
    try simp only[pU]
    refine zAc 16 rfl (by kernel_rfl) (fun K hK=>?_)
    have h1c:=own_one HOn.out
    refine zAz _ none rfl rfl 39 (.tmp 3) (.tmp 19) rfl h 0 #[.int .i64 k,.string sa,.string sv,.string sf,.string sl,.slice A3 m d3,.slice none 0 0] rfl rfl HOt.out.there (by kernel_rfl) (by simp[h1c,Value.oneCell']) ?_
    have hg:=zAx h [.int .i64 k,.string sa,.string sv,.string sf,.string sl,.slice A3 m d3,.slice none 0 0] 0 w15
    have hb3:Below w2.heap.size w15 (w15.setCells h 0 [.int .i64 k,.string sa,.string sv,.string sf,.string sl,.slice A3 m d3,.slice none 0 0]):=zAv hg (fun k hk=>by cases hk;exact HLe.out) HBc.out.size
    have HTh:Th1 w2 (w15.setCells h 0 [.int .i64 k,.string sa,.string sv,.string sf,.string sl,.slice A3 m d3,.slice none 0 0]) h k sa sv sf sl (.slice A3 m d3) m any:=⟨HBc.out.trans hb3,HLe.out,HOt.out.sets,HOn.out.kept hg (.inr HOff2.out),.inr HOff2.out⟩
    refine hK.out _ _ hb3 ?_
    clear hK K hb3 hg h1c
    try simp only[pU]
    refine zAi (by kernel_rfl) ?_ _
    go_wp2_with fail
    go_meet
    case rel=>exact⟨h,.slice A3 m d3,rfl,HTh⟩
   ·go_simp
    have hb3:Below w2.heap.size w10 (w10.alloc (.cells #[.int .i64 0,.string ⟨#[]⟩,.string ⟨#[]⟩,.string ⟨#[]⟩,.string ⟨#[]⟩,.slice none 0 0,.slice none 0 0] 39)):=(Below.refl _ _).alloc HBc.out.size _
    have HOt:=hide (Out7.new (u0:=.int .i64 0) (u1:=.string ⟨#[]⟩) (u2:=.string ⟨#[]⟩) (u3:=.string ⟨#[]⟩) (u4:=.string ⟨#[]⟩) (u5:=.slice none 0 0) (u6:=.slice none 0 0) w10 39)
    have HLe:Hid (w2.heap.size<=w10.heap.size):=hide HBc.out.size
    have HOff:Hid (x10.ownBlock≠some w10.heap.size):=hide (zBu HOw.out _ (Nat.le_refl _))
    replace HOw:=hide (HOw.out.alloc (.cells #[.int .i64 0,.string ⟨#[]⟩,.string ⟨#[]⟩,.string ⟨#[]⟩,.string ⟨#[]⟩,.slice none 0 0,.slice none 0 0] 39))
    replace HBc:=hide (HBc.out.trans hb3)
    refine hK.out _ _ hb3 ?_
    clear hK K hb3
    generalize w10.alloc (.cells #[.int .i64 0,.string ⟨#[]⟩,.string ⟨#[]⟩,.string ⟨#[]⟩,.string ⟨#[]⟩,.slice none 0 0,.slice none 0 0] 39)=w15 at *
    generalize w10.heap.size=h at *
    try simp only[pU]
    refine zAc 13 rfl (by kernel_rfl) (fun K hK=>?_)
    refine stepA _ 22 9 _ 1 16 Tryz.underlying22 infoS rfl (by omega) (by omega) (some 18) rfl rfl (.tmp 15) (.tmp 17) rfl w2.heap.size _ 0 [] rfl HOw.out _ _ m _ (strs any) rfl (HA.out.below (HBc.out.mono (Nat.le_of_lt HLT))) H1t.out (by omega) HBc.out.size ?_
    intro v13 w13 hown hb3 hg ht
    have HOn:Hid (w13.ownsRow w2.heap.size 9 1 v13 m (strs any)):=hide (by simpa using hown)
    obtain⟨A3,d3,hv3,_,_⟩:=own_form HOn.out
    subst hv3
    have hlt0:=HOt.out.lt
    have HOff2:Hid ((Value.slice A3 m d3).ownBlock≠some h):=hide (by
     rcases ht with e | e
     ·rw [e];exact HOff.out
     ·rw [e];intro e';have:=Option.some.inj e';omega)
    replace HOt:=hide (HOt.out.keep hb3.size (hg.block h HOt.out.lt (fun e=>HOff.out e.symm)))
    replace HBc:=hide (HBc.out.trans hb3)
    refine hK.out _ _ hb3 ?_
    clear hK K hown hb3 hg ht HOw HOff hlt0
    try simp only[pU]
    refine zAa 14 (some 19) rfl rfl (by kernel_rfl) rfl (by rfl) (fun W hW=>by go_simp<;>with_reducible rfl) ?_
    simp only[pU]
    refine zAc 16 rfl (by kernel_rfl) (fun K hK=>?_)
    have h1c:=own_one HOn.out
    refine zAz _ none rfl rfl 39 (.tmp 3) (.tmp 19) rfl h 0 #[.int .i64 k,.string sa,.string sv,.string sf,.string sl,.slice A3 m d3,.slice none 0 0] rfl rfl HOt.out.there (by kernel_rfl) (by simp[h1c,Value.oneCell']) ?_
    have hg:=zAx h [.int .i64 k,.string sa,.string sv,.string sf,.string sl,.slice A3 m d3,.slice none 0 0] 0 w13
    have hb3:Below w2.heap.size w13 (w13.setCells h 0 [.int .i64 k,.string sa,.string sv,.string sf,.string sl,.slice A3 m d3,.slice none 0 0]):=zAv hg (fun k hk=>by cases hk;exact HLe.out) HBc.out.size
    have HTh:Th1 w2 (w13.setCells h 0 [.int .i64 k,.string sa,.string sv,.string sf,.string sl,.slice A3 m d3,.slice none 0 0]) h k sa sv sf sl (.slice A3 m d3) m any:=⟨HBc.out.trans hb3,HLe.out,HOt.out.sets,HOn.out.kept hg (.inr HOff2.out),.inr HOff2.out⟩
    refine hK.out _ _ hb3 ?_
    clear hK K hb3 hg h1c
    try simp only[pU]
    refine zAi (by kernel_rfl) ?_ _
    go_wp2_with fail
    go_meet
    case rel=>exact⟨h,.slice A3 m d3,rfl,HTh⟩
  ·go_simp
   have hb3:Below w2.heap.size wd (wd.alloc (.cells #[.int .i64 0,.string ⟨#[]⟩,.string ⟨#[]⟩,.string ⟨#[]⟩,.string ⟨#[]⟩,.slice none 0 0,.slice none 0 0] 39)):=(Below.refl _ _).alloc HBc.out.size _
   have HOt:=hide (Out7.new (u0:=.int .i64 0) (u1:=.string ⟨#[]⟩) (u2:=.string ⟨#[]⟩) (u3:=.string ⟨#[]⟩) (u4:=.string ⟨#[]⟩) (u5:=.slice none 0 0) (u6:=.slice none 0 0) wd 39)
   have HLe:Hid (w2.heap.size<=wd.heap.size):=hide HBc.out.size
   replace HBc:=hide (HBc.out.trans hb3)
   refine hK.out _ _ hb3 ?_
   clear hK K hb3
   generalize wd.alloc (.cells #[.int .i64 0,.string ⟨#[]⟩,.string ⟨#[]⟩,.string ⟨#[]⟩,.string ⟨#[]⟩,.slice none 0 0,.slice none 0 0] 39)=w15 at *
   generalize wd.heap.size=h at *
   try simp only[pU]
   refine zAc 10 rfl (by kernel_rfl) (fun K hK=>?_)
   go_simp
   have hb3:Below w2.heap.size w15 (w15.alloc (.cells #[] 9)):=(Below.refl _ _).alloc HBc.out.size _
   have HOw:=hide (zAg (nilS w15) HBc.out.size)
   have HOff:Hid ((Value.slice (some ⟨w15.heap.size,0,none⟩) 0 0).ownBlock≠some h):=hide (fun e=>by have:=HOt.out.lt;simp[Value.ownBlock] at e;omega)
   replace HOt:=hide (HOt.out.below HOt.out.lt (below1 w15 (.cells #[] 9)))
   replace HBc:=hide (HBc.out.trans hb3)
   refine hK.out _ _ hb3 ?_
   clear hK K hb3
   generalize (Value.slice (some ⟨w15.heap.size,0,none⟩) 0 0)=x10 at *
   generalize w15.alloc (.cells #[] 9)=w10 at *
   try simp only[pU]
   refine zAc 13 rfl (by kernel_rfl) (fun K hK=>?_)
   refine stepA _ 22 9 _ 1 16 Tryz.underlying22 infoS rfl (by omega) (by omega) (some 18) rfl rfl (.tmp 15) (.tmp 17) rfl w2.heap.size _ 0 [] rfl HOw.out _ _ m _ (strs any) rfl (HA.out.below (HBc.out.mono (Nat.le_of_lt HLT))) H1t.out (by omega) HBc.out.size ?_
   intro v13 w13 hown hb3 hg ht
   have HOn:Hid (w13.ownsRow w2.heap.size 9 1 v13 m (strs any)):=hide (by simpa using hown)
   obtain⟨A3,d3,hv3,_,_⟩:=own_form HOn.out
   subst hv3
   have hlt0:=HOt.out.lt
   have HOff2:Hid ((Value.slice A3 m d3).ownBlock≠some h):=hide (by
    rcases ht with e | e
    ·rw [e];exact HOff.out
    ·rw [e];intro e';have:=Option.some.inj e';omega)
   replace HOt:=hide (HOt.out.keep hb3.size (hg.block h HOt.out.lt (fun e=>HOff.out e.symm)))
   replace HBc:=hide (HBc.out.trans hb3)
   refine hK.out _ _ hb3 ?_
   clear hK K hown hb3 hg ht HOw HOff hlt0
   try simp only[pU]
   refine zAa 14 (some 19) rfl rfl (by kernel_rfl) rfl (by rfl) (fun W hW=>by go_simp<;>with_reducible rfl) ?_
   simp only[pU]
   refine zAc 16 rfl (by kernel_rfl) (fun K hK=>?_)
   have h1c:=own_one HOn.out
   refine zAz _ none rfl rfl 39 (.tmp 3) (.tmp 19) rfl h 0 #[.int .i64 k,.string sa,.string sv,.string sf,.string sl,.slice A3 m d3,.slice none 0 0] rfl rfl HOt.out.there (by kernel_rfl) (by simp[h1c,Value.oneCell']) ?_
   have hg:=zAx h [.int .i64 k,.string sa,.string sv,.string sf,.string sl,.slice A3 m d3,.slice none 0 0] 0 w13
   have hb3:Below w2.heap.size w13 (w13.setCells h 0 [.int .i64 k,.string sa,.string sv,.string sf,.string sl,.slice A3 m d3,.slice none 0 0]):=zAv hg (fun k hk=>by cases hk;exact HLe.out) HBc.out.size
   have HTh:Th1 w2 (w13.setCells h 0 [.int .i64 k,.string sa,.string sv,.string sf,.string sl,.slice A3 m d3,.slice none 0 0]) h k sa sv sf sl (.slice A3 m d3) m any:=⟨HBc.out.trans hb3,HLe.out,HOt.out.sets,HOn.out.kept hg (.inr HOff2.out),.inr HOff2.out⟩
   refine hK.out _ _ hb3 ?_
   clear hK K hb3 hg h1c
   try simp only[pU]
   refine zAi (by kernel_rfl) ?_ _
   go_wp2_with fail
   go_meet
   case rel=>exact⟨h,.slice A3 m d3,rfl,HTh⟩
 case rest=>
  obtain⟨h,v5,rfl,hTh⟩:=hcut
  obtain⟨A5,d5,hv5,_,_⟩:=own_form hTh.own
  subst hv5
  have hs2:=HS2.out
  have hbc:=hTh.bel
  have hsc:=hbc.size
  have hle:=hTh.le
  have hltc:=hTh.out.lt
  have HXc:=hide (HX.out.below HX.out.lt hbc)
  have HXb:=HX.out
  have HXl:w.heap.size<wc.heap.size:=by omega
  have HRc:=hide (HR.out.below (D:=w2.heap.size) (by omega) hbc)
  have HBc:=hT HB hbc
  have HBl:=HB.out.size
  have HTh:=hide hTh
  have Hsc:=hide hsc
  have Hle:=hide hle
  have Hs2:=hide hs2
  have HBl2:=hide HBl
  clear hTh hbc HXb HX HR HB HA HA0 HW1 HW2 HS1 hsc hle hs2 HBl H1t
  obtain⟨_,c0,c1,c2,c3,c4,c5,c6⟩:=HXc.out
  go_wp2
  go_loopg [23] np (fun r s23 wx=>∃(j:Nat) (v6:Value) (ys:List Value),j+r=np/\s23=.int .i64 (j:Int)/\Hid (ThL 39 wc wx h k sa sv sf sl (.slice A5 m d5) v6 j ys (ps.take j)))
  case atStart=>exact⟨0,.slice none 0 0,[],by omega,rfl,hide ⟨World.grownBy.refl wc _,HTh.out.out,World.ownsRow_nil _ _ _ _,by simp[FsInP]⟩⟩
  case round=>
   obtain⟨j,v6,ys,hjg,rfl,hL⟩:=hrel
   clear c0 c1 c2 c3 c4 c5 c6
   have hXr:=hide (HXc.out.keep hL.out.grown.size (hL.out.grown.block w.heap.size HXl (fun e=>by have:=Option.some.inj e;have:=Hle.out;have:=Hs2.out;omega)))
   obtain⟨_,c0,c1,c2,c3,c4,c5,c6⟩:=hXr.out
   cases gk with
   | zero=>
    obtain rfl:j=np:=by omega
    have hjz:¬((j:Int)<(j:Int)):=by omega
    obtain⟨D6,d6,hv6,_,_⟩:=own_form hL.out.own
    subst hv6
    have hRr:=hide (HRc.out.keep hL.out.grown.size (hL.out.grown.block (w.heap.size+1) (by have:=Hsc.out;have:=Hs2.out;omega) (fun e=>by have:=Option.some.inj e;have:=Hle.out;have:=Hs2.out;omega)))
    obtain⟨_,o0,o1,o2,o3,o4,o5,o6,_⟩:=hL.out.out
    have hTh:=HTh.out
    have hLL:=hL.out
    clear HD HP Hih Hwp
    obtain⟨wz,hwz⟩:∃wz,wr.setCells (w.heap.size+1) 0 [.int .i64 k,.string sa,.string sv,.string sf,.string sl,.slice A5 m d5,.slice D6 j d6]=wz:=⟨_,rfl⟩
    have hZ:=hRr.out.sets (v0:=.int .i64 k) (v1:=.string sa) (v2:=.string sv) (v3:=.string sf) (v4:=.string sl) (v5:=.slice A5 m d5) (v6:=.slice D6 j d6)
    rw[hwz] at hZ
    have hst:∀{ops:Array Oper} {rest:List Oper} {op:Oper} {a:Act} {Q:Exit->Act->World->Prop},op.guard=none->op.op=.store 39 (.tmp 2) (.tmp 38)->a.eval (.tmp 2)=.pointer (some ⟨w.heap.size+1,0,none⟩)->a.eval (.tmp 38)=.agg #[.int .i64 k,.string sa,.string sv,.string sf,.string sl,.slice A5 m d5,.slice D6 j d6]->
      wpList Tryz.prog ops Q rest (a.put op.dst undef) wz->wpList Tryz.prog ops Q (op::rest) a wr:=by
     intro ops rest op a Q h1 h2 h3 h4 h5
     rw[<-hwz] at h5
     exact wpList_store_mid h1 _ _ _ h2 _ _ _ h3 h4 hRr.out.there (by kernel_rfl) (by simp[Value.oneCell']) h5
    have Hwz:=hide hwz
    have HZ:=hide hZ
    obtain⟨_,z0,z1,z2,z3,z4,z5,z6,_⟩:=hZ
    clear hwz
    go_wp2_with (refine hst rfl rfl rfl rfl ?_)
    refine bodyPost_ret (v:=.agg #[.int .i64 k,.string sa,.string sv,.string sf,.string sl,.slice A5 m d5,.slice D6 j d6]) ?_ rfl ?_
    ·exact zAy rfl _ wz (w.heap.size+1) [.int .i64 k,.string sa,.string sv,.string sf,.string sl,.slice A5 m d5,.slice D6 j d6] _ rfl HZ.out.range Tryz.underlying39 rfl (by kernel_rfl)
    ·have hle:=Hle.out
     have hs2:=Hs2.out
     obtain rfl:=Hsa.out
     obtain rfl:=Hsv.out
     obtain rfl:=Hsf.out
     obtain rfl:=Hsl.out
     have hLp:=hL.out
     rw[List.take_of_length_le (by rw[Hnp.out];exact Nat.le_refl _)] at hLp
     have hd:=conv_done HTh.out hLp Hm.out Hnp.out hm5 hn5 (show w.heap.size<=w.heap.size+1 by omega) (by omega) HBl2.out HBc.out [.int .i64 k,.string (txt a),.string (txt v),.string (txt f),.string (txt l),.slice A5 m d5,.slice D6 j d6]
     rw[Hwz.out] at hd
     exact⟨_,_,_,_,_,_,_,rfl,hd.1,hd.2⟩
   | succ r=>
    have hj:j<np:=by omega
    have hjz:(j:Int)<(np:Int):=by omega
    obtain⟨p,hp⟩:∃p,ps[j]?=some p:=⟨_,List.getElem?_eq_getElem (by rw[Hnp.out];exact hj)⟩
    have hpm:=List.mem_of_getElem? hp
    obtain⟨g,o,hDe,hg,hparts⟩:=HD.out.part HP.out (fun h=>by rw[h] at hp;simp at hp)
    subst hDe
    obtain⟨u0,u1,u2,u3,u4,u5,u6,hpart⟩:=hparts j p hp
    have hLo:=hL.out
    have hgb:Below w.heap.size wc wr:=zAv hLo.grown (fun q hq=>by have:=Option.some.inj hq;have:=Hle.out;have:=Hs2.out;omega) (by omega)
    have hbw:=HBc.out.trans hgb
    have hsw:=hLo.grown.size
    have hdr:∀B,Below B wr wr.drew:=fun B=>(Below.refl _ _).drew
    have HPd:=hide ((hpart.below hbw).below (hdr _))
    have hcall:=Hih.out p hpm (Hwp.out p hpm) wr.drew _ _ _ _ _ _ _ ((HPd.out.fin).upto (Nat.le_trans hbw.size (hdr 0).size))
    have HXd:=hide (hXr.out.below hXr.out.lt (hdr _))
    have HOd:=hide (hLo.out.below hLo.out.lt (hdr _))
    have HLd:Hid (ThL 39 wc wr.drew h k sa sv sf sl (.slice A5 m d5) v6 j ys (ps.take j)):=hide ⟨⟨hLo.grown.os,hLo.grown.tape,hLo.grown.output,hLo.grown.size,hLo.grown.block⟩,HOd.out,zAo hLo.own (hdr _),FsInP.move (w:=wr) (w':=wr.drew) (P':=fun b=>wc.heap.size<=b/\b<wr.drew.heap.size/\some b≠v6.ownBlock) (fun _ _=>rfl) (fun _ h=>h) hLo.parts⟩
    have htk:Hid (ps.take (j+1)=ps.take j++[p]):=hide (by rw[List.take_add_one,hp];rfl)
    have hswd:wc.heap.size<=wr.drew.heap.size:=hsw
    have HWC:Hid (w.heap.size<=wc.heap.size):=hide (by omega)
    clear HD HP Hih Hwp Hnp Hm HTh HRc hp hpm hparts hpart hLo hgb hbw hsw hdr hL hXr HBc HXc HBl2
    clear c0 c1 c2 c3 c4 c5 c6
    go_wp2_with fail
    refine grow_begin_atL wc.heap.size 11 (by kernel_rfl) ?_
    generalize wr.drew=wd at *
    refine zAl 0 (some 26) rfl rfl (by kernel_rfl) rfl (by kernel_rfl) (by rfl) (fun W hW=>by go_simp<;>with_reducible rfl) ?_
    simp only[pU]
    refine zAl 1 (some 27) (v:=?vb1) rfl rfl (by kernel_rfl) rfl (by kernel_rfl) (by rfl) (fun W hW=>?yb1) ?_
    case yb1=>
     have h6:=(HOd.out.below hltc hW).c6
     go_simp<;>with_reducible rfl
    simp only[pU]
    refine zAl 2 (some 28) rfl rfl (by kernel_rfl) rfl (by kernel_rfl) (by rfl) (fun W hW=>by go_simp<;>with_reducible rfl) ?_
    simp only[pU]
    refine zAl 3 (some 29) (v:=?vb3) rfl rfl (by kernel_rfl) rfl (by kernel_rfl) (by rfl) (fun W hW=>?yb3) ?_
    case yb3=>
     have h6:=(HXd.out.below HXl hW).c6
     go_simp<;>with_reducible rfl
    simp only[pU]
    refine zAl 4 (some 30) rfl rfl (by kernel_rfl) rfl (by kernel_rfl) (by rfl) (fun W hW=>by go_simp<;>with_reducible rfl) ?_
    simp only[pU]
    refine zAl 5 (some 31) rfl rfl (by kernel_rfl) rfl (by kernel_rfl) (by rfl) (fun W hW=>by go_simp<;>with_reducible rfl) ?_
    simp only[pU]
    refine zAl 6 (some 32) (v:=?vb6) rfl rfl (by kernel_rfl) rfl (by kernel_rfl) (by rfl) (fun W hW=>?yb6) ?_
    case yb6=>
     obtain⟨_,_,e0,e1,e2,e3,e4,e5,e6⟩:=HPd.out.below (hW.mono HWC.out)
     go_simp<;>with_reducible rfl
    simp only[pU]
    refine zBe 7 rfl (by kernel_rfl) (fun K hK=>?_)
    go_simp
    refine hcall.mono ?_
    rintro e w7 hpost
    obtain⟨y0,y1,y2,y3,y4,y5,y6,rfl,hy,hb7⟩:=hpost.out
    have HY:=hide hy
    have HB7:=hide hb7
    have hOw:=zAo HLd.out.own hb7
    have HOw:=hide hOw
    have hs7:wc.heap.size<=w7.heap.size:=Nat.le_trans hswd hb7.size
    refine hK.out _ _ (fun _=>hb7.mono hswd) ?_
    clear hK K hy hb7 hOw hpost
    try simp only[pU]
    refine zBe 8 rfl (by kernel_rfl) (fun K hK=>?_)
    go_simp
    have hb8:Below wc.heap.size w7 (w7.alloc (.cells #[y0,y1,y2,y3,y4,y5,y6] 39)):=(Below.refl _ _).alloc hs7 _
    have hlit:=World.ownsRow_lit (e:=39) (size:=7) w7 #[y0,y1,y2,y3,y4,y5,y6] 1 (Nat.le_refl _) (by unfold maxLen;omega) rfl
    have hOw8:=HOw.out.alloc (.cells #[y0,y1,y2,y3,y4,y5,y6] 39)
    have hs8:=Nat.le_trans hs7 hb8.size
    refine hK.out _ _ (fun _=>hb8) ?_
    clear hK K hb8
    try simp only[pU]
    refine zBe 9 rfl (by kernel_rfl) (fun K hK=>?_)
    refine stepA _ 37 39 _ 7 120 Tryz.underlying37 infoF rfl (by omega) (by omega) (some 35) rfl rfl (.tmp 27) (.tmp 34) rfl wc.heap.size _ j ys rfl hOw8 _ _ 1 1 [y0,y1,y2,y3,y4,y5,y6] rfl (Has.own hlit) HY.out.one (by omega) hs8 ?_
    intro v9 w9 hown9 hb9 hg9 ht9
    have hN:=HLd.out.next hltc HB7.out HY.out hown9 hg9 ht9
    have h1c:=own_one hown9
    obtain⟨A9,d9,hv9,_,_⟩:=own_form hown9
    subst hv9
    have hO9:=hN.out
    have HO9:Hid (Out7 w9 h (.int .i64 k) (.string sa) (.string sv) (.string sf) (.string sl) (.slice A5 m d5) v6):=hide ((HOd.out.below (Nat.lt_of_lt_of_le hltc hswd) HB7.out).keep (Nat.le_trans (by simp) hg9.size) ((hg9.block h (by have:=HB7.out.size;simp;omega) (fun e=>by have:=(HLd.out.own.lt h e.symm).1;omega)).trans (heap_alloc_old w7 _ (by have:=HB7.out.size;omega))))
    have HN:=hide hN
    refine hK.out _ _ (fun _=>hb9) ?_
    clear hK K hown9 hb9 hg9 ht9 hN hO9 hlit hOw8 hs8 HY HB7 HOw h1c
    try simp only[pU]
    refine zAl 10 (some 36) rfl rfl (by kernel_rfl) rfl (by kernel_rfl) (by rfl) (fun W hW=>by go_simp<;>with_reducible rfl) ?_
    simp only[pU]
    refine zBe 11 rfl (by kernel_rfl) (fun K hK=>?_)
    obtain⟨_,_,_,_,_,_,_,o6,ofz⟩:=HO9.out
    have of6:=ofz 6
    go_simp
    refine hK.out _ _ (fun h=>absurd rfl h) ?_
    clear hK K o6 of6 ofz
    try simp only[pU]
    refine grow_doneL (by kernel_rfl) ?_ _
    have hrel2:=HN.out
    rw[<-htk.out] at hrel2
    go_wp2
    go_roundg r
    case measure=>omega
    case rel=>exact⟨j+1,_,_,by omega,by go_num,hide hrel2⟩
theorem own_fr {W W':World} {lo n size:Nat} {e:TypeId} {v:Value} {xs:List Value} {X:Nat->Prop} (h:W.ownsRow lo e size v n xs) (hf:Fr X W W') (hx:∀k,lo<=k->¬X k):W'.ownsRow lo e size v n xs:=by
 refine⟨h.1,h.2.imp id ?_⟩
 rintro ⟨g,cap,cur,hv,hg,hh,rest⟩
 have hglt:g<W.heap.size:=(Array.getElem?_eq_some_iff.1 hh).1
 exact⟨g,cap,cur,hv,hg,(hf.same g hglt (hx _ hg)).trans hh,rest⟩
theorem LstS.low {α:Type} {E:Elem α} {ety:TypeId} {bl lo2 lo3:Nat} {L:List α} {W:World} (h:LstS E ety bl lo3 L W) (h1:lo2<=lo3) (h2:bl<lo2):LstS E ety bl lo2 L W:=by
 obtain⟨v,xs,q1,q2,q3⟩:=h.row
 exact⟨h2,h.lt,h.fz,⟨v,xs,q1,zAg q2 h1,q3.move (fun _ _=>rfl) fun k hk=>⟨Nat.le_trans h1 hk.1,hk.2⟩⟩,h.len⟩
theorem LstS.snoc {α:Type} {E:Elem α} {ety:TypeId} {bl lo:Nat} {L:List α} {w2 w4:World} {v v':Value} {xs cs:List Value} {x:α} {o:Obj} (hbl:bl<lo) (hlo:lo<=w2.heap.size) (hfz:∀i,w2.frozen? ⟨bl,i,none⟩=false) (hcl:w2.cell? ⟨bl,0,none⟩=some v)
  (hown:w2.ownsRow lo ety E.size v L.length xs) (hrow:rowIn E w2 (fun k=>lo<=k/\k<w2.heap.size/\v.ownBlock≠some k) L xs) (hx:E.rep w2 (fun k=>lo<=k/\k<w2.heap.size/\v.ownBlock≠some k) x cs)
  (h4:w4.ownsRow lo ety E.size v' (L.length+1) (xs++cs)) (hg:(w2.alloc o).grownBy w4 v.ownBlock) (ht:v'.ownBlock=v.ownBlock\/v'.ownBlock=some (w2.alloc o).heap.size) (hn:L.length+1<=20000):
  LstS E ety bl lo (L++[x]) (w4.setCell ⟨bl,0,none⟩ v'):=by
 have hf1:Fr (fun k=>v.ownBlock=some k) w2 w4:=(Fr.alloc _ w2 o).trans (Fr.grown hg fun k hk=>hk)
 have hbo:¬(v.ownBlock=some bl):=fun e=>by have:=(hown.lt bl e).1;omega
 have hlt:bl<w2.heap.size:=by omega
 have hlt4:bl<w4.heap.size:=Nat.lt_of_lt_of_le hlt hf1.size
 have hc4:w4.cell? ⟨bl,0,none⟩=some v:=(hf1.cell (p:=⟨bl,0,none⟩) hlt hbo).trans hcl
 have hf2:Fr (fun k=>k=bl) w4 (w4.setCell ⟨bl,0,none⟩ v'):=Fr.setCell _ _ _ rfl
 have key:∀k,(lo<=k/\k<w2.heap.size/\v.ownBlock≠some k)->v'.ownBlock≠some k:=fun k hk e=>by
  rcases ht with h | h
  ·rw [h] at e;exact hk.2.2 e
  ·rw [h] at e;cases e;have:=hk.2.1;simp at this;omega
 have hrow2:=hrow.snoc hx
 refine⟨hbl,Nat.lt_of_lt_of_le hlt4 hf2.size,fun i=>by rw[World.frozen?_setCell];exact (hf1.frozen (p:=⟨bl,i,none⟩) hlt hbo).trans (hfz i),⟨v',xs++cs,World.cell?_setCell_same _ _ _ hc4,?_,?_⟩,by simpa using hn⟩
 ·have:=own_fr h4 hf2 (fun k hk e=>by omega)
  simpa using this
 ·refine rowIn.move (fun p hp=>?_) (fun k hk=>?_) hrow2
  ·rw [hf2.cell (Nat.lt_of_lt_of_le hp.2.1 hf1.size) (by have:=hp.1;omega),hf1.cell hp.2.1 hp.2.2]
  ·exact ⟨hk.1,Nat.lt_of_lt_of_le hk.2.1 (Nat.le_trans hf1.size hf2.size),key k hk⟩
structure Many {α:Type} (p:Rdr α) (F:List Fd) (φ:Bool) (F':List Fd) (φ':Bool) (acc:List α):Prop where
 bad:φ=true->φ'=true
 more:φ=false->φ'=false->Rd.manyGo p F'.length F' acc=Rd.manyGo p F.length F []
 none:φ=false->φ'=true->Rd.manyGo p F.length F []=.none
 len:φ'=false->acc.length+F'.length<=16384
 all:acc.length<=16385
section
variable {α:Type} {p:Rdr α} {F F' G:List Fd} {φ φ':Bool} {acc:List α} {x:α}
theorem Many.start (p:Rdr α) (F:List Fd) (φ:Bool) (h:F.length<=16384):Many p F φ F φ []:=
 ⟨id,fun _ _=>rfl,fun h1 h2=>(by rw[h1] at h2;cases h2),fun _=>by simpa using h,by simp⟩
theorem Many.step (h:Many p F φ F' false acc) (he:Eats p) (hn:F'≠[]) (hq:∀x0 F0,p F'=some (x0,F0)->x=x0/\G=F0):Many p F φ G (p F').isNone (acc++[x])/\(if (p F').isNone then 0 else G.length+1)<F'.length+1:=by
 have h1:=h.len rfl
 have hpos:=List.length_pos_iff.2 hn
 cases hp:p F' with
 | none=>
  refine⟨⟨fun h0=>rfl,fun _ h2=>(by cases h2),fun h0 _=>?_,fun h2=>(by cases h2),by simp;omega⟩,by simp⟩
  rw[<-h.more h0 rfl]
  exact many_none _ hp hn
 | some q=>
  obtain⟨y,H⟩:=q
  obtain⟨rfl,rfl⟩:=hq _ _ hp
  have h2:=he _ _ _ hp
  refine⟨⟨fun h0=>?_,fun h0 _=>?_,fun _ h3=>(by cases h3),fun _=>by simp;omega,by simp;omega⟩,by simp;omega⟩
  ·have:=h.bad h0;cases this
  ·rw [<-h.more h0 rfl,many_next he acc hp hn]
theorem Many.done (h:Many p F φ F' φ' acc) (hm:moreB F' φ'=false):φ'=(φ||(Rd.manyR p F).isNone)/\(φ=false->∀x0 F0,Rd.manyR p F=some (x0,F0)->acc=x0/\F'=F0):=by
 unfold Rd.manyR
 cases φ with
 | true=>exact⟨by rw[h.bad rfl];rfl,fun h0=>by cases h0⟩
 | false=>
  cases φ' with
  | true=>rw[h.none rfl rfl];exact⟨rfl,fun _ x0 F0 h0=>by cases h0⟩
  | false=>
   cases F' with
   | cons f r=>cases hm
   | nil=>
    rw[<-h.more rfl rfl]
    exact⟨rfl,fun _ x0 F0 h0=>by simpa[Rd.manyGo] using h0⟩
end
def wayCC (p:Addr) (v:Value) (q:Addr) (u:Value) (w W:World):Prop:=(w.cell? p=some v->W.cell? p=some v)/\(w.cell? q=some u->W.cell? q=some u)
instance wayCCway (p:Addr) (v:Value) (q:Addr) (u:Value):Way (wayCC p v q u):=⟨fun _=>⟨id,id⟩,fun h k=>⟨fun x=>k.1 (h.1 x),fun x=>k.2 (h.2 x)⟩⟩
end Go.Proofs.YtcpjmgfloimfhaaGreat
