/- Several texts in one: LSame2, LGood, LGoodF, LEncM, LGoodM, LGoodD, LWee. By an AI agent. -/
import Derived.Test.YtcpjmgfloimfhaaGreatLSame
import Derived.Test.YtcpjmgfloimfhaaGreatM13
import Derived.Test.YtcpjmgfloimfhaaGreatM17
import Derived.Test.YtcpjmgfloimfhaaGreatM14
import Derived.Test.YtcpjmgfloimfhaaGreatM04
set_option linter.unusedSimpArgs false
set_option linter.unusedVariables false
set_option maxRecDepth 100000
set_option maxHeartbeats 64000000
namespace Go.Proofs.YtcpjmgfloimfhaaGreat
open Go.RowKit
theorem same_any (w:World) (x y:MT) (v v':Value) (hx:repM w (inB w) x v) (hy:repM w (inB w) y v') (hwee:x.filt.wee) (R:Bool) (hR:R=true↔x=y):
  Calls Tryz.prog 18 #[v,v'] w fun e w'=>e=.returned (.bool R)/\Below w.heap.size w w':=by
 obtain⟨f0,f1,f2,f3,f4,f5,f6,va,vl,vc,vr,vk,rfl,hX⟩:=hx
 obtain⟨g0,g1,g2,g3,g4,g5,g6,ua,ul,uc,ur,uk,rfl,hY⟩:=hy
 obtain⟨cx,hcx⟩:∃cx,mcells x f0 f1 f2 f3 f4 f5 f6 va vl vc vr vk=cx:=⟨_,rfl⟩
 obtain⟨cy,hcy⟩:∃cy,mcells y g0 g1 g2 g3 g4 g5 g6 ua ul uc ur uk=cy:=⟨_,rfl⟩
 have hnx:cx.length=32:=by rw[<-hcx];rfl
 have hny:cy.length=32:=by rw[<-hcy];rfl
 have hB1:Blk (w.alloc (.cells cx.toArray 42)) w.heap.size cx:=Blk.new w cx 42
 have hf1:Fr (fun _=>False) w (w.alloc (.cells cx.toArray 42)):=Fr.alloc _ _ _
 obtain⟨w1,hw1⟩:∃w1,w.alloc (.cells cx.toArray 42)=w1:=⟨_,rfl⟩
 have hs1:w1.heap.size=w.heap.size+1:=by rw[<-hw1];simp
 rw[hw1] at hB1 hf1
 have hB2:Blk (w1.alloc (.cells cy.toArray 42)) w1.heap.size cy:=Blk.new w1 cy 42
 have hf2:Fr (fun _=>False) w1 (w1.alloc (.cells cy.toArray 42)):=Fr.alloc _ _ _
 obtain⟨w2,hw2⟩:∃w2,w1.alloc (.cells cy.toArray 42)=w2:=⟨_,rfl⟩
 rw[hw2] at hB2 hf2
 have hB1b:=hB1.fr hf2 id
 have hb:Below w.heap.size w w2:=(hf1.trans hf2).below (Nat.le_refl _) (fun k q=>q.elim)
 rw[hs1] at hB2
 obtain⟨p1,hp1⟩:∃p1,w.heap.size=p1:=⟨_,rfl⟩
 obtain⟨p2,hp2⟩:∃p2,w.heap.size+1=p2:=⟨_,rfl⟩
 rw[hp1] at hB1b
 rw[hp2] at hB2
 have kX:∀W,Below w2.heap.size w2 W->Blk W p1 cx:=fun W hW=>hB1b.fr (Fr.of (X:=fun _=>False) hW) id
 have kY:∀W,Below w2.heap.size w2 W->Blk W p2 cy:=fun W hW=>hB2.fr (Fr.of (X:=fun _=>False) hW) id
 have rX:∀W,Below w2.heap.size w2 W->MReps W (inB W) x f0 f1 f2 f3 f4 f5 f6 va vl vc vr vk:=fun W hW=>(hX.below hb).below hW
 have rY:∀W,Below w2.heap.size w2 W->MReps W (inB W) y g0 g1 g2 g3 g4 g5 g6 ua ul uc ur uk:=fun W hW=>(hY.below hb).below hW
 obtain⟨b1,h1⟩:=boolOf (x.id=y.id/\x.kind=y.kind/\x.ver=y.ver/\x.scope=y.scope/\x.deref=y.deref/\x.size=y.size/\x.time=y.time/\x.target=y.target/\x.code=y.code)
 obtain⟨b2,h2⟩:=boolOf (x.name=y.name/\x.pw=y.pw/\x.nrdn=y.nrdn/\x.sup=y.sup/\x.attr=y.attr/\x.value=y.value/\x.matched=y.matched/\x.text=y.text)
 obtain⟨b3,h3⟩:=boolOf (x.tonly=y.tonly/\x.delold=y.delold/\x.hassup=y.hassup)
 obtain⟨b4,h4⟩:=boolOf (x.filt=y.filt)
 obtain⟨b5,h5⟩:=boolOf (x.attrs=y.attrs)
 obtain⟨b6,h6⟩:=boolOf (x.lst=y.lst)
 obtain⟨b7,h7⟩:=boolOf (x.chs=y.chs)
 obtain⟨b8,h8⟩:=boolOf (x.refs=y.refs)
 obtain⟨b9,h9⟩:=boolOf (x.ctls=y.ctls)
 have eqt:∀(W:World) (L M:List (List UInt8)) (a u:Value) (b:Bool),repL elT W (inB W) L a->repL elT W (inB W) M u->(b=true↔L=M)->Calls Tryz.prog 51 #[a,u] W fun e w'=>e=.returned (.bool b)/\Below W.heap.size W w':=fun W L M a u b ha hu hbb=>by
  obtain⟨A,c,xs,rfl,hl,hA,hr⟩:=ha
  obtain⟨B,d,ys,rfl,hm,hB,hr'⟩:=hu
  have e1:=zBm hr
  have e2:=zBm hr'
  subst e1 e2
  have:=jequal_any W A B L.length c M.length d L M (HasP.has hA fun k hk=>hk) (HasP.has hB fun k hk=>hk) (by omega)
  have hd:b=decide (L=M):=by
   cases b with
   | true=>rw[decide_eq_true (hbb.1 rfl)]
   | false=>rw[decide_eq_false];intro e;have:=hbb.2 e;cases this
  rw[hd]
  exact this
 rw[hcx,hcy]
 refine same_walk w w2 p1 p2 cx.toArray cy.toArray #[.int .i64 x.id,.int .i64 x.kind,.int .i64 x.ver,.int .i64 x.scope,.int .i64 x.deref,.int .i64 x.size,.int .i64 x.time,.int .i64 x.target,.int .i64 x.code] #[.int .i64 y.id,.int .i64 y.kind,.int .i64 y.ver,.int .i64 y.scope,.int .i64 y.deref,.int .i64 y.size,.int .i64 y.time,.int .i64 y.target,.int .i64 y.code]
  #[.string (txt x.name),.string (txt x.pw),.string (txt x.nrdn),.string (txt x.sup),.string (txt x.attr),.string (txt x.value),.string (txt x.matched),.string (txt x.text)] #[.string (txt y.name),.string (txt y.pw),.string (txt y.nrdn),.string (txt y.sup),.string (txt y.attr),.string (txt y.value),.string (txt y.matched),.string (txt y.text)]
  #[.bool x.tonly,.bool x.delold,.bool x.hassup] #[.bool y.tonly,.bool y.delold,.bool y.hassup] (.agg #[f0,f1,f2,f3,f4,f5,f6]) (.agg #[g0,g1,g2,g3,g4,g5,g6]) va vr vl vc vk ua ul uc ur uk b1 b2 b3 b4 b5 b6 b7 b8 b9 R
  (hide (by rw[hw1];exact hw2)) (hide ⟨hp1,hp2⟩) (hide hb) (hide fun W hW=>?_) (hide fun W hW=>?_) (hide fun W hW=>?_) (hide fun W hW=>?_)
  (hide fun W hW=>loadT W _ _ ((kX W hW).cells 17 _ (by rw[<-hcx];rfl))) (hide fun W hW=>loadT W _ _ ((kY W hW).cells 17 _ (by rw[<-hcy];rfl)))
  (hide fun W hW=>loadA W _ _ ((kX W hW).cells 18 _ (by rw[<-hcx];rfl))) (hide fun W hW=>loadA W _ _ ((kY W hW).cells 18 _ (by rw[<-hcy];rfl)))
  (hide fun W hW=>loadH W _ _ ((kX W hW).cells 19 _ (by rw[<-hcx];rfl))) (hide fun W hW=>loadH W _ _ ((kY W hW).cells 19 _ (by rw[<-hcy];rfl)))
  (hide fun W hW=>loadT W _ _ ((kX W hW).cells 30 _ (by rw[<-hcx];rfl))) (hide fun W hW=>loadT W _ _ ((kY W hW).cells 30 _ (by rw[<-hcy];rfl)))
  (hide fun W hW=>loadC W _ _ ((kX W hW).cells 31 _ (by rw[<-hcx];rfl))) (hide fun W hW=>loadC W _ _ ((kY W hW).cells 31 _ (by rw[<-hcy];rfl)))
  (hide fun W hW=>by rw[<-hcx];exact numbers_any W x _ _ _ _ _ _ _ _ _ _ _ _) (hide fun W hW=>by rw[<-hcy];exact numbers_any W y _ _ _ _ _ _ _ _ _ _ _ _)
  (hide fun W hW=>by rw[<-hcx];exact texts_any W x _ _ _ _ _ _ _ _ _ _ _ _) (hide fun W hW=>by rw[<-hcy];exact texts_any W y _ _ _ _ _ _ _ _ _ _ _ _)
  (hide fun W hW=>by rw[<-hcx];exact flags_any W x _ _ _ _ _ _ _ _ _ _ _ _) (hide fun W hW=>by rw[<-hcy];exact flags_any W y _ _ _ _ _ _ _ _ _ _ _ _)
  (hide fun W hW=>jsame_any x.filt hwee y.filt W _ _ _ _ _ _ _ _ _ _ _ _ _ _ (FInP.fin (B:=W.heap.size) (fun k hk=>hk) (rX W hW).filt) (FInP.fin (B:=W.heap.size) (fun k hk=>hk) (rY W hW).filt) b4 h4)
  (hide fun W hW=>eqt W _ _ _ _ b5 (rX W hW).attrs (rY W hW).attrs h5) (hide fun W hW=>eqt W _ _ _ _ b8 (rX W hW).refs (rY W hW).refs h8)
  (hide fun W hW=>?_) (hide fun W hW=>?_) (hide fun W hW=>?_)
  (numbers_eq _ _ _ _ _ _ _ _ _ _ _ _ _ _ _ _ _ _ b1 h1) (texts_eq _ _ _ _ _ _ _ _ _ _ _ _ _ _ _ _ b2 h2) (flags_eq _ _ _ _ _ _ b3 h3)
  (hide (not_of h1 hR (by rintro rfl;exact⟨rfl,rfl,rfl,rfl,rfl,rfl,rfl,rfl,rfl⟩))) (hide (not_of h2 hR (by rintro rfl;exact⟨rfl,rfl,rfl,rfl,rfl,rfl,rfl,rfl⟩))) (hide (not_of h3 hR (by rintro rfl;exact⟨rfl,rfl,rfl⟩))) (hide (not_of h4 hR (by rintro rfl;rfl))) (hide (not_of h5 hR (by rintro rfl;rfl))) (hide (not_of h6 hR (by rintro rfl;rfl))) (hide (not_of h7 hR (by rintro rfl;rfl))) (hide (not_of h8 hR (by rintro rfl;rfl))) (hide (not_of h9 hR (by rintro rfl;rfl)))
  (hide fun q1 q2 q3 q4 q5 q6 q7 q8 q9=>hR.2 ?_)
 ·exact run_loadVar_mid W p1 0 42 cx _ (kX W hW).range Tryz.underlying42 rfl (by rw[hnx];kernel_rfl)
 ·exact run_loadVar_mid W p2 0 42 cy _ (kY W hW).range Tryz.underlying42 rfl (by rw[hny];kernel_rfl)
 ·refine run_loadVar_mid W p1 10 39 [f0,f1,f2,f3,f4,f5,f6] _ ((kX W hW).part 10 _ fun j u hu=>?_) Tryz.underlying39 rfl (by kernel_rfl)
  rw[<-hcx]
  match j,hu with
  | 0,hu=>exact hu
  | 1,hu=>exact hu
  | 2,hu=>exact hu
  | 3,hu=>exact hu
  | 4,hu=>exact hu
  | 5,hu=>exact hu
  | 6,hu=>exact hu
 ·refine run_loadVar_mid W p2 10 39 [g0,g1,g2,g3,g4,g5,g6] _ ((kY W hW).part 10 _ fun j u hu=>?_) Tryz.underlying39 rfl (by kernel_rfl)
  rw[<-hcy]
  match j,hu with
  | 0,hu=>exact hu
  | 1,hu=>exact hu
  | 2,hu=>exact hu
  | 3,hu=>exact hu
  | 4,hu=>exact hu
  | 5,hu=>exact hu
  | 6,hu=>exact hu
 ·have ha:=(rX W hW).lst
  have hu:=(rY W hW).lst
  obtain⟨A,n,c,rfl⟩:=zAt ha
  obtain⟨A',n',c',rfl⟩:=zAt hu
  exact equalfA_any W _ _ _ _ _ _ _ _ ha hu b6 h6
 ·have ha:=(rX W hW).chs
  have hu:=(rY W hW).chs
  obtain⟨A,n,c,rfl⟩:=zAt ha
  obtain⟨A',n',c',rfl⟩:=zAt hu
  exact equalfH_any W _ _ _ _ _ _ _ _ ha hu b7 h7
 ·have ha:=(rX W hW).ctls
  have hu:=(rY W hW).ctls
  obtain⟨A,n,c,rfl⟩:=zAt ha
  obtain⟨A',n',c',rfl⟩:=zAt hu
  exact equalC_any W _ _ _ _ _ _ _ _ ha hu b9 h9
 ·obtain ⟨n1,n2,n3,n4,n5,n6,n7,n8,n9⟩:=h1.1 q1
  obtain⟨t1,t2,t3,t4,t5,t6,t7,t8⟩:=h2.1 q2
  obtain⟨l1,l2,l3⟩:=h3.1 q3
  have s4:=h4.1 q4
  have s5:=h5.1 q5
  have s6:=h6.1 q6
  have s7:=h7.1 q7
  have s8:=h8.1 q8
  have s9:=h9.1 q9
  cases x
  cases y
  simp only at *
  simp only[MT.mk.injEq]
  exact⟨n1,n2,t1,t2,n3,n4,n5,n6,n7,l1,s4,s5,s6,s7,t3,l2,l3,t4,t5,t6,n8,n9,t7,t8,s8,s9⟩
open Wr
def flen (F:List Fd):Nat:=(enc F).length
theorem zAn:flen []=0:=rfl
theorem zAh (f:Fd) (F:List Fd):flen (f::F)=(Ber.fieldOf f.1 f.2).length+flen F:=by unfold flen;rw[enc,List.length_append]
theorem flen_app (F G:List Fd):flen (F++G)=flen F+flen G:=by unfold flen;rw[enc_app,List.length_append]
theorem wide_mono {a b:Nat} (h:a<=b):Ber.wide a<=Ber.wide b:=by unfold Ber.wide;split<;>split<;>(try split)<;>(try split)<;>(try split)<;>(try split)<;>omega
theorem lenOf_len (n:Nat) (h:n<=2147483647):(Ber.lenOf (n:Int)).length=if n<128 then 1 else 1+Ber.wide n:=by
 unfold Ber.lenOf
 rw[if_neg (by omega)]
 by_cases h1:n<128
 ·rw [if_pos (by omega),if_pos h1];rfl
 ·rw [if_neg (by omega),if_neg h1]
  simp[Ber.be_length]
  omega
theorem fieldOf_mono {t t':UInt8} {a b:List UInt8} (h:a.length<=b.length) (hb:b.length<=2147483647):(Ber.fieldOf t a).length<=(Ber.fieldOf t' b).length:=by
 rw[Ber.fieldOf_length,Ber.fieldOf_length,lenOf_len _ (by omega),lenOf_len _ hb]
 have:=wide_mono h
 split<;>split<;>omega
theorem un_less (l:List UInt8):Ber.un l<256 ^ l.length:=by
 have h:∀(l:List UInt8) (n k:Nat),n<256 ^ k->l.foldl (fun n c=>n*256+c.toNat) n<256 ^ (k+l.length):=by
  intro l
  induction l with
  | nil=>intro n k h;simpa using h
  | cons a r ih=>
   intro n k h
   have:=a.toNat_lt
   have h2:=ih (n*256+a.toNat) (k+1) (by rw[Nat.pow_succ];omega)
   rw[List.foldl_cons,List.length_cons]
   rwa [show k+1+r.length=k+(r.length+1) by omega] at h2
 have:=h l 0 0 (by simp)
 unfold Ber.un
 simpa using this
theorem wide_of {n k:Nat} (h:n<256 ^ k) (h1:1<=k):Ber.wide n<=k\/4<k:=by
 rcases Nat.lt_or_ge 4 k with h4 | h4
 ·exact .inr h4
 ·left
  have:k=1\/k=2\/k=3\/k=4:=by omega
  unfold Ber.wide
  rcases this with rfl | rfl | rfl | rfl<;>(split<;>(try split)<;>(try split)<;>omega)
theorem cutLen_short (r:List UInt8) (h:(Ber.cutLen r).2.2=0) (hn:(Ber.cutLen r).1<=2147483647):(Ber.lenOf ((Ber.cutLen r).1:Int)).length<=(Ber.cutLen r).2.1/\(Ber.cutLen r).2.1<=r.length:=by
 cases r with
 | nil=>simp[Ber.cutLen] at h
 | cons f r=>
  have hf:=f.toNat_lt
  rw[Ber.cutLen] at h hn ⊢
  by_cases h1:f.toNat<128
  ·rw [if_pos h1]
   simp only
   rw[lenOf_len _ (by omega),if_pos h1]
   simp
  ·rw [if_neg h1] at h hn ⊢
   by_cases h2:f.toNat-128<1\/4<f.toNat-128
   ·rw [if_pos h2] at h;simp at h
   ·rw [if_neg h2] at h hn ⊢
    by_cases h3:r.length<f.toNat-128
    ·rw [if_pos h3] at h;simp at h
    ·rw [if_neg h3] at hn ⊢
     simp only at hn ⊢
     have hu:=un_less (r.take (f.toNat-128))
     rw[List.length_take,Nat.min_eq_left (by omega)] at hu
     have hw:=wide_of hu (by omega)
     rw[lenOf_len _ hn,List.length_cons]
     split<;>omega
theorem takeOf_short (rem:List UInt8) (hne:rem≠[]) (h:(Ber.takeOf rem).2.2.2=0) (hl:rem.length<=2147483647):
  (Ber.fieldOf (UInt8.ofNat (Ber.takeOf rem).1) (Ber.takeOf rem).2.1).length+(Ber.takeOf rem).2.2.1.length<=rem.length:=by
 cases rem with
 | nil=>exact absurd rfl hne
 | cons t r=>
  rw[Ber.fieldOf_length]
  rw[Ber.takeOf] at h ⊢
  by_cases h1:t.toNat % 32=31
  ·rw [if_pos h1] at h;simp at h
  ·rw [if_neg h1] at h ⊢
   by_cases h2:(Ber.cutLen r).2.2≠0
   ·rw [if_pos h2] at h;exact absurd h h2
   ·rw [if_neg h2] at h ⊢
    have h2:(Ber.cutLen r).2.2=0:=by simpa using h2
    by_cases h3:(Ber.cutRest r).length<(Ber.cutLen r).1
    ·rw [if_pos h3] at h;simp at h
    ·rw [if_neg h3] at h ⊢
     simp only[List.length_cons] at hl
     have hrl:=Ber.cutRest_le r
     have hk:=cutLen_short r h2 (by omega)
     have hr:(Ber.cutRest r).length=r.length-(Ber.cutLen r).2.1:=by rw[Ber.cutRest,if_pos h2,List.length_drop]
     simp only[List.length_take,List.length_drop,List.length_cons]
     rw[Nat.min_eq_left (by omega)]
     omega
theorem listGo_short:∀(n:Nat) (T:List UInt8) (L:List (List UInt8)) (rem:List UInt8),T.length=L.length->rem.length<=2147483647->rem.length<=n->(Ber.listGo n T L rem).2.2=0->
  flen ((Ber.listGo n T L rem).1.zip (Ber.listGo n T L rem).2.1)<=flen (T.zip L)+rem.length
 | 0,T,L,rem,hT,hl,hn,h=>by simp[Ber.listGo]
 | n+1,T,L,rem,hT,hl,hn,h=>by
  rw[Ber.listGo] at h ⊢
  by_cases hr:rem=[]
  ·rw [if_pos hr];simp
  ·rw [if_neg hr] at h ⊢
   by_cases hc:(Ber.takeOf rem).2.2.2≠0
   ·rw [if_pos hc] at h;exact absurd h hc
   ·rw [if_neg hc] at h ⊢
    have h1:=takeOf_short rem hr (by simpa using hc) hl
    have h2:=(Ber.takeOf_less rem hr).1
    have:=listGo_short n (T++[UInt8.ofNat (Ber.takeOf rem).1]) (L++[(Ber.takeOf rem).2.1]) (Ber.takeOf rem).2.2.1 (by simp[hT]) (by omega) (by omega) h
    rw[List.zip_append hT,flen_app] at this
    simp only[List.zip_cons_cons,List.zip_nil_left,zAh,zAn] at this
    omega
theorem fields_short {c:List UInt8} {F:List Fd} (h:Rd.fieldsOf c=some F) (hl:c.length<=2147483647):flen F<=c.length:=by
 unfold Rd.fieldsOf at h
 split at h
 ·rename_i h0
  have:=listGo_short c.length [] [] c rfl hl (Nat.le_refl _) h0
  simp only[Option.some.injEq] at h
  rw[h] at this
  simpa[zAn] using this
 ·cases h
def Good {α:Type} (p:Rdr α) (ok:α->Prop) (xs:α->List Fd):Prop:=∀F x G,flen F<=16384->p F=some (x,G)->ok x/\flen (xs x)+flen G<=flen F
theorem take_some {t:UInt8} {F G:List Fd} {c:List UInt8} (h:Rd.takeR t F=some (c,G)):F=(t,c)::G:=by
 cases F with
 | nil=>cases h
 | cons f r=>
  obtain⟨t',x⟩:=f
  by_cases ht:t'=t
  ·rw [show Rd.takeR t ((t',x)::r)=some (x,r) by simp[Rd.takeR,ht]] at h
   cases h;rw[ht]
  ·rw [show Rd.takeR t ((t',x)::r)=none by simp[Rd.takeR,ht]] at h
   cases h
theorem flen_content {t:UInt8} {c:List UInt8} {r:List Fd}:c.length<=flen ((t,c)::r):=by rw[zAh,Ber.fieldOf_length];simp only;omega
theorem tagged_good (t:UInt8):Good (Rd.taggedR t) (fun s=>s.length<=1000) (fun s=>[(t,s)]):=fun F x G hl h=>by
 unfold Rd.taggedR at h
 cases ht:Rd.takeR t F with
 | none=>rw[ht] at h;cases h
 | some q=>
  obtain⟨c,r⟩:=q
  rw[ht] at h
  obtain rfl:=take_some ht
  simp only at h
  split at h
  ·rename_i hc
   cases h
   refine⟨hc,?_⟩
   rw[zAh,zAh,zAn]
   omega
  ·cases h
theorem zA1:Good Rd.textR (fun s=>s.length<=1000) (fun s=>[textF s]):=tagged_good 4
theorem num_good (t:UInt8) (most:Int):Good (Rd.numR t most) (fun n=>0<=n/\n<=most) (fun n=>[numF t n]):=fun F x G hl h=>by
 unfold Rd.numR at h
 cases ht:Rd.takeR t F with
 | none=>rw[ht] at h;cases h
 | some q=>
  obtain⟨c,r⟩:=q
  rw[ht] at h
  obtain rfl:=take_some ht
  simp only at h
  split at h
  ·rename_i hc
   cases h
   refine⟨hc.2,?_⟩
   have he:Ber.intOfs (Ber.toInt c).1=c:=by
    have h0:=hc.1
    unfold Ber.toInt at h0 ⊢
    split at h0
    ·rename_i hq
     rw[if_pos hq]
     exact (Ber.intOfs_sv c hq.1 hq.2.1).2 hq.2.2
    ·simp at h0
   simp only[zAh,zAn,numF,he]
   omega
  ·cases h
theorem flag_good:Good Rd.flagR (fun _=>True) (fun b=>[flagF b]):=fun F x G hl h=>by
 unfold Rd.flagR at h
 cases ht:Rd.takeR 1 F with
 | none=>rw[ht] at h;cases h
 | some q=>
  obtain⟨c,r⟩:=q
  rw[ht] at h
  obtain rfl:=take_some ht
  simp only at h
  split at h
  ·rename_i hc
   cases h
   refine⟨trivial,?_⟩
   have h1:c.length=1:=by
    cases c with
    | nil=>simp[Ber.toBool] at hc
    | cons b r=>
     cases r with
     | nil=>rfl
     | cons b2 r=>simp[Ber.toBool] at hc
   simp only[zAh,zAn,flagF,Ber.fieldOf_length,h1,List.length_singleton]
   omega
  ·cases h
theorem inner_some {α:Type} {t:UInt8} {p:Rdr α} {F G:List Fd} {x:α} (h:Rd.innerR t p F=some (x,G)):∃c H,F=(t,c)::G/\Rd.fieldsOf c=some H/\p H=some (x,[]):=by
 unfold Rd.innerR at h
 cases ht:Rd.takeR t F with
 | none=>rw[ht] at h;cases h
 | some q=>
  obtain⟨c,r⟩:=q
  rw[ht] at h
  obtain rfl:=take_some ht
  simp only[Rd.wholeR] at h
  cases hf:Rd.fieldsOf c with
  | none=>rw[hf] at h;simp at h
  | some H=>
   rw[hf] at h
   simp only at h
   cases hp:p H with
   | none=>rw[hp] at h;simp at h
   | some z=>
    obtain⟨y,K⟩:=z
    rw[hp] at h
    cases K with
    | nil=>
     simp only[Option.map_some,Option.some.injEq,Prod.mk.injEq] at h
     obtain⟨rfl,rfl⟩:=h
     exact⟨c,H,rfl,hf,hp⟩
    | cons k K=>simp at h
theorem zBq {α:Type} {p:Rdr α} {ok:α->Prop} {xs:α->List Fd} (t:UInt8) (hp:Good p ok xs):Good (Rd.innerR t p) ok (fun x=>[(t,enc (xs x))]):=fun F x G hl h=>by
 obtain⟨c,H,rfl,h1,h2⟩:=inner_some h
 have hc:=flen_content (t:=t) (c:=c) (r:=G)
 have hH:=fields_short h1 (by omega)
 obtain⟨q1,q2⟩:=hp H x [] (by omega) h2
 refine⟨q1,?_⟩
 rw[zAh,zAh,zAn]
 have:=fieldOf_mono (t:=t) (t':=t) (a:=enc (xs x)) (b:=c) (by rw[zAn] at q2;show flen (xs x)<=_;omega) (by omega)
 simp only
 omega
theorem and_good {α β γ:Type} {p:Rdr α} {q:Rdr β} {f:α->β->γ} {ok1:α->Prop} {ok2:β->Prop} {ok:γ->Prop} {xs:α->List Fd} {ys:β->List Fd} {zs:γ->List Fd} (hp:Good p ok1 xs) (hq:Good q ok2 ys)
  (ho:∀x y,ok1 x->ok2 y->ok (f x y)) (hz:∀x y,flen (zs (f x y))<=flen (xs x)+flen (ys y)):Good (Rd.andR p q f) ok zs:=fun F x G hl h=>by
 unfold Rd.andR at h
 cases h1:p F with
 | none=>rw[h1] at h;cases h
 | some z=>
  obtain⟨x1,G1⟩:=z
  rw[h1] at h
  simp only at h
  have a1:=hp F x1 G1 hl h1
  cases h2:q G1 with
  | none=>rw[h2] at h;cases h
  | some z=>
   obtain⟨x2,G2⟩:=z
   rw[h2] at h
   cases h
   have a2:=hq G1 x2 _ (by omega) h2
   have:=hz x1 x2
   exact⟨ho _ _ a1.1 a2.1,by omega⟩
theorem manyGo_good {α:Type} {p:Rdr α} {ok:α->Prop} {xF:α->Fd} (hp:Good p ok (fun x=>[xF x])):∀(n:Nat) (F:List Fd) (acc l:List α),flen F<=16384->Rd.manyGo p n F acc=some l->∃r,l=acc++r/\(∀x∈r,ok x)/\flen (r.map xF)<=flen F
 | n,[],acc,l,hl,h=>by
  cases n<;>(simp only[Rd.manyGo,Option.some.injEq] at h;exact⟨[],by simp[h],by simp,by simp[zAn]⟩)
 | 0,f::F,acc,l,hl,h=>by simp[Rd.manyGo] at h
 | n+1,f::F,acc,l,hl,h=>by
  rw[Rd.manyGo] at h
  cases h1:p (f::F) with
  | none=>rw[h1] at h;cases h
  | some z=>
   obtain⟨x,G⟩:=z
   rw[h1] at h
   simp only at h
   have a:=hp _ x G hl h1
   obtain⟨r,e,h2,h3⟩:=manyGo_good hp n G _ l (by omega) h
   refine⟨x::r,by rw[e];simp,fun y hy=>?_,?_⟩
   ·rcases List.mem_cons.1 hy with rfl | hy
    ·exact a.1
    ·exact h2 y hy
   ·rw [List.map_cons,zAh]
    have h4:=a.2
    simp only[zAh,zAn] at h4
    simp only[zAh]
    omega
theorem many_good {α:Type} {p:Rdr α} {ok:α->Prop} {xF:α->Fd} (hp:Good p ok (fun x=>[xF x])):Good (Rd.manyR p) (fun l=>∀x∈l,ok x) (fun l=>l.map xF):=fun F l G hl h=>by
 unfold Rd.manyR at h
 cases h1:Rd.manyGo p F.length F [] with
 | none=>rw[h1] at h;cases h
 | some r=>
  rw[h1] at h
  simp only[Option.map_some,Option.some.injEq,Prod.mk.injEq] at h
  obtain⟨rfl,rfl⟩:=h
  obtain⟨r',e,h2,h3⟩:=manyGo_good hp _ F [] r hl h1
  rw[List.nil_append] at e
  subst e
  exact⟨h2,by rw[zAn];omega⟩
theorem list_good {α:Type} {p:Rdr α} {ok:α->Prop} {xF:α->Fd} (t:UInt8) (hp:Good p ok (fun x=>[xF x])):Good (Rd.listR t p) (fun l=>∀x∈l,ok x) (fun l=>[(t,enc (l.map xF))]):=zBq t (many_good hp)
theorem some_good {α:Type} {p:Rdr α} {ok:α->Prop} {xF:α->Fd} (t:UInt8) (hp:Good p ok (fun x=>[xF x])):Good (Rd.someR t p) (fun l=>l≠[]/\∀x∈l,ok x) (fun l=>[(t,enc (l.map xF))]):=fun F l G hl h=>by
 unfold Rd.someR at h
 cases h1:Rd.listR t p F with
 | none=>rw[h1] at h;cases h
 | some q=>
  obtain⟨r,K⟩:=q
  rw[h1] at h
  cases r with
  | nil=>cases h
  | cons x r=>
   cases h
   have:=list_good t hp F (x::r) _ hl h1
   exact⟨⟨by simp,this.1⟩,this.2⟩
theorem attr_good:Good Rd.attrR okA (fun a=>[attrF a]):=
 zBq 0x30 (and_good (ok:=okA) (zs:=fun a=>[textF a.1,(0x31,enc (a.2.map textF))]) zA1 (list_good 0x31 zA1) (fun x y h1 h2=>⟨h1,h2⟩) (fun x y=>by simp only[zAh,zAn];omega))
theorem change_good:Good Rd.changeR okH (fun a=>[changeF a]):=
 zBq 0x30 (and_good (ok:=okH) (zs:=fun c=>[numF 0x0a c.1,attrF c.2]) (num_good 0x0a 3) attr_good (fun x y h1 h2=>⟨h1.1,h1.2,h2⟩) (fun x y=>by simp only[zAh,zAn];omega))
theorem crit_good:Good Rd.critR (fun _=>True) (fun b=>if b then [flagF true] else []):=fun F x G hl h=>by
 unfold Rd.critR at h
 split at h
 ·have:=flag_good F x G hl h
  refine⟨trivial,?_⟩
  cases x with
  | true=>exact this.2
  | false=>have:=this.2;simp only[zAh,zAn,Bool.false_eq_true,if_false] at this ⊢;omega
 ·cases h
  exact⟨trivial,by simp[zAn]⟩
theorem value_good:Good Rd.valueR (fun v=>v.2.length<=1000/\(v.1=false->v.2=[])) (fun v=>if v.1 then [textF v.2] else []):=fun F x G hl h=>by
 unfold Rd.valueR at h
 split at h
 ·cases h
  exact⟨⟨by simp,fun _=>rfl⟩,by simp[zAn]⟩
 ·cases ht:Rd.textR F with
  | none=>rw[ht] at h;cases h
  | some q=>
   obtain⟨s,r⟩:=q
   rw[ht] at h
   cases h
   have:=zA1 F s _ hl ht
   exact⟨⟨this.1,fun h=>by cases h⟩,this.2⟩
theorem control_good:Good Rd.controlR okC (fun c=>[controlF c]):=by
 have h1:Good (Rd.andR Rd.textR Rd.critR Prod.mk) (fun a=>a.1.length<=1000) (fun a=>textF a.1::(if a.2 then [flagF true] else [])):=
  and_good zA1 crit_good (fun x y h1 h2=>h1) (fun x y=>by simp only[zAh,zAn];omega)
 exact zBq 0x30 (and_good (ok:=okC) (zs:=fun c=>textF c.oid::(critF c++valF c)) h1 value_good (fun x y h1 h2=>⟨h1,h2.1,h2.2⟩) (fun x y=>by simp only[zAh,flen_app,critF,valF];omega))
end Go.Proofs.YtcpjmgfloimfhaaGreat
namespace Go.Proofs.YtcpjmgfloimfhaaGreat
open Go.RowKit
open Wr
theorem piece_good (t:UInt8):Good (Rd.pieceR t) (fun s=>s≠[]/\s.length<=1000) (fun s=>[(t,s)]):=fun F x G hl h=>by
 unfold Rd.pieceR at h
 cases ht:Rd.taggedR t F with
 | none=>rw[ht] at h;cases h
 | some q=>
  obtain⟨s,r⟩:=q
  rw[ht] at h
  cases s with
  | nil=>cases h
  | cons y s=>
   cases h
   have:=tagged_good t F _ _ hl ht
   exact⟨⟨by simp,this.1⟩,this.2⟩
theorem opt_good (t:UInt8):Good (Rd.optR t) (fun s=>s.length<=1000) (optF t):=fun F x G hl h=>by
 unfold Rd.optR at h
 split at h
 ·have a:=piece_good t F x G hl h
  refine⟨a.1.2,?_⟩
  unfold optF
  rw[if_neg a.1.1]
  exact a.2
 ·cases h
  exact⟨by simp,by simp[optF,zAn]⟩
theorem anyGo_good:∀(n:Nat) (F:List Fd) (acc l:List (List UInt8)) (G:List Fd),flen F<=16384->Rd.anyGo n F acc=some (l,G)->∃r,l=acc++r/\flen (r.map anyF)+flen G<=flen F
 | 0,F,acc,l,G,hl,h=>by
  unfold Rd.anyGo at h
  split at h
  ·cases h
  ·cases h;exact⟨[],by simp,by simp[zAn]⟩
 | n+1,F,acc,l,G,hl,h=>by
  rw[Rd.anyGo] at h
  split at h
  ·cases h1:Rd.pieceR 0x81 F with
   | none=>rw[h1] at h;cases h
   | some z=>
    obtain⟨x,K⟩:=z
    rw[h1] at h
    simp only at h
    have a:=piece_good 0x81 _ x K hl h1
    obtain⟨r,e,h3⟩:=anyGo_good n K _ l G (by omega) h
    refine⟨x::r,by rw[e];simp,?_⟩
    have h4:=a.2
    rw[List.map_cons,zAh]
    simp only[zAh,zAn,anyF] at h4 ⊢
    omega
  ·cases h;exact⟨[],by simp,by simp[zAn]⟩
theorem any_good:Good Rd.anyR (fun _=>True) (fun l=>l.map anyF):=fun F x G hl h=>by
 obtain⟨r,e,h1⟩:=anyGo_good _ F [] x G hl h
 rw[List.nil_append] at e
 subst e
 exact⟨trivial,h1⟩
theorem pieces_good:Good Rd.piecesR (fun _=>True) (fun p=>optF 0x80 p.1++(p.2.1.map anyF++optF 0x82 p.2.2)):=
 and_good (xs:=fun (a:List UInt8 × List (List UInt8))=>optF 0x80 a.1++a.2.map anyF) (and_good (opt_good 0x80) any_good (ok:=fun _=>True) (zs:=fun (a:List UInt8 × List (List UInt8))=>optF 0x80 a.1++a.2.map anyF) (fun _ _ _ _=>trivial) (fun x y=>by simp only[flen_app];omega)) (opt_good 0x82) (fun _ _ _ _=>trivial)
  (fun x y=>by simp only[flen_app];omega)
def g4:FT->List Fd | .mk k a v f l an ps=>[textF a,(0x30,enc (optF 0x80 f++(an.map anyF++optF 0x82 l)))]
def g3:FT->List Fd | .mk k a v f l an ps=>[textF a,textF v]
theorem zBs (t t':UInt8) (c:List UInt8):(Ber.fieldOf t c).length=(Ber.fieldOf t' c).length:=by rw[Ber.fieldOf_length,Ber.fieldOf_length]
theorem filter_good:∀d,Good (Rd.filterR d) (fun _=>True) (fun t=>[filterF t])
 | 0=>fun F x G hl h=>by cases h
 | d+1=>fun F x G hl h=>by
  have ih:=filter_good d
  refine⟨trivial,?_⟩
  cases F with
  | nil=>cases h
  | cons f r=>
   obtain⟨t,c⟩:=f
   rw[Rd.filterR] at h
   simp only at h
   by_cases h7:t=0x87
   ·rw [if_pos h7] at h
    cases ht:Rd.taggedR t ((t,c)::r) with
    | none=>rw[ht] at h;cases h
    | some q=>
     obtain⟨s,K⟩:=q
     rw[ht] at h
     cases h
     have a:=tagged_good t _ s _ hl ht
     have e:(filterF (.mk 7 s [] [] [] [] []))=(0x87,s):=by simp[filterF,filterG]
     simp only[zAh,zAn,e] at a ⊢
     have:=zBs t 0x87 s
     omega
   ·rw [if_neg h7] at h
    by_cases h0:t=0xa0\/t=0xa1\/t=0xa2
    ·rw [if_pos h0] at h
     have hg:Good (fun G=>(Rd.manyR (Rd.filterR d) G).map fun p=>(FT.mk ((t.toNat:Int)-160) [] [] [] [] [] p.1,p.2)) (fun x=>∃ps,x=FT.mk ((t.toNat:Int)-160) [] [] [] [] [] ps) (fun x=>x.parts.map filterF):=fun F x G hl h=>by
      replace h:(Rd.manyR (Rd.filterR d) F).map (fun p=>(FT.mk ((t.toNat:Int)-160) [] [] [] [] [] p.1,p.2))=some (x,G):=h
      cases hm:Rd.manyR (Rd.filterR d) F with
      | none=>rw[hm] at h;cases h
      | some q=>
       obtain⟨ps,K⟩:=q
       rw[hm] at h
       cases h
       exact⟨⟨ps,rfl⟩,(many_good ih F ps _ hl hm).2⟩
     have a:=zBq t hg _ x G hl h
     obtain⟨⟨ps,rfl⟩,a2⟩:=a
     have e:(filterF (FT.mk ((t.toNat:Int)-160) [] [] [] [] [] ps)).2=enc (ps.map filterF):=by
      rcases h0 with rfl | rfl | rfl<;>simp[filterF,filterG,filtersF_map]
     simp only[zAh,zAn,FT.parts] at a2 ⊢
     rw[e]
     rw[zBs _ t]
     omega
    ·rw [if_neg h0] at h
     by_cases h4:t=0xa4
     ·rw [if_pos h4] at h
      have hg:Good (Rd.andR Rd.textR (Rd.innerR 0x30 Rd.piecesR) fun a p=>FT.mk 4 a [] p.1 p.2.2 p.2.1 []) (fun x=>∃(a:List UInt8) (p:List UInt8 × List (List UInt8) × List UInt8),x=FT.mk 4 a [] p.1 p.2.2 p.2.1 []) g4:=
       and_good zA1 (zBq 0x30 pieces_good) (fun x y _ _=>⟨x,y,rfl⟩) (fun x y=>by simp only[g4,zAh,zAn];omega)
      have a:=zBq t hg _ x G hl h
      obtain⟨⟨s,p,rfl⟩,a2⟩:=a
      have e:(filterF (FT.mk 4 s [] p.1 p.2.2 p.2.1 [])).2=enc (g4 (FT.mk 4 s [] p.1 p.2.2 p.2.1 [])):=by
       simp[filterF,filterG,g4]
      simp only[zAh,zAn] at a2 ⊢
      rw[e,zBs _ t]
      omega
     ·rw [if_neg h4] at h
      by_cases h3:t=0xa3\/t=0xa5\/t=0xa6\/t=0xa8
      ·rw [if_pos h3] at h
       have hg:Good (Rd.andR Rd.textR Rd.textR fun a v=>FT.mk ((t.toNat:Int)-160) a v [] [] [] []) (fun x=>∃a v,x=FT.mk ((t.toNat:Int)-160) a v [] [] [] []) g3:=
        and_good zA1 zA1 (fun x y _ _=>⟨x,y,rfl⟩) (fun x y=>by simp only[g3,zAh,zAn];omega)
       have a:=zBq t hg _ x G hl h
       obtain⟨⟨s,v,rfl⟩,a2⟩:=a
       have e:(filterF (FT.mk ((t.toNat:Int)-160) s v [] [] [] [])).2=enc (g3 (FT.mk ((t.toNat:Int)-160) s v [] [] [] [])):=by
        rcases h3 with rfl | rfl | rfl | rfl<;>simp[filterF,filterG,g3]
       simp only[zAh,zAn] at a2 ⊢
       rw[e,zBs _ t]
       omega
      ·rw [if_neg h3] at h;cases h
end Go.Proofs.YtcpjmgfloimfhaaGreat
namespace Go.Proofs.YtcpjmgfloimfhaaGreat
open Go.RowKit
open Wr
def keptM (m:MT):MT:=
 if m.kind=0 then { id:=m.id,kind:=m.kind,ver:=m.ver,name:=m.name,pw:=m.pw,ctls:=m.ctls }
 else if m.kind=3 then { id:=m.id,kind:=m.kind,name:=m.name,scope:=m.scope,deref:=m.deref,size:=m.size,time:=m.time,tonly:=m.tonly,filt:=m.filt,attrs:=m.attrs,ctls:=m.ctls }
 else if m.kind=6 then { id:=m.id,kind:=m.kind,name:=m.name,chs:=m.chs,ctls:=m.ctls }
 else if m.kind=4\/m.kind=8 then { id:=m.id,kind:=m.kind,name:=m.name,lst:=m.lst,ctls:=m.ctls }
 else if m.kind=10 then { id:=m.id,kind:=m.kind,name:=m.name,ctls:=m.ctls }
 else if m.kind=12 then { id:=m.id,kind:=m.kind,name:=m.name,nrdn:=m.nrdn,delold:=m.delold,hassup:=m.hassup,sup:=if m.hassup then m.sup else [],ctls:=m.ctls }
 else if m.kind=14 then { id:=m.id,kind:=m.kind,name:=m.name,attr:=m.attr,value:=m.value,ctls:=m.ctls }
 else if m.kind=16 then { id:=m.id,kind:=m.kind,target:=m.target,ctls:=m.ctls }
 else if m.kind=1\/m.kind=5\/m.kind=7\/m.kind=9\/m.kind=11\/m.kind=13\/m.kind=15\/m.kind=24 then { id:=m.id,kind:=m.kind,code:=m.code,matched:=m.matched,text:=m.text,refs:=m.refs,ctls:=m.ctls }
 else if m.kind=19 then { id:=m.id,kind:=m.kind,refs:=m.refs,ctls:=m.ctls }
 else { id:=m.id,kind:=m.kind,ctls:=m.ctls }
def knownK (k:Int):Prop:=(0<=k/\k<=16)\/k=19\/k=24
def in31 (n:Int):Prop:=0<=n/\n<=2147483647
structure Bounds (m:MT):Prop where
 ints:in31 m.id/\in31 m.size/\in31 m.time/\in31 m.target/\in31 m.code
 ver:0<=m.ver/\m.ver<=127
 scope:0<=m.scope/\m.scope<=2
 deref:0<=m.deref/\m.deref<=3
 filt:m.kind=3->m.filt.formed=true
 refs0:m.kind=19->m.refs≠[]
 texts:m.name.length<=1000/\m.pw.length<=1000/\m.nrdn.length<=1000/\m.sup.length<=1000/\m.attr.length<=1000/\m.value.length<=1000/\m.matched.length<=1000/\m.text.length<=1000
 attrs:∀s∈m.attrs,s.length<=1000
 refs:∀s∈m.refs,s.length<=1000
 lst:∀a∈m.lst,okA a
 chs:∀c∈m.chs,okH c
 ctls:∀c∈m.ctls,okC c
structure FormedM (m:MT):Prop where
 known:knownK m.kind
 kept:keptM m=m
 ok:Bounds m
theorem kept_zero {m:MT} (h:keptM m=m):(m.kind≠0->m.ver=0/\m.pw=[])/\(m.kind≠3->m.scope=0/\m.deref=0/\m.size=0/\m.time=0/\m.tonly=false/\m.filt=.mk 0 [] [] [] [] [] []/\m.attrs=[])/\
  (m.kind≠6->m.chs=[])/\(¬(m.kind=4\/m.kind=8)->m.lst=[])/\(¬(m.kind=0\/m.kind=3\/m.kind=6\/m.kind=4\/m.kind=8\/m.kind=10\/m.kind=12\/m.kind=14)->m.name=[])/\
  (m.kind≠12->m.nrdn=[]/\m.delold=false/\m.hassup=false/\m.sup=[])/\(m.hassup=false->m.sup=[])/\(m.kind≠14->m.attr=[]/\m.value=[])/\(m.kind≠16->m.target=0)/\
  (¬(m.kind=1\/m.kind=5\/m.kind=7\/m.kind=9\/m.kind=11\/m.kind=13\/m.kind=15\/m.kind=24)->m.code=0/\m.matched=[]/\m.text=[])/\
  (¬(m.kind=1\/m.kind=5\/m.kind=7\/m.kind=9\/m.kind=11\/m.kind=13\/m.kind=15\/m.kind=24\/m.kind=19)->m.refs=[]):=by
 unfold keptM at h
 rw[<-h]
 by_cases h0:m.kind=0
 ·simp [h0]
 by_cases h3:m.kind=3
 ·simp [h3]
 by_cases h6:m.kind=6
 ·simp [h6]
 by_cases h4:m.kind=4\/m.kind=8
 ·rcases h4 with h4 | h4<;>simp[h4]
 by_cases h10:m.kind=10
 ·simp [h10]
 by_cases h12:m.kind=12
 ·simp [h12]
  intro a b
  rw[a] at b
  cases b
 by_cases h14:m.kind=14
 ·simp [h14]
 by_cases h16:m.kind=16
 ·simp [h16]
 by_cases h1:m.kind=1\/m.kind=5\/m.kind=7\/m.kind=9\/m.kind=11\/m.kind=13\/m.kind=15\/m.kind=24
 ·rcases h1 with h1 | h1 | h1 | h1 | h1 | h1 | h1 | h1<;>simp[h1]
 by_cases h19:m.kind=19
 ·simp [h19]
 simp[h0,h3,h6,h4,h10,h12,h14,h16,h1,h19]
abbrev ofK (i k:Int):MT:={ id:=i,kind:=k }
end Go.Proofs.YtcpjmgfloimfhaaGreat
namespace Go.Proofs.YtcpjmgfloimfhaaGreat
open Go.RowKit
open Wr
theorem zA2 {a b:Rd.MR} {m m2:MT} {F H:List Fd} (h:Rd.thenR a b m F=some (m2,H)):∃m1 G,a m F=some (m1,G)/\b m1 G=some (m2,H):=by
 unfold Rd.thenR at h
 cases h1:a m F with
 | none=>rw[h1] at h;cases h
 | some q=>
  obtain⟨m1,G⟩:=q
  rw[h1] at h
  exact⟨m1,G,rfl,h⟩
theorem zAw {α:Type} {p:Rdr α} {u:MT->α->MT} {m m':MT} {F G:List Fd} (h:Rd.updR p u m F=some (m',G)):∃x,p F=some (x,G)/\m'=u m x:=by
 unfold Rd.updR at h
 cases h1:p F with
 | none=>rw[h1] at h;cases h
 | some q=>
  obtain⟨x,K⟩:=q
  rw[h1] at h
  simp only[Option.map_some,Option.some.injEq,Prod.mk.injEq] at h
  obtain⟨rfl,rfl⟩:=h
  exact⟨x,rfl,rfl⟩
structure Fine (i k:Int) (n:Nat) (m:MT):Prop where
 id:m.id=i
 kind:m.kind=k
 ctls:m.ctls=[]
 kept:keptM m=m
 ok:Bounds m
 room:flen (contentF m)<=n
theorem zAq {α:Type} {p:Rdr α} {ok:α->Prop} {xs:α->List Fd} {F G:List Fd} {x:α} (hp:Good p ok xs) (h:p F=some (x,G)) (hl:flen F<=16384):ok x/\flen (xs x)+flen G<=flen F/\flen G<=16384:=by
 have:=hp F x G hl h
 exact⟨this.1,this.2,by omega⟩
theorem zBh {i k:Int} (hi:in31 i) (h3:k≠3) (h19:k≠19):Bounds (ofK i k):=by
 have z:in31 0:=⟨by omega,by omega⟩
 exact⟨⟨hi,z,z,z,z⟩,⟨by simp,by simp⟩,⟨by simp,by simp⟩,⟨by simp,by simp⟩,fun h=>absurd h h3,fun h=>absurd h h19,⟨by simp,by simp,by simp,by simp,by simp,by simp,by simp,by simp⟩,by simp,by simp,by simp,by simp,by simp⟩
theorem goodC_unbind (i:Int) (hi:in31 i) (F:List Fd) (m:MT) (hl:flen F<=16384) (h:Rd.contentR (ofK i 2) F=some (m,[])):Fine i 2 (flen F) m:=by
 replace h:some (ofK i 2,F)=some (m,[]):=h
 simp only[Option.some.injEq,Prod.mk.injEq] at h
 obtain⟨rfl,rfl⟩:=h
 exact⟨rfl,rfl,rfl,by simp[keptM],zBh hi (by omega) (by omega),by simp[contentF]⟩
theorem goodC_bind (i:Int) (hi:in31 i) (F:List Fd) (m:MT) (hl:flen F<=16384) (h:Rd.contentR (ofK i 0) F=some (m,[])):Fine i 0 (flen F) m:=by
 replace h:Rd.bindR (ofK i 0) F=some (m,[]):=h
 obtain⟨m2,G2,h,e3⟩:=zA2 h
 obtain⟨m1,G1,h,e2⟩:=zA2 h
 have e1:=h
 obtain⟨x1,q1,rfl⟩:=zAw e1
 obtain⟨o1,r1,l1⟩:=zAq (num_good 2 127) q1 hl
 obtain⟨x2,q2,rfl⟩:=zAw e2
 obtain⟨o2,r2,l2⟩:=zAq zA1 q2 l1
 obtain⟨x3,q3,rfl⟩:=zAw e3
 obtain⟨o3,r3,l3⟩:=zAq (tagged_good 0x80) q3 l2
 refine⟨rfl,rfl,rfl,by simp[keptM],{ (zBh (k:=0) hi (by omega) (by omega)) with ver:=o1,texts:=⟨o2,o3,(by simp),(by simp),(by simp),(by simp),(by simp),(by simp)⟩ },?_⟩
 change flen [numF 2 x1,textF x2,(0x80,x3)]<=flen F
 simp only[zAh,zAn] at r1 r2 r3 ⊢
 omega
theorem formedR_good:Good Rd.formedR (fun t=>t.formed=true) (fun t=>[filterF t]):=fun F x G hl h=>by
 unfold Rd.formedR at h
 cases h1:Rd.filterR 20 F with
 | none=>rw[h1] at h;cases h
 | some q=>
  obtain⟨t,r⟩:=q
  rw[h1] at h
  simp only at h
  split at h
  ·rename_i hf
   cases h
   exact⟨hf,(filter_good 20 F _ _ hl h1).2⟩
  ·cases h
theorem goodC_search (i:Int) (hi:in31 i) (F:List Fd) (m:MT) (hl:flen F<=16384) (h:Rd.contentR (ofK i 3) F=some (m,[])):Fine i 3 (flen F) m:=by
 replace h:Rd.searchR (ofK i 3) F=some (m,[]):=h
 obtain⟨m7,G7,h,e8⟩:=zA2 h
 obtain⟨m6,G6,h,e7⟩:=zA2 h
 obtain⟨m5,G5,h,e6⟩:=zA2 h
 obtain⟨m4,G4,h,e5⟩:=zA2 h
 obtain⟨m3,G3,h,e4⟩:=zA2 h
 obtain⟨m2,G2,h,e3⟩:=zA2 h
 obtain⟨m1,G1,h,e2⟩:=zA2 h
 have e1:=h
 obtain⟨x1,q1,d1⟩:=zAw e1
 replace d1:m1=({ id:=i,kind:=3,name:=x1 }:MT):=d1
 subst d1
 obtain⟨o1,r1,l1⟩:=zAq zA1 q1 hl
 obtain⟨x2,q2,d2⟩:=zAw e2
 replace d2:m2=({ id:=i,kind:=3,name:=x1,scope:=x2 }:MT):=d2
 subst d2
 obtain⟨o2,r2,l2⟩:=zAq (num_good 0x0a 2) q2 l1
 obtain⟨x3,q3,d3⟩:=zAw e3
 replace d3:m3=({ id:=i,kind:=3,name:=x1,scope:=x2,deref:=x3 }:MT):=d3
 subst d3
 obtain⟨o3,r3,l3⟩:=zAq (num_good 0x0a 3) q3 l2
 obtain⟨x4,q4,d4⟩:=zAw e4
 replace d4:m4=({ id:=i,kind:=3,name:=x1,scope:=x2,deref:=x3,size:=x4 }:MT):=d4
 subst d4
 obtain⟨o4,r4,l4⟩:=zAq (num_good 2 2147483647) q4 l3
 obtain⟨x5,q5,d5⟩:=zAw e5
 replace d5:m5=({ id:=i,kind:=3,name:=x1,scope:=x2,deref:=x3,size:=x4,time:=x5 }:MT):=d5
 subst d5
 obtain⟨o5,r5,l5⟩:=zAq (num_good 2 2147483647) q5 l4
 obtain⟨x6,q6,d6⟩:=zAw e6
 replace d6:m6=({ id:=i,kind:=3,name:=x1,scope:=x2,deref:=x3,size:=x4,time:=x5,tonly:=x6 }:MT):=d6
 subst d6
 obtain⟨o6,r6,l6⟩:=zAq flag_good q6 l5
 obtain⟨x7,q7,d7⟩:=zAw e7
 replace d7:m7=({ id:=i,kind:=3,name:=x1,scope:=x2,deref:=x3,size:=x4,time:=x5,tonly:=x6,filt:=x7 }:MT):=d7
 subst d7
 obtain⟨o7,r7,l7⟩:=zAq formedR_good q7 l6
 obtain⟨x8,q8,d8⟩:=zAw e8
 replace d8:m=({ id:=i,kind:=3,name:=x1,scope:=x2,deref:=x3,size:=x4,time:=x5,tonly:=x6,filt:=x7,attrs:=x8 }:MT):=d8
 subst d8
 obtain⟨o8,r8,l8⟩:=zAq (list_good 48 zA1) q8 l7
 refine⟨rfl,rfl,rfl,by simp[keptM],{ (zBh (k:=0) hi (by omega) (by omega)) with scope:=o2,deref:=o3,ints:=⟨hi,o4,o5,⟨by simp,by simp⟩,⟨by simp,by simp⟩⟩,filt:=fun _=>o7,refs0:=(fun h=>absurd h (by simp)),attrs:=o8,texts:=⟨o1,(by simp),(by simp),(by simp),(by simp),(by simp),(by simp),(by simp)⟩ },?_⟩
 change flen [textF x1,numF 0x0a x2,numF 0x0a x3,numF 2 x4,numF 2 x5,flagF x6,filterF x7,(0x30,enc (x8.map textF))]<=flen F
 simp only[zAh,zAn] at r1 r2 r3 r4 r5 r6 r7 r8 ⊢
 omega
theorem goodC_modify (i:Int) (hi:in31 i) (F:List Fd) (m:MT) (hl:flen F<=16384) (h:Rd.contentR (ofK i 6) F=some (m,[])):Fine i 6 (flen F) m:=by
 replace h:Rd.modifyR (ofK i 6) F=some (m,[]):=h
 obtain⟨m1,G1,h,e2⟩:=zA2 h
 have e1:=h
 obtain⟨x1,q1,rfl⟩:=zAw e1
 obtain⟨o1,r1,l1⟩:=zAq zA1 q1 hl
 obtain⟨x2,q2,rfl⟩:=zAw e2
 obtain⟨o2,r2,l2⟩:=zAq (list_good 48 change_good) q2 l1
 refine⟨rfl,rfl,rfl,by simp[keptM],{ (zBh (k:=6) hi (by omega) (by omega)) with chs:=o2,texts:=⟨o1,(by simp),(by simp),(by simp),(by simp),(by simp),(by simp),(by simp)⟩ },?_⟩
 change flen [textF x1,(0x30,enc (x2.map changeF))]<=flen F
 simp only[zAh,zAn] at r1 r2 ⊢
 omega
theorem goodC_add (i:Int) (hi:in31 i) (F:List Fd) (m:MT) (hl:flen F<=16384) (h:Rd.contentR (ofK i 8) F=some (m,[])):Fine i 8 (flen F) m:=by
 replace h:Rd.addR (ofK i 8) F=some (m,[]):=h
 obtain⟨m1,G1,h,e2⟩:=zA2 h
 have e1:=h
 obtain⟨x1,q1,rfl⟩:=zAw e1
 obtain⟨o1,r1,l1⟩:=zAq zA1 q1 hl
 obtain⟨x2,q2,rfl⟩:=zAw e2
 obtain⟨o2,r2,l2⟩:=zAq (list_good 48 attr_good) q2 l1
 refine⟨rfl,rfl,rfl,by simp[keptM],{ (zBh (k:=8) hi (by omega) (by omega)) with lst:=o2,texts:=⟨o1,(by simp),(by simp),(by simp),(by simp),(by simp),(by simp),(by simp)⟩ },?_⟩
 change flen [textF x1,(0x30,enc (x2.map attrF))]<=flen F
 simp only[zAh,zAn] at r1 r2 ⊢
 omega
theorem goodC_entry (i:Int) (hi:in31 i) (F:List Fd) (m:MT) (hl:flen F<=16384) (h:Rd.contentR (ofK i 4) F=some (m,[])):Fine i 4 (flen F) m:=by
 replace h:Rd.addR (ofK i 4) F=some (m,[]):=h
 obtain⟨m1,G1,h,e2⟩:=zA2 h
 have e1:=h
 obtain⟨x1,q1,rfl⟩:=zAw e1
 obtain⟨o1,r1,l1⟩:=zAq zA1 q1 hl
 obtain⟨x2,q2,rfl⟩:=zAw e2
 obtain⟨o2,r2,l2⟩:=zAq (list_good 48 attr_good) q2 l1
 refine⟨rfl,rfl,rfl,by simp[keptM],{ (zBh (k:=4) hi (by omega) (by omega)) with lst:=o2,texts:=⟨o1,(by simp),(by simp),(by simp),(by simp),(by simp),(by simp),(by simp)⟩ },?_⟩
 change flen [textF x1,(0x30,enc (x2.map attrF))]<=flen F
 simp only[zAh,zAn] at r1 r2 ⊢
 omega
theorem goodC_modName (i:Int) (hi:in31 i) (F:List Fd) (m:MT) (hl:flen F<=16384) (h:Rd.contentR (ofK i 12) F=some (m,[])):Fine i 12 (flen F) m:=by
 replace h:Rd.modNameR (ofK i 12) F=some (m,[]):=h
 obtain⟨m3,G3,h,e4⟩:=zA2 h
 obtain⟨m2,G2,h,e3⟩:=zA2 h
 obtain⟨m1,G1,e1,e2⟩:=zA2 h
 obtain⟨x1,q1,rfl⟩:=zAw e1
 obtain⟨o1,r1,l1⟩:=zAq zA1 q1 hl
 obtain⟨x2,q2,rfl⟩:=zAw e2
 obtain⟨o2,r2,l2⟩:=zAq zA1 q2 l1
 obtain⟨x3,q3,rfl⟩:=zAw e3
 obtain⟨o3,r3,l3⟩:=zAq flag_good q3 l2
 unfold Rd.supR at e4
 split at e4
 ·rename_i hG
  simp only[Option.some.injEq,Prod.mk.injEq] at e4
  obtain⟨rfl,-⟩:=e4
  refine⟨rfl,rfl,rfl,by simp[keptM],{ (zBh (k:=12) hi (by omega) (by omega)) with texts:=⟨o1,(by simp),o2,(by simp),(by simp),(by simp),(by simp),(by simp)⟩ },?_⟩
  change flen [textF x1,textF x2,flagF x3]<=flen F
  simp only[zAh,zAn] at r1 r2 r3 ⊢
  omega
 ·cases ht:Rd.taggedR 0x80 G3 with
  | none=>rw[ht] at e4;cases e4
  | some q=>
   obtain⟨x,K⟩:=q
   rw[ht] at e4
   simp only[Option.map_some,Option.some.injEq,Prod.mk.injEq] at e4
   obtain⟨rfl,rfl⟩:=e4
   obtain⟨o4,r4,l4⟩:=zAq (tagged_good 0x80) ht l3
   refine⟨rfl,rfl,rfl,by simp[keptM],{ (zBh (k:=12) hi (by omega) (by omega)) with texts:=⟨o1,(by simp),o2,o4,(by simp),(by simp),(by simp),(by simp)⟩ },?_⟩
   change flen [textF x1,textF x2,flagF x3,(0x80,x)]<=flen F
   simp only[zAh,zAn] at r1 r2 r3 r4 ⊢
   omega
theorem cmp_good:Good (Rd.innerR 48 (Rd.andR Rd.textR Rd.textR Prod.mk)) (fun x=>x.1.length<=1000/\x.2.length<=1000) (fun x=>[(48,enc [textF x.1,textF x.2])]):=
 zBq 48 (and_good (zs:=fun (x:List UInt8 × List UInt8)=>[textF x.1,textF x.2]) zA1 zA1 (fun x y h1 h2=>⟨h1,h2⟩) (fun x y=>by simp only[zAh,zAn];omega))
theorem goodC_compare (i:Int) (hi:in31 i) (F:List Fd) (m:MT) (hl:flen F<=16384) (h:Rd.contentR (ofK i 14) F=some (m,[])):Fine i 14 (flen F) m:=by
 replace h:Rd.compareR (ofK i 14) F=some (m,[]):=h
 obtain⟨m1,G1,h,e2⟩:=zA2 h
 have e1:=h
 obtain⟨x1,q1,rfl⟩:=zAw e1
 obtain⟨o1,r1,l1⟩:=zAq zA1 q1 hl
 obtain⟨x2,q2,rfl⟩:=zAw e2
 obtain⟨o2,r2,l2⟩:=zAq cmp_good q2 l1
 refine⟨rfl,rfl,rfl,by simp[keptM],{ (zBh (k:=14) hi (by omega) (by omega)) with texts:=⟨o1,(by simp),(by simp),(by simp),o2.1,o2.2,(by simp),(by simp)⟩ },?_⟩
 change flen [textF x1,(0x30,enc [textF x2.1,textF x2.2])]<=flen F
 simp only[zAh,zAn] at r1 r2 ⊢
 omega
theorem goodC_result (i k:Int) (hk:k=1\/k=5\/k=7\/k=9\/k=11\/k=13\/k=15\/k=24) (hi:in31 i) (F:List Fd) (m:MT) (hl:flen F<=16384) (h:Rd.resultR (ofK i k) F=some (m,[])):Fine i k (flen F) m:=by
 obtain⟨m3,G3,h,e4⟩:=zA2 h
 obtain⟨m2,G2,h,e3⟩:=zA2 h
 obtain⟨m1,G1,e1,e2⟩:=zA2 h
 obtain⟨x1,q1,rfl⟩:=zAw e1
 obtain⟨o1,r1,l1⟩:=zAq (num_good 0x0a 2147483647) q1 hl
 obtain⟨x2,q2,rfl⟩:=zAw e2
 obtain⟨o2,r2,l2⟩:=zAq zA1 q2 l1
 obtain⟨x3,q3,rfl⟩:=zAw e3
 obtain⟨o3,r3,l3⟩:=zAq zA1 q3 l2
 have hc:∀m:MT,m.kind=k->contentF m=[numF 0x0a m.code,textF m.matched,textF m.text]++refsF m.refs:=fun m hm=>by
  unfold contentF
  rw[hm]
  rcases hk with rfl | rfl | rfl | rfl | rfl | rfl | rfl | rfl<;>rfl
 have hkp:∀m:MT,m.kind=k->keptM m={ id:=m.id,kind:=m.kind,code:=m.code,matched:=m.matched,text:=m.text,refs:=m.refs,ctls:=m.ctls }:=fun m hm=>by
  unfold keptM
  rw[hm]
  rcases hk with rfl | rfl | rfl | rfl | rfl | rfl | rfl | rfl<;>rfl
 have n3:k≠3:=by omega
 have n19:k≠19:=by omega
 unfold Rd.refsR at e4
 split at e4
 ·rename_i hG
  simp only[Option.some.injEq,Prod.mk.injEq] at e4
  obtain⟨rfl,-⟩:=e4
  refine⟨rfl,rfl,rfl,hkp _ rfl,{ (zBh (k:=k) hi n3 n19) with texts:=⟨(by simp),(by simp),(by simp),(by simp),(by simp),(by simp),o2,o3⟩,ints:=⟨hi,⟨by simp,by simp⟩,⟨by simp,by simp⟩,⟨by simp,by simp⟩,o1⟩ },?_⟩
  rw[hc _ rfl]
  change flen [numF 0x0a x1,textF x2,textF x3]<=flen F
  simp only[zAh,zAn] at r1 r2 r3 ⊢
  omega
 ·cases ht:Rd.someR 0xa3 Rd.textR G3 with
  | none=>rw[ht] at e4;cases e4
  | some q=>
   obtain⟨x,K⟩:=q
   rw[ht] at e4
   simp only[Option.map_some,Option.some.injEq,Prod.mk.injEq] at e4
   obtain⟨rfl,rfl⟩:=e4
   obtain⟨o4,r4,l4⟩:=zAq (some_good 0xa3 zA1) ht l3
   refine⟨rfl,rfl,rfl,hkp _ rfl,{ (zBh (k:=k) hi n3 n19) with texts:=⟨(by simp),(by simp),(by simp),(by simp),(by simp),(by simp),o2,o3⟩,ints:=⟨hi,⟨by simp,by simp⟩,⟨by simp,by simp⟩,⟨by simp,by simp⟩,o1⟩,refs:=o4.2,refs0:=(fun h=>absurd h n19) },?_⟩
   rw[hc _ rfl,flen_app]
   have hr:refsF x=[(0xa3,enc (x.map textF))]:=by unfold refsF;rw[if_neg o4.1]
   change flen [numF 0x0a x1,textF x2,textF x3]+flen (refsF x)<=flen F
   rw[hr]
   simp only[zAh,zAn] at r1 r2 r3 r4 ⊢
   omega
end Go.Proofs.YtcpjmgfloimfhaaGreat
namespace Go.Proofs.YtcpjmgfloimfhaaGreat
open Go.RowKit
open Wr
structure FineO (i:Int) (n:Nat) (m:MT):Prop where
 id:m.id=i
 known:knownK m.kind
 ctls:m.ctls=[]
 kept:keptM m=m
 ok:Bounds m
 room:(Ber.fieldOf (operF m).1 (operF m).2).length<=n
theorem contentG {i k:Int} (hi:in31 i) {F:List Fd} {m:MT} (hl:flen F<=16384) (h:Rd.contentR (ofK i k) F=some (m,[])):knownK k/\Fine i k (flen F) m:=by
 by_cases h2:k=2
 ·subst h2;exact⟨.inl (by omega),goodC_unbind i hi F m hl h⟩
 by_cases h0:k=0
 ·subst h0;exact⟨.inl (by omega),goodC_bind i hi F m hl h⟩
 by_cases h3:k=3
 ·subst h3;exact⟨.inl (by omega),goodC_search i hi F m hl h⟩
 by_cases h6:k=6
 ·subst h6;exact⟨.inl (by omega),goodC_modify i hi F m hl h⟩
 by_cases h8:k=8
 ·subst h8;exact⟨.inl (by omega),goodC_add i hi F m hl h⟩
 by_cases h4:k=4
 ·subst h4;exact⟨.inl (by omega),goodC_entry i hi F m hl h⟩
 by_cases h12:k=12
 ·subst h12;exact⟨.inl (by omega),goodC_modName i hi F m hl h⟩
 by_cases h14:k=14
 ·subst h14;exact⟨.inl (by omega),goodC_compare i hi F m hl h⟩
 by_cases hr:k=1\/k=5\/k=7\/k=9\/k=11\/k=13\/k=15\/k=24
 ·have e:Rd.contentR (ofK i k) F=Rd.resultR (ofK i k) F:=by rcases hr with rfl | rfl | rfl | rfl | rfl | rfl | rfl | rfl<;>rfl
  rw[e] at h
  exact⟨by unfold knownK;omega,goodC_result i k hr hi F m hl h⟩
 ·exfalso
  have e:Rd.contentR (ofK i k) F=Rd.noR (ofK i k) F:=by
   unfold Rd.contentR
   simp only[if_neg h2,if_neg h0,if_neg h3,if_neg h6,if_neg h8,if_neg h4,if_neg h12,if_neg h14,if_neg (show k≠1 by omega),if_neg (show k≠5 by omega),if_neg (show k≠7 by omega),if_neg (show k≠9 by omega),if_neg (show k≠11 by omega),if_neg (show k≠13 by omega),if_neg (show k≠15 by omega),if_neg (show k≠24 by omega)]
  rw[e] at h
  cases h
theorem operG {i:Int} (hi:in31 i) {F G:List Fd} {m:MT} (hl:flen F<=16384) (h:Rd.operR (ofK i 0) F=some (m,G)):∃n,FineO i n m/\n+flen G<=flen F:=by
 unfold Rd.operR at h
 cases F with
 | nil=>cases h
 | cons f r=>
  obtain⟨t,c⟩:=f
  simp only at h
  obtain⟨K,hK⟩:∃K,Rd.kindOf t=K:=⟨_,rfl⟩
  rw[hK] at h
  by_cases hop:opV K=(t.toNat:Int)
  ·rw [if_pos hop] at h
   refine⟨(Ber.fieldOf t c).length,?_⟩
   by_cases h10:K=10
   ·rw [if_pos h10] at h
    subst h10
    obtain⟨x,q,d⟩:=zAw h
    replace d:m=({ id:=i,kind:=10,name:=x }:MT):=d
    subst d
    obtain⟨o1,r1,l1⟩:=zAq (tagged_good t) q hl
    have hq:x=c/\G=r:=by
     unfold Rd.taggedR at q
     rw[take_enc] at q
     simp only at q
     split at q
     ·cases q;exact⟨rfl,rfl⟩
     ·cases q
    obtain⟨rfl,rfl⟩:=hq
    refine⟨⟨rfl,.inl (by simp),rfl,by simp[keptM],{ (zBh (k:=10) hi (by omega) (by omega)) with texts:=⟨o1,by simp,by simp,by simp,by simp,by simp,by simp,by simp⟩ },?_⟩,by rw[zAh];exact Nat.le_refl _⟩
    exact Nat.le_of_eq (zBs _ _ _)
   ·rw [if_neg h10] at h
    by_cases h16:K=16
    ·rw [if_pos h16] at h
     subst h16
     obtain⟨x,q,d⟩:=zAw h
     replace d:m=({ id:=i,kind:=16,target:=x }:MT):=d
     subst d
     obtain⟨o1,r1,l1⟩:=zAq (num_good t 2147483647) q hl
     have hq:Ber.intOfs x=c/\G=r:=by
      unfold Rd.numR at q
      rw[take_enc] at q
      simp only at q
      split at q
      ·rename_i hc
       cases q
       refine⟨?_,rfl⟩
       have h0:=hc.1
       unfold Ber.toInt at h0 ⊢
       split at h0
       ·rename_i hz
        rw[if_pos hz]
        exact (Ber.intOfs_sv c hz.1 hz.2.1).2 hz.2.2
       ·simp at h0
      ·cases q
     obtain⟨hx,rfl⟩:=hq
     refine⟨⟨rfl,.inl (by simp),rfl,by simp[keptM],{ (zBh (k:=16) hi (by omega) (by omega)) with ints:=⟨hi,⟨by simp,by simp⟩,⟨by simp,by simp⟩,o1,⟨by simp,by simp⟩⟩ },?_⟩,by rw[zAh];exact Nat.le_refl _⟩
     rw[<-hx]
     exact Nat.le_of_eq (zBs _ _ _)
    ·rw [if_neg h16] at h
     by_cases h19:K=19
     ·rw [if_pos h19] at h
      subst h19
      obtain⟨x,q,d⟩:=zAw h
      replace d:m=({ id:=i,kind:=19,refs:=x }:MT):=d
      subst d
      obtain⟨o1,r1,l1⟩:=zAq (some_good t zA1) q hl
      have hG:G=r:=by
       unfold Rd.someR at q
       cases hw:Rd.listR t Rd.textR ((t,c)::r) with
       | none=>rw[hw] at q;cases q
       | some z=>
        obtain⟨y,K2⟩:=z
        rw[hw] at q
        obtain⟨c2,H2,e2,-,-⟩:=inner_some hw
        cases y with
        | nil=>cases q
        | cons y0 y=>cases q;cases e2;rfl
      subst hG
      refine⟨⟨rfl,.inr (.inl rfl),rfl,by simp[keptM],{ ints:=(zBh (k:=0) hi (by omega) (by omega):Bounds (ofK i 0)).ints,ver:=⟨by simp,by simp⟩,scope:=⟨by simp,by simp⟩,deref:=⟨by simp,by simp⟩,filt:=(fun h=>absurd h (by simp)),refs0:=(fun _=>o1.1),texts:=⟨by simp,by simp,by simp,by simp,by simp,by simp,by simp,by simp⟩,attrs:=by simp,refs:=o1.2,lst:=by simp,chs:=by simp,ctls:=by simp },?_⟩,by rw[zAh];exact Nat.le_refl _⟩
      have e:(operF ({ id:=i,kind:=19,refs:=x }:MT)).2=enc (x.map textF):=rfl
      rw[e]
      simp only[zAh,zAn] at r1
      rw[zBs _ t]
      omega
     ·rw [if_neg h19] at h
      obtain⟨x,q,d⟩:=zAw h
      replace d:m=x:=d
      subst d
      obtain⟨c2,H,e2,hf,hp⟩:=inner_some q
      cases e2
      have hcl:=flen_content (t:=t) (c:=c) (r:=G)
      have hH:=fields_short hf (by omega)
      obtain⟨hkn,hfi⟩:=contentG hi (k:=K) (by omega) hp
      have hkk:=hfi.kind
      refine⟨⟨hfi.id,by rw[hkk];exact hkn,hfi.ctls,hfi.kept,hfi.ok,?_⟩,by rw[zAh];exact Nat.le_refl _⟩
      have e:(operF m).2=enc (contentF m):=by unfold operF;rw[hkk,if_neg h10,if_neg h16]
      rw[e]
      have hr:=hfi.room
      exact fieldOf_mono (by show flen (contentF m)<=_;omega) (by omega)
  ·rw [if_neg hop] at h;cases h
theorem decode_good {b:List UInt8} {m:MT} (h:Rd.decode b=some m):FormedM m/\(bytesW m).length<=b.length/\b.length<=16384:=by
 unfold Rd.decode at h
 split at h
 ·rename_i hb
  unfold Rd.wholeR at h
  cases hf:Rd.fieldsOf b with
  | none=>rw[hf] at h;cases h
  | some F=>
   rw[hf] at h
   have hF:=fields_short hf (by omega)
   cases hi:Rd.innerR 48 Rd.messageR F with
   | none=>simp only[hi] at h;cases h
   | some q=>
    obtain⟨x,K⟩:=q
    simp only[hi] at h
    cases K with
    | cons k K=>cases h
    | nil=>
     obtain rfl:x=m:=by simpa using h
     obtain⟨c,H,rfl,hc,hp⟩:=inner_some hi
     have hcl:=flen_content (t:=48) (c:=c) (r:=[])
     have hH:=fields_short hc (by omega)
     obtain⟨m2,G2,h2,h3⟩:=zA2 (a:=Rd.thenR Rd.idR Rd.operR) (b:=Rd.ctlsR) hp
     obtain⟨m1,G1,h1,h2⟩:=zA2 h2
     obtain⟨x1,q1,d1⟩:=zAw h1
     replace d1:m1=ofK x1 0:=d1
     subst d1
     obtain⟨o1,r1,l1⟩:=zAq (num_good 2 2147483647) q1 (by omega)
     obtain⟨n,hfo,hn⟩:=operG o1 l1 h2
     have hid:=hfo.id
     have hro:=hfo.room
     simp only[zAh,zAn] at r1
     unfold Rd.ctlsR at h3
     split at h3
     ·rename_i hG
      subst hG
      simp only[Option.some.injEq,Prod.mk.injEq] at h3
      obtain⟨rfl,-⟩:=h3
      refine⟨⟨hfo.known,hfo.kept,hfo.ok⟩,?_,hb⟩
      have e:bytesW m2=enc [(0x30,enc (numF 2 m2.id::operF m2::[]))]:=by unfold bytesW messageF ctlsF;rw[hfo.ctls,if_pos rfl]
      rw[e,hid]
      have hm:flen (numF 2 x1::operF m2::[])<=c.length:=by rw[zAh,zAh,zAn];rw[zAn] at hn;omega
      have:=fieldOf_mono (t:=0x30) (t':=48) (a:=enc (numF 2 x1::operF m2::[])) (b:=c) hm (by omega)
      show flen [(0x30,enc (numF 2 x1::operF m2::[]))]<=_
      rw[zAh] at hF ⊢
      rw[zAn] at hF ⊢
      simp only at hF ⊢
      omega
     ·cases hs:Rd.someR 0xa0 Rd.controlR G2 with
      | none=>rw[hs] at h3;cases h3
      | some q=>
       obtain⟨L,K⟩:=q
       rw[hs] at h3
       simp only[Option.map_some,Option.some.injEq,Prod.mk.injEq] at h3
       obtain⟨rfl,rfl⟩:=h3
       obtain⟨o2,r2,l2⟩:=zAq (some_good 0xa0 control_good) hs (by omega)
       have hk2:keptM ({ m2 with ctls:=L }:MT)={ m2 with ctls:=L }:=by
        have hk:=hfo.kept
        have e:keptM ({ m2 with ctls:=L }:MT)={ keptM m2 with ctls:=L }:=by
         unfold keptM
         by_cases c0:m2.kind=0
         ·simp only[c0,if_true]
         by_cases c3:m2.kind=3
         ·simp only[c3];rfl
         by_cases c6:m2.kind=6
         ·simp only[c6];rfl
         by_cases c4:m2.kind=4\/m2.kind=8
         ·rcases c4 with c4 | c4<;>(simp only[c4];rfl)
         by_cases c10:m2.kind=10
         ·simp only[c10];rfl
         by_cases c12:m2.kind=12
         ·simp only[c12];rfl
         by_cases c14:m2.kind=14
         ·simp only[c14];rfl
         by_cases c16:m2.kind=16
         ·simp only[c16];rfl
         by_cases c1:m2.kind=1\/m2.kind=5\/m2.kind=7\/m2.kind=9\/m2.kind=11\/m2.kind=13\/m2.kind=15\/m2.kind=24
         ·rcases c1 with c1 | c1 | c1 | c1 | c1 | c1 | c1 | c1<;>(simp only[c1];rfl)
         by_cases c19:m2.kind=19
         ·simp only[c19];rfl
         simp only[if_neg c0,if_neg c3,if_neg c6,if_neg c4,if_neg c10,if_neg c12,if_neg c14,if_neg c16,if_neg c1,if_neg c19]
        rw[e,hk]
       have hb2:=hfo.ok
       refine⟨⟨hfo.known,hk2,⟨hb2.ints,hb2.ver,hb2.scope,hb2.deref,hb2.filt,hb2.refs0,hb2.texts,hb2.attrs,hb2.refs,hb2.lst,hb2.chs,o2.2⟩⟩,?_,hb⟩
       have e:bytesW ({ m2 with ctls:=L }:MT)=enc [(0x30,enc (numF 2 m2.id::operF m2::[(0xa0,enc (L.map controlF))]))]:=by
        unfold bytesW messageF ctlsF
        rw[if_neg o2.1]
        rfl
       rw[e,hid]
       simp only[zAh,zAn] at r2
       have hm:flen (numF 2 x1::operF m2::[(0xa0,enc (L.map controlF))])<=c.length:=by rw[zAh,zAh,zAh,zAn];simp only;omega
       have:=fieldOf_mono (t:=0x30) (t':=48) (a:=enc (numF 2 x1::operF m2::[(0xa0,enc (L.map controlF))])) (b:=c) hm (by omega)
       show flen [(0x30,enc (numF 2 x1::operF m2::[(0xa0,enc (L.map controlF))]))]<=_
       rw[zAh] at hF ⊢
       rw[zAn] at hF ⊢
       simp only at hF ⊢
       omega
 ·cases h
end Go.Proofs.YtcpjmgfloimfhaaGreat
namespace Go.Proofs.YtcpjmgfloimfhaaGreat
open Go.RowKit
open Wr
theorem weeL_of:∀{ps:List FT},(∀p∈ps,p.wee)->FT.weeL ps
 | [],_=>by simp[FT.weeL]
 | p::r,h=>by
  simp only[FT.weeL]
  exact⟨h p (List.mem_cons_self ..),weeL_of fun q hq=>h q (List.mem_cons_of_mem _ hq)⟩
theorem wee_of_len (t:FT):t.all=true->(filterF t).2.length<=16384->t.wee:=by
 induction t using FT.induct
 rename_i k a v f l an ps ih
 intro ha hl
 simp only[FT.all,Bool.and_eq_true,FT.allL_all,List.all_eq_true] at ha
 obtain⟨hb,hps⟩:=ha
 simp only[filterF] at hl
 simp only[FT.wee]
 by_cases h7:k=7
 ·subst h7
  simp[FT.bare] at hb
  obtain⟨⟨⟨hao,rfl⟩,⟨⟨rfl,rfl⟩,rfl⟩⟩,rfl⟩:=hb
  exact⟨by simp,by simp,weeL_of (by simp)⟩
 ·by_cases h0:k=0\/k=1\/k=2
  ·have hz:an=[]:=by
    rcases h0 with rfl | rfl | rfl<;>(simp[FT.bare] at hb;simp_all)
   subst hz
   simp only[filterG,if_neg h7,if_pos h0] at hl
   rw[filtersF_map] at hl
   have hc:=enc_count (ps.map filterF)
   rw[List.length_map] at hc
   exact⟨by simp,by omega,weeL_of fun p hp=>ih p hp (hps p hp) (Nat.le_trans (enc_mem (List.mem_map_of_mem hp)) hl)⟩
  ·by_cases h4:k=4
   ·subst h4
    simp[FT.bare] at hb
    obtain⟨⟨⟨⟨⟨⟨hany,hao⟩,rfl⟩,hne⟩,rfl⟩,hf⟩,hl2⟩:=hb
    simp only[filterG,if_neg h7,if_neg h0,if_true] at hl
    have h2:=(enc_cons_le (enc_cons_le hl).2).1
    simp only[enc_app,List.length_append] at h2
    have hc:=enc_count (an.map anyF)
    rw[List.length_map] at hc
    exact⟨by omega,by simp,weeL_of (by simp)⟩
   ·have h3:k=3\/k=5\/k=6\/k=8:=by
     by_cases hk:k=3\/k=5\/k=6\/k=8
     ·exact hk
     ·exfalso
      have n0:¬(k=0\/k=1):=by omega
      have n2:k≠2:=by omega
      simp only[FT.bare,if_neg n0,if_neg n2,if_neg hk,if_neg h7,if_neg h4] at hb
      cases hb
    have hz:an=[]/\ps=[]:=by
     rcases h3 with rfl | rfl | rfl | rfl<;>(simp[FT.bare] at hb;simp_all)
    obtain⟨rfl,rfl⟩:=hz
    exact⟨by simp,by simp,weeL_of (by simp)⟩
theorem decode_wee {b:List UInt8} {m:MT} (h:Rd.decode b=some m):m.filt.wee:=by
 obtain⟨hf,hl,hb⟩:=decode_good h
 by_cases h3:m.kind=3
 ·have hfo:=hf.ok.filt h3
  simp only[FT.formed,Bool.and_eq_true] at hfo
  refine wee_of_len m.filt hfo.2 ?_
  have h1:(messageF m).2.length<=(bytesW m).length:=enc_mem (F:=[messageF m]) (by simp)
  have h2:(operF m).2.length<=(messageF m).2.length:=enc_mem (F:=numF 2 m.id::operF m::ctlsF m.ctls) (by simp)
  have e:(operF m).2=enc (contentF m):=by unfold operF;rw[h3];rfl
  rw[e] at h2
  have h4:(filterF m.filt).2.length<=(enc (contentF m)).length:=enc_mem (by unfold contentF;simp[h3])
  omega
 ·have hz:=((kept_zero hf.kept).2.1 h3).2.2.2.2.2.1
  rw[hz]
  simp[FT.wee,FT.weeL]
theorem decodeD_wee (b:List UInt8):((Rd.decode b).getD zeroM).filt.wee:=by
 cases h:Rd.decode b with
 | none=>simp[zeroM,FT.wee,FT.weeL]
 | some m=>exact decode_wee h
end Go.Proofs.YtcpjmgfloimfhaaGreat
