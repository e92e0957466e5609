/- Several texts in one: LSame2, LWee, LWr1, LEncode. By an AI agent. -/
import Derived.Test.YtpkedjohgmnhhaaGreatLSame
import Derived.Test.YtpkedjohgmnhhaaGreatM19
import Derived.Test.YtpkedjohgmnhhaaGreatHTheirs
import Derived.Test.YtpkedjohgmnhhaaGreatM06
import Derived.Test.YtpkedjohgmnhhaaGreatM03
import Derived.Test.YtpkedjohgmnhhaaGreatM01
import Derived.Test.YtpkedjohgmnhhaaGreatM04
import Derived.Test.YtpkedjohgmnhhaaGreatM02
import Derived.Laws.IdiomStrings
import Derived.Lib.AppendZeros
set_option maxRecDepth 100000
set_option maxHeartbeats 64000000
set_option linter.unusedSimpArgs false
namespace Go.Proofs.YtpkedjohgmnhhaaGreat
open Go.RowKit
set_option linter.unusedVariables false
theorem loadT (W:World) (p:Addr) (v:Value) (h:W.cell? p=some v):(loadVar 22 p).run Tryz.prog W=.ok v W:=by go_simp
theorem loadA (W:World) (p:Addr) (v:Value) (h:W.cell? p=some v):(loadVar 26 p).run Tryz.prog W=.ok v W:=by go_simp
theorem loadH (W:World) (p:Addr) (v:Value) (h:W.cell? p=some v):(loadVar 27 p).run Tryz.prog W=.ok v W:=by go_simp
theorem loadC (W:World) (p:Addr) (v:Value) (h:W.cell? p=some v):(loadVar 40 p).run Tryz.prog W=.ok v W:=by go_simp
theorem boolOf (P:Prop):∃b:Bool,b=true↔P:=by
 by_cases h:P
 ·exact ⟨true,by simp[h]⟩
 ·exact ⟨false,by simp[h]⟩
theorem not_of {b R:Bool} {P Q:Prop} (hb:b=true↔P) (hR:R=true↔Q) (h:Q→P):b=false→R=false:=fun e=>by
 cases R with
 | false=>rfl
 | true=>have:=hb.2 (h (hR.1 rfl));rw[e] at this;cases this
theorem MReps.below {w w':World} {m:MT} {f0 f1 f2 f3 f4 f5 f6 va vl vc vr vk:Value} (h:MReps w (inB w) m f0 f1 f2 f3 f4 f5 f6 va vl vc vr vk) (hb:Below w.heap.size w w'):MReps w' (inB w') m f0 f1 f2 f3 f4 f5 f6 va vl vc vr vk:=
 h.move (fun p hp=>hb.cell (by exact hp)) (fun k hk=>Nat.lt_of_lt_of_le hk hb.size)
theorem repL_slice {α:Type} {E:Elem α} {w:World} {P:Nat→Prop} {L:List α} {v:Value} (h:repL E w P L v):∃A n c,v=.slice A n c:=by
 obtain⟨A,c,xs,rfl,_⟩:=h;exact⟨_,_,_,rfl⟩
theorem same_any (w:World) (x y:MT) (v v':Value) (hx:repM w (inB w) x v) (hy:repM w (inB w) y v') (hwee:x.filt.wee) (R:Bool) (hR:R=true↔x=y):
  Calls Tryz.prog 18 #[v,v'] w fun e w'=>e=.returned (.bool R)∧Below w.heap.size w w':=by
 obtain⟨f0,f1,f2,f3,f4,f5,f6,va,vl,vc,vr,vk,rfl,hX⟩:=hx
 obtain⟨g0,g1,g2,g3,g4,g5,g6,ua,ul,uc,ur,uk,rfl,hY⟩:=hy
 obtain⟨cx,hcx⟩:∃cx,mcells x f0 f1 f2 f3 f4 f5 f6 va vl vc vr vk=cx:=⟨_,rfl⟩
 obtain⟨cy,hcy⟩:∃cy,mcells y g0 g1 g2 g3 g4 g5 g6 ua ul uc ur uk=cy:=⟨_,rfl⟩
 have hnx:cx.length=32:=by rw[←hcx];rfl
 have hny:cy.length=32:=by rw[←hcy];rfl
 have hB1:Blk (w.alloc (.cells cx.toArray 42)) w.heap.size cx:=Blk.new w cx 42
 have hf1:Fr (fun _=>False) w (w.alloc (.cells cx.toArray 42)):=Fr.alloc _ _ _
 obtain⟨w1,hw1⟩:∃w1,w.alloc (.cells cx.toArray 42)=w1:=⟨_,rfl⟩
 have hs1:w1.heap.size=w.heap.size+1:=by rw[←hw1];simp
 rw[hw1] at hB1 hf1
 have hB2:Blk (w1.alloc (.cells cy.toArray 42)) w1.heap.size cy:=Blk.new w1 cy 42
 have hf2:Fr (fun _=>False) w1 (w1.alloc (.cells cy.toArray 42)):=Fr.alloc _ _ _
 obtain⟨w2,hw2⟩:∃w2,w1.alloc (.cells cy.toArray 42)=w2:=⟨_,rfl⟩
 rw[hw2] at hB2 hf2
 have hB1b:=hB1.fr hf2 id
 have hb:Below w.heap.size w w2:=(hf1.trans hf2).below (Nat.le_refl _) (fun k q=>q.elim)
 rw[hs1] at hB2
 obtain⟨p1,hp1⟩:∃p1,w.heap.size=p1:=⟨_,rfl⟩
 obtain⟨p2,hp2⟩:∃p2,w.heap.size+1=p2:=⟨_,rfl⟩
 rw[hp1] at hB1b
 rw[hp2] at hB2
 have kX:∀W,Below w2.heap.size w2 W→Blk W p1 cx:=fun W hW=>hB1b.fr (Fr.of (X:=fun _=>False) hW) id
 have kY:∀W,Below w2.heap.size w2 W→Blk W p2 cy:=fun W hW=>hB2.fr (Fr.of (X:=fun _=>False) hW) id
 have rX:∀W,Below w2.heap.size w2 W→MReps W (inB W) x f0 f1 f2 f3 f4 f5 f6 va vl vc vr vk:=fun W hW=>(hX.below hb).below hW
 have rY:∀W,Below w2.heap.size w2 W→MReps W (inB W) y g0 g1 g2 g3 g4 g5 g6 ua ul uc ur uk:=fun W hW=>(hY.below hb).below hW
 obtain⟨b1,h1⟩:=boolOf (x.id=y.id∧x.kind=y.kind∧x.ver=y.ver∧x.scope=y.scope∧x.deref=y.deref∧x.size=y.size∧x.time=y.time∧x.target=y.target∧x.code=y.code)
 obtain⟨b2,h2⟩:=boolOf (x.name=y.name∧x.pw=y.pw∧x.nrdn=y.nrdn∧x.sup=y.sup∧x.attr=y.attr∧x.value=y.value∧x.matched=y.matched∧x.text=y.text)
 obtain⟨b3,h3⟩:=boolOf (x.tonly=y.tonly∧x.delold=y.delold∧x.hassup=y.hassup)
 obtain⟨b4,h4⟩:=boolOf (x.filt=y.filt)
 obtain⟨b5,h5⟩:=boolOf (x.attrs=y.attrs)
 obtain⟨b6,h6⟩:=boolOf (x.lst=y.lst)
 obtain⟨b7,h7⟩:=boolOf (x.chs=y.chs)
 obtain⟨b8,h8⟩:=boolOf (x.refs=y.refs)
 obtain⟨b9,h9⟩:=boolOf (x.ctls=y.ctls)
 have eqt:∀(W:World) (L M:List (List UInt8)) (a u:Value) (b:Bool),repL elT W (inB W) L a→repL elT W (inB W) M u→(b=true↔L=M)→Calls Tryz.prog 51 #[a,u] W fun e w'=>e=.returned (.bool b)∧Below W.heap.size W w':=fun W L M a u b ha hu hbb=>by
  obtain⟨A,c,xs,rfl,hl,hA,hr⟩:=ha
  obtain⟨B,d,ys,rfl,hm,hB,hr'⟩:=hu
  have e1:=rowT_strs hr
  have e2:=rowT_strs hr'
  subst e1 e2
  have:=jequal_any W A B L.length c M.length d L M (HasP.has hA fun k hk=>hk) (HasP.has hB fun k hk=>hk) (by omega)
  have hd:b=decide (L=M):=by
   cases b with
   | true=>rw[decide_eq_true (hbb.1 rfl)]
   | false=>rw[decide_eq_false];intro e;have:=hbb.2 e;cases this
  rw[hd]
  exact this
 rw[hcx,hcy]
 refine same_walk w w2 p1 p2 cx.toArray cy.toArray #[.int .i64 x.id,.int .i64 x.kind,.int .i64 x.ver,.int .i64 x.scope,.int .i64 x.deref,.int .i64 x.size,.int .i64 x.time,.int .i64 x.target,.int .i64 x.code] #[.int .i64 y.id,.int .i64 y.kind,.int .i64 y.ver,.int .i64 y.scope,.int .i64 y.deref,.int .i64 y.size,.int .i64 y.time,.int .i64 y.target,.int .i64 y.code]
  #[.string (txt x.name),.string (txt x.pw),.string (txt x.nrdn),.string (txt x.sup),.string (txt x.attr),.string (txt x.value),.string (txt x.matched),.string (txt x.text)] #[.string (txt y.name),.string (txt y.pw),.string (txt y.nrdn),.string (txt y.sup),.string (txt y.attr),.string (txt y.value),.string (txt y.matched),.string (txt y.text)]
  #[.bool x.tonly,.bool x.delold,.bool x.hassup] #[.bool y.tonly,.bool y.delold,.bool y.hassup] (.agg #[f0,f1,f2,f3,f4,f5,f6]) (.agg #[g0,g1,g2,g3,g4,g5,g6]) va vr vl vc vk ua ul uc ur uk b1 b2 b3 b4 b5 b6 b7 b8 b9 R
  (hide (by rw[hw1];exact hw2)) (hide ⟨hp1,hp2⟩) (hide hb) (hide fun W hW=>?_) (hide fun W hW=>?_) (hide fun W hW=>?_) (hide fun W hW=>?_)
  (hide fun W hW=>loadT W _ _ ((kX W hW).cells 17 _ (by rw[←hcx];rfl))) (hide fun W hW=>loadT W _ _ ((kY W hW).cells 17 _ (by rw[←hcy];rfl)))
  (hide fun W hW=>loadA W _ _ ((kX W hW).cells 18 _ (by rw[←hcx];rfl))) (hide fun W hW=>loadA W _ _ ((kY W hW).cells 18 _ (by rw[←hcy];rfl)))
  (hide fun W hW=>loadH W _ _ ((kX W hW).cells 19 _ (by rw[←hcx];rfl))) (hide fun W hW=>loadH W _ _ ((kY W hW).cells 19 _ (by rw[←hcy];rfl)))
  (hide fun W hW=>loadT W _ _ ((kX W hW).cells 30 _ (by rw[←hcx];rfl))) (hide fun W hW=>loadT W _ _ ((kY W hW).cells 30 _ (by rw[←hcy];rfl)))
  (hide fun W hW=>loadC W _ _ ((kX W hW).cells 31 _ (by rw[←hcx];rfl))) (hide fun W hW=>loadC W _ _ ((kY W hW).cells 31 _ (by rw[←hcy];rfl)))
  (hide fun W hW=>by rw[←hcx];exact numbers_any W x _ _ _ _ _ _ _ _ _ _ _ _) (hide fun W hW=>by rw[←hcy];exact numbers_any W y _ _ _ _ _ _ _ _ _ _ _ _)
  (hide fun W hW=>by rw[←hcx];exact texts_any W x _ _ _ _ _ _ _ _ _ _ _ _) (hide fun W hW=>by rw[←hcy];exact texts_any W y _ _ _ _ _ _ _ _ _ _ _ _)
  (hide fun W hW=>by rw[←hcx];exact flags_any W x _ _ _ _ _ _ _ _ _ _ _ _) (hide fun W hW=>by rw[←hcy];exact flags_any W y _ _ _ _ _ _ _ _ _ _ _ _)
  (hide fun W hW=>jsame_any x.filt hwee y.filt W _ _ _ _ _ _ _ _ _ _ _ _ _ _ (FInP.fin (B:=W.heap.size) (fun k hk=>hk) (rX W hW).filt) (FInP.fin (B:=W.heap.size) (fun k hk=>hk) (rY W hW).filt) b4 h4)
  (hide fun W hW=>eqt W _ _ _ _ b5 (rX W hW).attrs (rY W hW).attrs h5) (hide fun W hW=>eqt W _ _ _ _ b8 (rX W hW).refs (rY W hW).refs h8)
  (hide fun W hW=>?_) (hide fun W hW=>?_) (hide fun W hW=>?_)
  (numbers_eq _ _ _ _ _ _ _ _ _ _ _ _ _ _ _ _ _ _ b1 h1) (texts_eq _ _ _ _ _ _ _ _ _ _ _ _ _ _ _ _ b2 h2) (flags_eq _ _ _ _ _ _ b3 h3)
  (hide (not_of h1 hR (by rintro rfl;exact⟨rfl,rfl,rfl,rfl,rfl,rfl,rfl,rfl,rfl⟩))) (hide (not_of h2 hR (by rintro rfl;exact⟨rfl,rfl,rfl,rfl,rfl,rfl,rfl,rfl⟩))) (hide (not_of h3 hR (by rintro rfl;exact⟨rfl,rfl,rfl⟩))) (hide (not_of h4 hR (by rintro rfl;rfl))) (hide (not_of h5 hR (by rintro rfl;rfl))) (hide (not_of h6 hR (by rintro rfl;rfl))) (hide (not_of h7 hR (by rintro rfl;rfl))) (hide (not_of h8 hR (by rintro rfl;rfl))) (hide (not_of h9 hR (by rintro rfl;rfl)))
  (hide fun q1 q2 q3 q4 q5 q6 q7 q8 q9=>hR.2 ?_)
 ·exact run_loadVar_mid W p1 0 42 cx _ (kX W hW).range Tryz.underlying42 rfl (by rw[hnx];kernel_rfl)
 ·exact run_loadVar_mid W p2 0 42 cy _ (kY W hW).range Tryz.underlying42 rfl (by rw[hny];kernel_rfl)
 ·refine run_loadVar_mid W p1 10 39 [f0,f1,f2,f3,f4,f5,f6] _ ((kX W hW).part 10 _ fun j u hu=>?_) Tryz.underlying39 rfl (by kernel_rfl)
  rw[←hcx]
  match j,hu with
  | 0,hu=>exact hu
  | 1,hu=>exact hu
  | 2,hu=>exact hu
  | 3,hu=>exact hu
  | 4,hu=>exact hu
  | 5,hu=>exact hu
  | 6,hu=>exact hu
 ·refine run_loadVar_mid W p2 10 39 [g0,g1,g2,g3,g4,g5,g6] _ ((kY W hW).part 10 _ fun j u hu=>?_) Tryz.underlying39 rfl (by kernel_rfl)
  rw[←hcy]
  match j,hu with
  | 0,hu=>exact hu
  | 1,hu=>exact hu
  | 2,hu=>exact hu
  | 3,hu=>exact hu
  | 4,hu=>exact hu
  | 5,hu=>exact hu
  | 6,hu=>exact hu
 ·have ha:=(rX W hW).lst
  have hu:=(rY W hW).lst
  obtain⟨A,n,c,rfl⟩:=repL_slice ha
  obtain⟨A',n',c',rfl⟩:=repL_slice hu
  exact equalfA_any W _ _ _ _ _ _ _ _ ha hu b6 h6
 ·have ha:=(rX W hW).chs
  have hu:=(rY W hW).chs
  obtain⟨A,n,c,rfl⟩:=repL_slice ha
  obtain⟨A',n',c',rfl⟩:=repL_slice hu
  exact equalfH_any W _ _ _ _ _ _ _ _ ha hu b7 h7
 ·have ha:=(rX W hW).ctls
  have hu:=(rY W hW).ctls
  obtain⟨A,n,c,rfl⟩:=repL_slice ha
  obtain⟨A',n',c',rfl⟩:=repL_slice hu
  exact equalC_any W _ _ _ _ _ _ _ _ ha hu b9 h9
 ·obtain ⟨n1,n2,n3,n4,n5,n6,n7,n8,n9⟩:=h1.1 q1
  obtain⟨t1,t2,t3,t4,t5,t6,t7,t8⟩:=h2.1 q2
  obtain⟨l1,l2,l3⟩:=h3.1 q3
  have s4:=h4.1 q4
  have s5:=h5.1 q5
  have s6:=h6.1 q6
  have s7:=h7.1 q7
  have s8:=h8.1 q8
  have s9:=h9.1 q9
  cases x
  cases y
  simp only at *
  simp only[MT.mk.injEq]
  exact⟨n1,n2,t1,t2,n3,n4,n5,n6,n7,l1,s4,s5,s6,s7,t3,l2,l3,t4,t5,t6,n8,n9,t7,t8,s8,s9⟩
end Go.Proofs.YtpkedjohgmnhhaaGreat
namespace Go.Proofs.YtpkedjohgmnhhaaGreat
open Go.RowKit
open Wr
set_option linter.unusedVariables false
theorem weeL_of:∀{ps:List FT},(∀p∈ps,p.wee)→FT.weeL ps
 | [],_=>by simp[FT.weeL]
 | p::r,h=>by
  simp only[FT.weeL]
  exact⟨h p (List.mem_cons_self ..),weeL_of fun q hq=>h q (List.mem_cons_of_mem _ hq)⟩
theorem wee_of_len (t:FT):t.all=true→(filterF t).2.length≤16384→t.wee:=by
 induction t using FT.induct
 rename_i k a v f l an ps ih
 intro ha hl
 simp only[FT.all,Bool.and_eq_true,FT.allL_all,List.all_eq_true] at ha
 obtain⟨hb,hps⟩:=ha
 simp only[filterF] at hl
 simp only[FT.wee]
 by_cases h7:k=7
 ·subst h7
  simp[FT.bare] at hb
  obtain⟨⟨⟨hao,rfl⟩,⟨⟨rfl,rfl⟩,rfl⟩⟩,rfl⟩:=hb
  exact⟨by simp,by simp,weeL_of (by simp)⟩
 ·by_cases h0:k=0∨k=1∨k=2
  ·have hz:an=[]:=by
    rcases h0 with rfl | rfl | rfl<;>(simp[FT.bare] at hb;simp_all)
   subst hz
   simp only[filterG,if_neg h7,if_pos h0] at hl
   rw[filtersF_map] at hl
   have hc:=enc_count (ps.map filterF)
   rw[List.length_map] at hc
   exact⟨by simp,by omega,weeL_of fun p hp=>ih p hp (hps p hp) (Nat.le_trans (enc_mem (List.mem_map_of_mem hp)) hl)⟩
  ·by_cases h4:k=4
   ·subst h4
    simp[FT.bare] at hb
    obtain⟨⟨⟨⟨⟨⟨hany,hao⟩,rfl⟩,hne⟩,rfl⟩,hf⟩,hl2⟩:=hb
    simp only[filterG,if_neg h7,if_neg h0,if_true] at hl
    have h2:=(enc_cons_le (enc_cons_le hl).2).1
    simp only[enc_app,List.length_append] at h2
    have hc:=enc_count (an.map anyF)
    rw[List.length_map] at hc
    exact⟨by omega,by simp,weeL_of (by simp)⟩
   ·have h3:k=3∨k=5∨k=6∨k=8:=by
     by_cases hk:k=3∨k=5∨k=6∨k=8
     ·exact hk
     ·exfalso
      have n0:¬(k=0∨k=1):=by omega
      have n2:k≠2:=by omega
      simp only[FT.bare,if_neg n0,if_neg n2,if_neg hk,if_neg h7,if_neg h4] at hb
      cases hb
    have hz:an=[]∧ps=[]:=by
     rcases h3 with rfl | rfl | rfl | rfl<;>(simp[FT.bare] at hb;simp_all)
    obtain⟨rfl,rfl⟩:=hz
    exact⟨by simp,by simp,weeL_of (by simp)⟩
theorem decode_wee {b:List UInt8} {m:MT} (h:Rd.decode b=some m):m.filt.wee:=by
 obtain⟨hf,hl,hb⟩:=decode_good h
 by_cases h3:m.kind=3
 ·have hfo:=hf.ok.filt h3
  simp only[FT.formed,Bool.and_eq_true] at hfo
  refine wee_of_len m.filt hfo.2 ?_
  have h1:(messageF m).2.length≤(bytesW m).length:=enc_mem (F:=[messageF m]) (by simp)
  have h2:(operF m).2.length≤(messageF m).2.length:=enc_mem (F:=numF 2 m.id::operF m::ctlsF m.ctls) (by simp)
  have e:(operF m).2=enc (contentF m):=by unfold operF;rw[h3];rfl
  rw[e] at h2
  have h4:(filterF m.filt).2.length≤(enc (contentF m)).length:=enc_mem (by unfold contentF;simp[h3])
  omega
 ·have hz:=((kept_zero hf.kept).2.1 h3).2.2.2.2.2.1
  rw[hz]
  simp[FT.wee,FT.weeL]
theorem decodeD_wee (b:List UInt8):((Rd.decode b).getD zeroM).filt.wee:=by
 cases h:Rd.decode b with
 | none=>simp[zeroM,FT.wee,FT.weeL]
 | some m=>exact decode_wee h
end Go.Proofs.YtpkedjohgmnhhaaGreat
namespace Go.Proofs.YtpkedjohgmnhhaaGreat
open Go.RowKit
set_option linter.unusedVariables false
structure Row8 (w:World) (g:Nat) (l:List UInt8):Prop where
 at_:∀(j:Nat) (x:UInt8),l[j]?=some x→w.cell? ⟨g,j,none⟩=some (.int .u8 (x.toNat:Int))
 fz:∀j:Nat,j<l.length→w.frozen? ⟨g,j,none⟩=false
 lt:g<w.heap.size
theorem Row8.below {w w':World} {g B:Nat} {l:List UInt8} (h:Row8 w g l) (hg:g<B) (hb:Below B w w'):Row8 w' g l:=
 ⟨fun j x hx=>(hb.cell (by exact hg)).trans (h.at_ j x hx),fun j hj=>(hb.frozen (by exact hg)).trans (h.fz j hj),Nat.lt_of_lt_of_le h.lt hb.size⟩
theorem Row8.set {w:World} {g:Nat} {l:List UInt8} (h:Row8 w g l) {j:Nat} (hj:j<l.length) (x:UInt8):Row8 (w.setCell ⟨g,j,none⟩ (.int .u8 (x.toNat:Int))) g (l.set j x):=by
 refine⟨fun k y hy=>?_,fun k hk=>?_,by simpa using h.lt⟩
 ·by_cases hkj:k=j
  ·subst hkj
   rw[List.getElem?_set_self hj] at hy
   obtain rfl:=Option.some.inj hy
   exact World.cell?_setCell_same _ _ _ (h.at_ k _ (List.getElem?_eq_getElem hj))
  ·rw [List.getElem?_set_ne (fun e=>hkj e.symm)] at hy
   rw[World.cell?_setCell_other _ _ _ _ (by intro e;injection e with _ e;exact hkj e.symm)]
   exact h.at_ k y hy
 ·rw [World.frozen?_setCell]
  exact h.fz k (by simpa using hk)
theorem Row8.has {w:World} {g:Nat} {l:List UInt8} (h:Row8 w g l):Has w (g+1) 1 (some ⟨g,0,none⟩) l.length (bys l):=by
 refine⟨by rw[bys_length];omega,.inr ⟨_,rfl,by simp,fun j u hu=>?_⟩⟩
 unfold bys at hu
 rw[List.getElem?_map] at hu
 cases hx:l[j]? with
 | none=>rw[hx] at hu;cases hu
 | some x=>
  rw[hx] at hu
  obtain rfl:=Option.some.inj hu
  have:(⟨g,0,none⟩:Addr).add j=⟨g,j,none⟩:=by unfold Addr.add;split<;>simp_all
  rw[this]
  exact h.at_ j x hx
theorem run_bytes8 {P:Program} (w:World) (s:ByteArray) (src dst e:TypeId) (hs:P.underlying src=some .string) (hd:P.underlying dst=some (.slice e)) (he:P.underlying e=some (.int .u8)):
  ∃cap w',(convert src dst (.string s)).run P w=.ok (.slice (some ⟨w.heap.size,0,none⟩) s.size cap) w'∧Row8 w' w.heap.size s.data.toList∧Below w.heap.size w w':=by
 refine⟨_,_,run_bytes_of_string w src dst e s hs hd he,?_,?_⟩
 ·refine ⟨fun j x hx=>?_,fun j hj=>?_,?_⟩
  ·have hj:j<s.data.size:=by
    have:=(List.getElem?_eq_some_iff.1 hx).1
    simpa using this
   have e1:=World.cell?_alloc_mark w.drew (bytesRow s (grownCap w s.size 0 e)) e ((bytesRow s (grownCap w s.size 0 e)).size,(bytesRow s (grownCap w s.size 0 e)).size+1) j
   refine e1.trans ?_
   rw[bytesRow_at s _ j hj]
   have hx':s.data[j]=x:=by
    have:=(List.getElem?_eq_some_iff.1 hx).2
    simpa using this
   rw[hx']
  ·have hj':j<s.data.size:=by simpa using hj
   have hsz:j<(bytesRow s (grownCap w s.size 0 e)).size:=by
    rw[bytesRow,Array.size_append,Array.size_map]
    omega
   have e1:=World.frozen?_alloc_mark w.drew (bytesRow s (grownCap w s.size 0 e)) e (bytesRow s (grownCap w s.size 0 e)).size ((bytesRow s (grownCap w s.size 0 e)).size+1) j
   refine e1.trans ?_
   rw[decide_eq_false (by omega)]
   rfl
  ·simp
 ·exact (Below.refl _ w).drew.alloc (by simp) _
structure WPost (bs:List UInt8) (w:World) (e:Ending) (w':World):Prop where
 out:∃v,e=.returned v∧w'.ownsRow w.heap.size 5 1 v bs.length (bys bs)∧Below w.heap.size w w'
theorem wtagged_any (t:UInt8) (s:List UInt8) (hs:s.length≤1073741824) (w:World):
  Calls Tryz.prog 102 #[c8 t,.string (txt s)] w (WPost (Ber.fieldOf t s) w):=by
 obtain⟨cap,w1,hrun,hR,hb⟩:=run_bytes8 (P:=Tryz.prog) w (txt s) 9 33 5 Tryz.underlying9 Tryz.underlying33 Tryz.underlying5
 rw[txt_size] at hrun
 have hR:Row8 w1 w.heap.size s:=hR
 have hf:=Ber.field_any t w1 (w.heap.size+1) (some ⟨w.heap.size,0,none⟩) s.length cap s hR.has hR.lt (by omega)
 generalize hg:w.heap.size=g at *
 have Hf:=hide hf
 have Hb:=hide hb
 have Hg:=hide hg
 have hsz:=hb.size
 clear hf hb hR hg
 go_enter Tryz.func102,Tryz.ntmps102
 go_wp2_with (go_at_call 62;fail)
 refine Hf.out.mono ?_
 rintro e w2 ⟨v,rfl,hown,hb2⟩
 have hown2:w2.ownsRow g 5 1 v (Ber.fieldOf t s).length (bys (Ber.fieldOf t s)):=own_base hown (by have:=Hb.out.size;have:=Hg.out;omega)
 have HO:=hide hown2
 have HB2:=hide (Hb.out.trans (hb2.mono (by have:=Hb.out.size;have:=Hg.out;omega)))
 clear hown hown2 hb2 Hf
 go_wp2
 go_ret
 exact⟨⟨_,rfl,by rw[Hg.out];exact HO.out,by rw[Hg.out];exact HB2.out⟩⟩
theorem wtext_any (s:List UInt8) (hs:s.length≤1073741824) (w:World):
  Calls Tryz.prog 101 #[.string (txt s)] w (WPost (Ber.fieldOf 4 s) w):=by
 have hf:=wtagged_any 4 s hs w
 rw[show c8 4=.int .u8 4 from rfl] at hf
 go_enter Tryz.func101,Tryz.ntmps101
 go_wp2_with (go_at_call 102;fail)
 refine hf.mono ?_
 rintro e w2 hpost
 obtain⟨v,rfl,hown,hb2⟩:=hpost.out
 have HO:=hide hown
 have HB:=hide hb2
 clear hpost hown hb2 hf
 go_wp2
 go_ret
 exact⟨⟨_,rfl,HO.out,HB.out⟩⟩
theorem field_own {t:UInt8} {bs:List UInt8} {w w1:World} {v:Value} (hown:w1.ownsRow w.heap.size 5 1 v bs.length (bys bs)) (hb:Below w.heap.size w w1) (hn:bs.length≤1073741824):
  Calls Tryz.prog 62 #[c8 t,v] w1 (WPost (Ber.fieldOf t bs) w):=by
 obtain⟨A,c,rfl,h1,h2⟩:=own_form hown
 refine (Ber.field_any t w1 w1.heap.size A bs.length c bs h2 (Nat.le_refl _) (by omega)).mono ?_
 rintro e w2 ⟨v,rfl,ho,hb2⟩
 exact⟨⟨v,rfl,own_base ho hb.size,hb.trans (hb2.mono hb.size)⟩⟩
theorem wnumber_any (t:UInt8) (n:Int) (h0: -9223372036854775808≤n) (h1:n≤9223372036854775807) (w:World):
  Calls Tryz.prog 61 #[c8 t,.int .i64 n] w (WPost (Ber.fieldOf t (Ber.intOfs n)) w):=by
 have hi:=Ber.int_any n w h0 h1
 have hl:=Ber.isize_le n
 have hl2:=Ber.intOfs_length n
 have hl3:(Ber.intOfs n).length≤8:=by omega
 clear hl hl2
 generalize Ber.intOfs n=c at *
 generalize hbs:Ber.fieldOf t c=bs at *
 have Hbs:=hide hbs
 clear hbs
 go_enter Tryz.func61,Tryz.ntmps61
 go_wp2_with (go_at_call 99;fail)
 refine hi.mono ?_
 rintro e w1 ⟨g,rfl,hown,hb1⟩
 have hf:=field_own (t:=t) hown hb1 (by omega)
 rw[Hbs.out] at hf
 clear hi hown hb1 h0 h1
 go_wp2_with (go_at_call 62;fail)
 refine hf.mono ?_
 rintro e w2 hpost
 obtain⟨v,rfl,hown,hb2⟩:=hpost.out
 have HO:=hide hown
 have HB:=hide hb2
 clear hpost hown hb2 hf
 go_wp2
 go_ret
 exact⟨⟨_,rfl,HO.out,HB.out⟩⟩
theorem wflag_any (b:Bool) (w:World):
  Calls Tryz.prog 113 #[.bool b] w (WPost (Ber.fieldOf 1 [if b then 255 else 0]) w):=by
 have hi:=Ber.bool_any b w
 have hown:(w.alloc (.cells #[c8 (if b then 255 else 0)] 5)).ownsRow w.heap.size 5 1 (.slice (some ⟨w.heap.size,0,none⟩) 1 1) [if b then (255:UInt8) else 0].length (bys [if b then 255 else 0]):=by
  have:=own_lit w #[c8 (if b then 255 else 0)] 5 1 (by unfold maxLen;omega) rfl
  simpa[bys] using this
 have hb1:Below w.heap.size w (w.alloc (.cells #[c8 (if b then 255 else 0)] 5)):=(Below.refl _ w).alloc (Nat.le_refl _) _
 have hf:=field_own (t:=1) hown hb1 (by simp)
 rw[show c8 1=.int .u8 1 from rfl] at hf
 clear hown hb1
 generalize w.alloc (.cells #[c8 (if b then 255 else 0)] 5)=w1 at *
 generalize hg:w.heap.size=g at *
 generalize Ber.fieldOf 1 [if b then 255 else 0]=bs at *
 cases b
 all_goals
  go_enter Tryz.func113,Tryz.ntmps113
  go_wp2_with (go_at_call 148;fail)
  refine hi.mono ?_
  rintro e w9 ⟨rfl,hw9⟩
  obtain rfl:=hw9.symm
  clear hi
  go_wp2_with (go_at_call 62;fail)
  refine hf.mono ?_
  rintro e w2 hpost
  obtain⟨v,rfl,hown,hb2⟩:=hpost.out
  have HO:=hide hown
  have HB:=hide hb2
  clear hpost hown hb2 hf
  go_wp2
  go_ret
  exact⟨⟨_,rfl,HO.out,HB.out⟩⟩
end Go.Proofs.YtpkedjohgmnhhaaGreat
namespace Go.Proofs.YtpkedjohgmnhhaaGreat
open Go.RowKit
set_option linter.unusedVariables false
def encV (m:MT) (b:List UInt8):Prop:=m.filt.formed=true∧Rd.decode b=some m
structure EncPost (m:MT) (b:List UInt8) (w:World) (e:Ending) (w':World):Prop where
 yes:encV m b→∃v,e=.returned (.tuple #[v,.int .i64 0])∧w'.ownsRow w.heap.size 5 1 v b.length (bys b)
 no:¬encV m b→e=.returned (.tuple #[.slice none 0 0,.int .i64 1])
 below:Below w.heap.size w w'
theorem loadG {ops:Array Oper} {rest:List Oper} {op:Oper} {a:Act} {w:World} {Q:Exit→Act→World→Prop} (hw:Region.wanted op (yielded ops a.tmps)=true) (x:Operand) (ho:op.op=.load 42 x)
  (b:Nat) (hx:a.eval x=.pointer (some ⟨b,0,none⟩)) (cs:List Value) (hc:Blk w b cs) (hn:cs.length=32)
  (h:wpList Tryz.prog ops Q rest (a.put op.dst (.agg cs.toArray)) w):wpList Tryz.prog ops Q (op::rest) a w:=
 wpList_step fun K hK=>by
  rw[if_pos hw]
  exact wp_load_mid 42 x ho b 0 hx cs _ hc.range Tryz.underlying42 rfl (by rw[hn];kernel_rfl) (hK _ _ h)
theorem repM_below {w w':World} {m:MT} {v:Value} (h:repM w (inB w) m v) (hb:Below w.heap.size w w'):repM w' (inB w') m v:=by
 obtain⟨f0,f1,f2,f3,f4,f5,f6,va,vl,vc,vr,vk,rfl,hX⟩:=h
 exact⟨f0,f1,f2,f3,f4,f5,f6,va,vl,vc,vr,vk,rfl,hX.below hb⟩
theorem encode_of (w:World) (m:MT) (v:Value) (hm:repM w (inB w) m v) (b:List UInt8) (hlen:b.length≤1073741824)
  (hW:m.filt.formed=true→∀W,Below w.heap.size w W→Calls Tryz.prog 22 #[v] W (WPost b W)):
  Calls Tryz.prog 11 #[v] w (EncPost m b w):=by
 have hm0:=hm
 obtain⟨f0,f1,f2,f3,f4,f5,f6,va,vl,vc,vr,vk,rfl,hX⟩:=hm
 obtain⟨cs,hcs⟩:∃cs,mcells m f0 f1 f2 f3 f4 f5 f6 va vl vc vr vk=cs:=⟨_,rfl⟩
 have hn:cs.length=32:=by rw[←hcs];rfl
 rw[hcs] at hm0 hW ⊢
 have hB1:Blk (w.alloc (.cells cs.toArray 42)) w.heap.size cs:=Blk.new w cs 42
 have hf1:Fr (fun _=>False) w (w.alloc (.cells cs.toArray 42)):=Fr.alloc _ _ _
 obtain⟨w1,hw1⟩:∃w1,w.alloc (.cells cs.toArray 42)=w1:=⟨_,rfl⟩
 rw[hw1] at hB1 hf1
 have hb1:Below w.heap.size w w1:=hf1.below (Nat.le_refl _) (fun k q=>q.elim)
 have hs1:w.heap.size<w1.heap.size:=by rw[←hw1];simp
 obtain⟨p1,hp1⟩:∃p1,w.heap.size=p1:=⟨_,rfl⟩
 rw[hp1] at hB1
 have hfo:=jFormed_any m.filt w1 f0 f1 f2 f3 f4 f5 f6 (FInP.fin (B:=w1.heap.size) (fun k hk=>hk) (hX.below hb1).filt)
 have rF:w1.rangeAt p1 10 [f0,f1,f2,f3,f4,f5,f6]:=hB1.part 10 _ fun j u hu=>by
  rw[←hcs]
  match j,hu with
  | 0,hu=>exact hu
  | 1,hu=>exact hu
  | 2,hu=>exact hu
  | 3,hu=>exact hu
  | 4,hu=>exact hu
  | 5,hu=>exact hu
  | 6,hu=>exact hu
 obtain⟨fo,hfv⟩:∃fo,m.filt.formed=fo:=⟨_,rfl⟩
 rw[hfv] at hfo hW
 have Hfo:=hide hfo
 have HW:=hide hW
 have HB1:=hide hB1
 have Hb1:=hide hb1
 have Hw1:=hide hw1
 have Hp:=hide hp1
 have Hm:=hide hm0
 have HF:=hide rF
 have Hfv:=hide hfv
 have Hs1:=hide hs1
 have Hlen:=hide hlen
 clear hX hB1 hf1 hw1 hb1 hs1 hp1 hfo rF hW hm0 hcs hfv hlen
 cases fo with
 | false=>
  have hno:Hid (¬encV m b):=hide (fun h=>by have:=h.1;rw[Hfv.out] at this;cases this)
  clear HW Hm Hlen
  go_enter Tryz.func11,Tryz.ntmps11
  go_upto_region 1 with fail
  rw[Hw1.out,Hp.out]
  go_wp2_with (first | (go_at_call 21;fail) | (refine wpList_load_mid rfl 39 (.tmp 7) rfl p1 10 rfl [f0,f1,f2,f3,f4,f5,f6] _ HF.out Tryz.underlying39 rfl (by kernel_rfl) ?_))
  refine Hfo.out.mono ?_
  rintro e w2 ⟨rfl,hb2⟩
  have HB2:=hide (Hb1.out.trans (hb2.mono Hb1.out.size))
  clear hb2 Hfo HF HB1
  go_wp2
  go_returns
  exact⟨fun h=>absurd h hno.out,fun _=>rfl,HB2.out⟩
 | true=>
  go_enter Tryz.func11,Tryz.ntmps11
  go_upto_region 1 with fail
  rw[Hw1.out,Hp.out]
  go_wp2_with (first | (go_at_call 21;fail) | (refine wpList_load_mid rfl 39 (.tmp 7) rfl p1 10 rfl [f0,f1,f2,f3,f4,f5,f6] _ HF.out Tryz.underlying39 rfl (by kernel_rfl) ?_))
  refine Hfo.out.mono ?_
  rintro e w2 ⟨rfl,hb2⟩
  have HB2:=hide (Hb1.out.trans (hb2.mono Hb1.out.size))
  have HK2:=hide (HB1.out.fr (Fr.of (X:=fun _=>False) hb2) id)
  clear hb2 Hfo HF HB1 Hb1
  have HWr:=hide (HW.out (by first | rfl | trivial) w2 HB2.out)
  clear HW
  go_wp2_with (first | (go_at_call 22;fail) | (refine loadM rfl (.tmp 1) rfl p1 rfl cs HK2.out hn ?_))
  refine HWr.out.mono ?_
  rintro e w3 hpost
  obtain⟨vb,rfl,hown,hb3⟩:=hpost.out
  have HB3:=hide (HB2.out.trans (hb3.mono HB2.out.size))
  have HK3:=hide (HK2.out.fr (Fr.of (X:=fun _=>False) hb3) id)
  obtain⟨A,c,rfl,hc1,hcm,hH⟩:=Ber.own_form' hown
  have hde:=decode_any w3 A c b hH hc1 hcm
  have HO3:=hide (own_base hown HB2.out.size)
  have Hde:=hide hde
  clear hpost hown hb3 hde HWr HK2 HB2 hH
  obtain⟨nb,hnb⟩:∃nb,b.length=nb:=⟨_,rfl⟩
  have Hnb:=hide hnb
  rw[hnb] at Hde
  simp only
  rw[hnb]
  clear hnb hc1 hcm
  go_wp2_with (go_at_call 14;fail)
  refine Hde.out.mono ?_
  rintro e w4 hpost
  obtain⟨m2,v2,rfl,hrep,hm2,hb4⟩:=hpost.out
  have hwee:=decodeD_wee b
  rw[←hm2] at hwee
  obtain⟨g0,g1,g2,g3,g4,g5,g6,ua,ul,uc,ur,uk,rfl,hY⟩:=hrep
  obtain⟨cy,hcy⟩:∃cy,mcells m2 g0 g1 g2 g3 g4 g5 g6 ua ul uc ur uk=cy:=⟨_,rfl⟩
  have hny:cy.length=32:=by rw[←hcy];rfl
  have hBz:Blk (w4.alloc (.cells #[.int .i64 0,.int .i64 0,.string ⟨#[]⟩,.string ⟨#[]⟩,.int .i64 0,.int .i64 0,.int .i64 0,.int .i64 0,.int .i64 0,.bool false,.int .i64 0,.string ⟨#[]⟩,.string ⟨#[]⟩,.string ⟨#[]⟩,.string ⟨#[]⟩,.slice none 0 0,.slice none 0 0,.slice none 0 0,.slice none 0 0,.slice none 0 0,.string ⟨#[]⟩,.bool false,.bool false,.string ⟨#[]⟩,.string ⟨#[]⟩,.string ⟨#[]⟩,.int .i64 0,.int .i64 0,.string ⟨#[]⟩,.string ⟨#[]⟩,.slice none 0 0,.slice none 0 0] 42)) w4.heap.size zeroCells:=Blk.new w4 zeroCells 42
  have h1y:=MReps.one hY
  rw[hcy] at h1y
  have hB5:Blk (World.setCells (w4.alloc (.cells #[.int .i64 0,.int .i64 0,.string ⟨#[]⟩,.string ⟨#[]⟩,.int .i64 0,.int .i64 0,.int .i64 0,.int .i64 0,.int .i64 0,.bool false,.int .i64 0,.string ⟨#[]⟩,.string ⟨#[]⟩,.string ⟨#[]⟩,.string ⟨#[]⟩,.slice none 0 0,.slice none 0 0,.slice none 0 0,.slice none 0 0,.slice none 0 0,.string ⟨#[]⟩,.bool false,.bool false,.string ⟨#[]⟩,.string ⟨#[]⟩,.string ⟨#[]⟩,.int .i64 0,.int .i64 0,.string ⟨#[]⟩,.string ⟨#[]⟩,.slice none 0 0,.slice none 0 0] 42)) w4.heap.size 0 cy) w4.heap.size cy:=hBz.sets 0 cy (by rw[hny];exact Nat.le_refl _) cy (by rw[List.drop_eq_nil_of_le (by rw[hny];exact Nat.le_refl _)];simp)
  have hf5:Fr (fun _=>False) w4 (World.setCells (w4.alloc (.cells #[.int .i64 0,.int .i64 0,.string ⟨#[]⟩,.string ⟨#[]⟩,.int .i64 0,.int .i64 0,.int .i64 0,.int .i64 0,.int .i64 0,.bool false,.int .i64 0,.string ⟨#[]⟩,.string ⟨#[]⟩,.string ⟨#[]⟩,.string ⟨#[]⟩,.slice none 0 0,.slice none 0 0,.slice none 0 0,.slice none 0 0,.slice none 0 0,.string ⟨#[]⟩,.bool false,.bool false,.string ⟨#[]⟩,.string ⟨#[]⟩,.string ⟨#[]⟩,.int .i64 0,.int .i64 0,.string ⟨#[]⟩,.string ⟨#[]⟩,.slice none 0 0,.slice none 0 0] 42)) w4.heap.size 0 cy):=(Fr.alloc (fun _=>False) w4 _).trans' (Fr.setCells (X:=fun k=>k=w4.heap.size) _ w4.heap.size 0 cy rfl) (fun k hk q=>by omega)
  have HBz:=hide hBz
  have H1y:=hide h1y
  obtain⟨w5,hw5⟩:∃w5,World.setCells (w4.alloc (.cells #[.int .i64 0,.int .i64 0,.string ⟨#[]⟩,.string ⟨#[]⟩,.int .i64 0,.int .i64 0,.int .i64 0,.int .i64 0,.int .i64 0,.bool false,.int .i64 0,.string ⟨#[]⟩,.string ⟨#[]⟩,.string ⟨#[]⟩,.string ⟨#[]⟩,.slice none 0 0,.slice none 0 0,.slice none 0 0,.slice none 0 0,.slice none 0 0,.string ⟨#[]⟩,.bool false,.bool false,.string ⟨#[]⟩,.string ⟨#[]⟩,.string ⟨#[]⟩,.int .i64 0,.int .i64 0,.string ⟨#[]⟩,.string ⟨#[]⟩,.slice none 0 0,.slice none 0 0] 42)) w4.heap.size 0 cy=w5:=⟨_,rfl⟩
  rw[hw5] at hB5 hf5
  have hb5:Below w4.heap.size w4 w5:=hf5.below (Nat.le_refl _) (fun k q=>q.elim)
  clear hBz h1y
  obtain⟨p5,hp5⟩:∃p5,w4.heap.size=p5:=⟨_,rfl⟩
  rw[hp5] at hB5
  have hrY:repM w5 (inB w5) m2 (.agg cy.toArray):=⟨g0,g1,g2,g3,g4,g5,g6,ua,ul,uc,ur,uk,by rw[hcy],hY.move (fun p hp=>hb5.cell (by exact hp.2)) (fun k hk=>Nat.lt_of_lt_of_le hk.2 hb5.size)⟩
  have hb35:Below w3.heap.size w3 w5:=hb4.trans (hb5.mono hb4.size)
  have HB5:=hide (HB3.out.trans (hb35.mono HB3.out.size))
  have hrX:=repM_below Hm.out HB5.out
  obtain⟨R,hR⟩:=boolOf (m2=m)
  have hsa:=same_any w5 m2 m _ _ hrY hrX hwee R hR
  have HSa:=hide hsa
  have HK5:=hide (HK3.out.fr (Fr.of (X:=fun _=>False) hb35) id)
  have HY5:=hide hB5
  have HO5:=hide (own_below HO3.out (hb35))
  have Hw5:=hide hw5
  have Hp5:=hide hp5
  have Hm2:=hide hm2
  have HR:=hide hR
  rw[hcy]
  clear hpost hY hcy hB5 hf5 hw5 hb5 hp5 hrY hb35 hrX hsa hwee hm2 hR hb4 HB3 HK3 HO3 Hde Hm
  cases hd:Rd.decode b with
  | none=>
   have hno:Hid (¬encV m b):=hide (fun h=>by have:=h.2;rw[hd] at this;cases this)
   obtain⟨E,hE⟩:∃E:Int,(if 16384<b.length then (4:Int) else if (none:Option MT).isSome=true then 0 else 2)=E:=⟨_,rfl⟩
   have hne:E≠0:=by rw[←hE];split<;>simp
   have hn1:(E==0)=false:=beq_false_of_ne hne
   have hn2:(E !=0)=true:=bne_iff_ne.2 hne
   rw[hE]
   clear hE hd HSa HY5 HO5 Hm2 HR hne HK5
   go_upto_region 5 with (refine storeM (w4.alloc (.cells #[.int .i64 0,.int .i64 0,.string ⟨#[]⟩,.string ⟨#[]⟩,.int .i64 0,.int .i64 0,.int .i64 0,.int .i64 0,.int .i64 0,.bool false,.int .i64 0,.string ⟨#[]⟩,.string ⟨#[]⟩,.string ⟨#[]⟩,.string ⟨#[]⟩,.slice none 0 0,.slice none 0 0,.slice none 0 0,.slice none 0 0,.slice none 0 0,.string ⟨#[]⟩,.bool false,.bool false,.string ⟨#[]⟩,.string ⟨#[]⟩,.string ⟨#[]⟩,.int .i64 0,.int .i64 0,.string ⟨#[]⟩,.string ⟨#[]⟩,.slice none 0 0,.slice none 0 0] 42)) rfl (.tmp 5) (.tmp 16) rfl w4.heap.size zeroCells cy rfl rfl HBz.out rfl hny H1y.out ?_)
   rw[Hw5.out]
   try rw[Hp5.out]
   go_wp2
   go_returns
   exact⟨fun h=>absurd h hno.out,fun _=>rfl,HB5.out⟩
  | some m0=>
   have hlo:=(decode_good hd).2.2
   have hcode:(if 16384<b.length then (4:Int) else if (some m0).isSome=true then 0 else 2)=0:=by rw[if_neg (by omega)];rfl
   have hm20:m2=m0:=by rw[Hm2.out,hd];rfl
   have Hd:=hide hd
   have Hm20:=hide hm20
   rw[hcode]
   clear hcode hlo hd hm20 Hm2
   go_upto_region 5 with (refine storeM (w4.alloc (.cells #[.int .i64 0,.int .i64 0,.string ⟨#[]⟩,.string ⟨#[]⟩,.int .i64 0,.int .i64 0,.int .i64 0,.int .i64 0,.int .i64 0,.bool false,.int .i64 0,.string ⟨#[]⟩,.string ⟨#[]⟩,.string ⟨#[]⟩,.string ⟨#[]⟩,.slice none 0 0,.slice none 0 0,.slice none 0 0,.slice none 0 0,.slice none 0 0,.string ⟨#[]⟩,.bool false,.bool false,.string ⟨#[]⟩,.string ⟨#[]⟩,.string ⟨#[]⟩,.int .i64 0,.int .i64 0,.string ⟨#[]⟩,.string ⟨#[]⟩,.slice none 0 0,.slice none 0 0] 42)) rfl (.tmp 5) (.tmp 16) rfl w4.heap.size zeroCells cy rfl rfl HBz.out rfl hny H1y.out ?_)
   rw[Hw5.out]
   try rw[Hp5.out]
   go_wp2_with (first | (go_at_call 18;fail) | (refine loadG (by rfl) (.tmp 5) rfl p5 rfl cy HY5.out hny ?_) | (refine loadG (by rfl) (.tmp 1) rfl p1 rfl cs HK5.out hn ?_))
   refine HSa.out.mono ?_
   rintro e w6 ⟨rfl,hb6⟩
   have HB6:=hide (HB5.out.trans (hb6.mono HB5.out.size))
   have HO6:=hide (own_below HO5.out hb6)
   clear hb6 HSa HY5 HK5 HO5 HB5
   cases R with
   | false=>
    have hno:Hid (¬encV m b):=hide (fun h=>by
     have h1:=h.2
     rw[Hd.out] at h1
     have:=HR.out.2 (by rw[Hm20.out];exact Option.some.inj h1)
     cases this)
    go_wp2
    go_returns
    exact⟨fun h=>absurd h hno.out,fun _=>rfl,HB6.out⟩
   | true=>
    have hyes:Hid (encV m b):=hide ⟨Hfv.out,by rw[Hd.out,←Hm20.out,HR.out.1 rfl]⟩
    rw[Hnb.out] at HO6
    go_wp2
    go_returns
    exact⟨fun _=>⟨_,rfl,by rw[Hnb.out];exact HO6.out⟩,fun h=>absurd hyes.out h,HB6.out⟩
end Go.Proofs.YtpkedjohgmnhhaaGreat
