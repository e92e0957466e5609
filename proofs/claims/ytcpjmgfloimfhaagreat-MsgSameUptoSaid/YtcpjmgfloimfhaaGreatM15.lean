/- Several texts in one: LSame2, LWee, LWr1, LEncode, LConcat, LWrMsg, LWrTwo, LLongI, MLawSame. By an AI agent. -/
import Derived.Test.YtcpjmgfloimfhaaGreatLSame
import Derived.Test.YtcpjmgfloimfhaaGreatM10
import Derived.Test.YtcpjmgfloimfhaaGreatM14
import Derived.Test.YtcpjmgfloimfhaaGreatM03
import Derived.Test.YtcpjmgfloimfhaaGreatM02
import Derived.Test.YtcpjmgfloimfhaaGreatM01
import Derived.Laws.IdiomStrings
import Derived.Lib.AppendZeros
import Derived.Test.YtcpjmgfloimfhaaGreatRSame
import Derived.Test.YtcpjmgfloimfhaaGreatMTheirs
import Derived.Test.YtcpjmgfloimfhaaGreatMSmall
set_option linter.unusedSimpArgs false
set_option linter.unusedVariables false
set_option maxRecDepth 100000
set_option maxHeartbeats 64000000
namespace Go.Proofs.YtcpjmgfloimfhaaGreat
open Go.RowKit
set_option linter.unusedVariables false
theorem same_any (w:World) (x y:MT) (v v':Value) (hx:repM w (inB w) x v) (hy:repM w (inB w) y v') (hwee:x.filt.wee) (R:Bool) (hR:R=true↔x=y):
  Calls Tryz.prog 18 #[v,v'] w fun e w'=>e=.returned (.bool R)∧Below w.heap.size w w':=by
 obtain⟨f0,f1,f2,f3,f4,f5,f6,va,vl,vc,vr,vk,rfl,hX⟩:=hx
 obtain⟨g0,g1,g2,g3,g4,g5,g6,ua,ul,uc,ur,uk,rfl,hY⟩:=hy
 obtain⟨cx,hcx⟩:∃cx,mcells x f0 f1 f2 f3 f4 f5 f6 va vl vc vr vk=cx:=⟨_,rfl⟩
 obtain⟨cy,hcy⟩:∃cy,mcells y g0 g1 g2 g3 g4 g5 g6 ua ul uc ur uk=cy:=⟨_,rfl⟩
 have hnx:cx.length=32:=by rw[←hcx];rfl
 have hny:cy.length=32:=by rw[←hcy];rfl
 have hB1:Blk (w.alloc (.cells cx.toArray 42)) w.heap.size cx:=Blk.new w cx 42
 have hf1:Fr (fun _=>False) w (w.alloc (.cells cx.toArray 42)):=Fr.alloc _ _ _
 obtain⟨w1,hw1⟩:∃w1,w.alloc (.cells cx.toArray 42)=w1:=⟨_,rfl⟩
 have hs1:w1.heap.size=w.heap.size+1:=by rw[←hw1];simp
 rw[hw1] at hB1 hf1
 have hB2:Blk (w1.alloc (.cells cy.toArray 42)) w1.heap.size cy:=Blk.new w1 cy 42
 have hf2:Fr (fun _=>False) w1 (w1.alloc (.cells cy.toArray 42)):=Fr.alloc _ _ _
 obtain⟨w2,hw2⟩:∃w2,w1.alloc (.cells cy.toArray 42)=w2:=⟨_,rfl⟩
 rw[hw2] at hB2 hf2
 have hB1b:=hB1.fr hf2 id
 have hb:Below w.heap.size w w2:=(hf1.trans hf2).below (Nat.le_refl _) (fun k q=>q.elim)
 rw[hs1] at hB2
 obtain⟨p1,hp1⟩:∃p1,w.heap.size=p1:=⟨_,rfl⟩
 obtain⟨p2,hp2⟩:∃p2,w.heap.size+1=p2:=⟨_,rfl⟩
 rw[hp1] at hB1b
 rw[hp2] at hB2
 have kX:∀W,Below w2.heap.size w2 W→Blk W p1 cx:=fun W hW=>hB1b.fr (Fr.of (X:=fun _=>False) hW) id
 have kY:∀W,Below w2.heap.size w2 W→Blk W p2 cy:=fun W hW=>hB2.fr (Fr.of (X:=fun _=>False) hW) id
 have rX:∀W,Below w2.heap.size w2 W→MReps W (inB W) x f0 f1 f2 f3 f4 f5 f6 va vl vc vr vk:=fun W hW=>(hX.below hb).below hW
 have rY:∀W,Below w2.heap.size w2 W→MReps W (inB W) y g0 g1 g2 g3 g4 g5 g6 ua ul uc ur uk:=fun W hW=>(hY.below hb).below hW
 obtain⟨b1,h1⟩:=boolOf (x.id=y.id∧x.kind=y.kind∧x.ver=y.ver∧x.scope=y.scope∧x.deref=y.deref∧x.size=y.size∧x.time=y.time∧x.target=y.target∧x.code=y.code)
 obtain⟨b2,h2⟩:=boolOf (x.name=y.name∧x.pw=y.pw∧x.nrdn=y.nrdn∧x.sup=y.sup∧x.attr=y.attr∧x.value=y.value∧x.matched=y.matched∧x.text=y.text)
 obtain⟨b3,h3⟩:=boolOf (x.tonly=y.tonly∧x.delold=y.delold∧x.hassup=y.hassup)
 obtain⟨b4,h4⟩:=boolOf (x.filt=y.filt)
 obtain⟨b5,h5⟩:=boolOf (x.attrs=y.attrs)
 obtain⟨b6,h6⟩:=boolOf (x.lst=y.lst)
 obtain⟨b7,h7⟩:=boolOf (x.chs=y.chs)
 obtain⟨b8,h8⟩:=boolOf (x.refs=y.refs)
 obtain⟨b9,h9⟩:=boolOf (x.ctls=y.ctls)
 have eqt:∀(W:World) (L M:List (List UInt8)) (a u:Value) (b:Bool),repL elT W (inB W) L a→repL elT W (inB W) M u→(b=true↔L=M)→Calls Tryz.prog 51 #[a,u] W fun e w'=>e=.returned (.bool b)∧Below W.heap.size W w':=fun W L M a u b ha hu hbb=>by
  obtain⟨A,c,xs,rfl,hl,hA,hr⟩:=ha
  obtain⟨B,d,ys,rfl,hm,hB,hr'⟩:=hu
  have e1:=rowT_strs hr
  have e2:=rowT_strs hr'
  subst e1 e2
  have:=jequal_any W A B L.length c M.length d L M (HasP.has hA fun k hk=>hk) (HasP.has hB fun k hk=>hk) (by omega)
  have hd:b=decide (L=M):=by
   cases b with
   | true=>rw[decide_eq_true (hbb.1 rfl)]
   | false=>rw[decide_eq_false];intro e;have:=hbb.2 e;cases this
  rw[hd]
  exact this
 rw[hcx,hcy]
 refine same_walk w w2 p1 p2 cx.toArray cy.toArray #[.int .i64 x.id,.int .i64 x.kind,.int .i64 x.ver,.int .i64 x.scope,.int .i64 x.deref,.int .i64 x.size,.int .i64 x.time,.int .i64 x.target,.int .i64 x.code] #[.int .i64 y.id,.int .i64 y.kind,.int .i64 y.ver,.int .i64 y.scope,.int .i64 y.deref,.int .i64 y.size,.int .i64 y.time,.int .i64 y.target,.int .i64 y.code]
  #[.string (txt x.name),.string (txt x.pw),.string (txt x.nrdn),.string (txt x.sup),.string (txt x.attr),.string (txt x.value),.string (txt x.matched),.string (txt x.text)] #[.string (txt y.name),.string (txt y.pw),.string (txt y.nrdn),.string (txt y.sup),.string (txt y.attr),.string (txt y.value),.string (txt y.matched),.string (txt y.text)]
  #[.bool x.tonly,.bool x.delold,.bool x.hassup] #[.bool y.tonly,.bool y.delold,.bool y.hassup] (.agg #[f0,f1,f2,f3,f4,f5,f6]) (.agg #[g0,g1,g2,g3,g4,g5,g6]) va vr vl vc vk ua ul uc ur uk b1 b2 b3 b4 b5 b6 b7 b8 b9 R
  (hide (by rw[hw1];exact hw2)) (hide ⟨hp1,hp2⟩) (hide hb) (hide fun W hW=>?_) (hide fun W hW=>?_) (hide fun W hW=>?_) (hide fun W hW=>?_)
  (hide fun W hW=>loadT W _ _ ((kX W hW).cells 17 _ (by rw[←hcx];rfl))) (hide fun W hW=>loadT W _ _ ((kY W hW).cells 17 _ (by rw[←hcy];rfl)))
  (hide fun W hW=>loadA W _ _ ((kX W hW).cells 18 _ (by rw[←hcx];rfl))) (hide fun W hW=>loadA W _ _ ((kY W hW).cells 18 _ (by rw[←hcy];rfl)))
  (hide fun W hW=>loadH W _ _ ((kX W hW).cells 19 _ (by rw[←hcx];rfl))) (hide fun W hW=>loadH W _ _ ((kY W hW).cells 19 _ (by rw[←hcy];rfl)))
  (hide fun W hW=>loadT W _ _ ((kX W hW).cells 30 _ (by rw[←hcx];rfl))) (hide fun W hW=>loadT W _ _ ((kY W hW).cells 30 _ (by rw[←hcy];rfl)))
  (hide fun W hW=>loadC W _ _ ((kX W hW).cells 31 _ (by rw[←hcx];rfl))) (hide fun W hW=>loadC W _ _ ((kY W hW).cells 31 _ (by rw[←hcy];rfl)))
  (hide fun W hW=>by rw[←hcx];exact numbers_any W x _ _ _ _ _ _ _ _ _ _ _ _) (hide fun W hW=>by rw[←hcy];exact numbers_any W y _ _ _ _ _ _ _ _ _ _ _ _)
  (hide fun W hW=>by rw[←hcx];exact texts_any W x _ _ _ _ _ _ _ _ _ _ _ _) (hide fun W hW=>by rw[←hcy];exact texts_any W y _ _ _ _ _ _ _ _ _ _ _ _)
  (hide fun W hW=>by rw[←hcx];exact flags_any W x _ _ _ _ _ _ _ _ _ _ _ _) (hide fun W hW=>by rw[←hcy];exact flags_any W y _ _ _ _ _ _ _ _ _ _ _ _)
  (hide fun W hW=>jsame_any x.filt hwee y.filt W _ _ _ _ _ _ _ _ _ _ _ _ _ _ (FInP.fin (B:=W.heap.size) (fun k hk=>hk) (rX W hW).filt) (FInP.fin (B:=W.heap.size) (fun k hk=>hk) (rY W hW).filt) b4 h4)
  (hide fun W hW=>eqt W _ _ _ _ b5 (rX W hW).attrs (rY W hW).attrs h5) (hide fun W hW=>eqt W _ _ _ _ b8 (rX W hW).refs (rY W hW).refs h8)
  (hide fun W hW=>?_) (hide fun W hW=>?_) (hide fun W hW=>?_)
  (numbers_eq _ _ _ _ _ _ _ _ _ _ _ _ _ _ _ _ _ _ b1 h1) (texts_eq _ _ _ _ _ _ _ _ _ _ _ _ _ _ _ _ b2 h2) (flags_eq _ _ _ _ _ _ b3 h3)
  (hide (not_of h1 hR (by rintro rfl;exact⟨rfl,rfl,rfl,rfl,rfl,rfl,rfl,rfl,rfl⟩))) (hide (not_of h2 hR (by rintro rfl;exact⟨rfl,rfl,rfl,rfl,rfl,rfl,rfl,rfl⟩))) (hide (not_of h3 hR (by rintro rfl;exact⟨rfl,rfl,rfl⟩))) (hide (not_of h4 hR (by rintro rfl;rfl))) (hide (not_of h5 hR (by rintro rfl;rfl))) (hide (not_of h6 hR (by rintro rfl;rfl))) (hide (not_of h7 hR (by rintro rfl;rfl))) (hide (not_of h8 hR (by rintro rfl;rfl))) (hide (not_of h9 hR (by rintro rfl;rfl)))
  (hide fun q1 q2 q3 q4 q5 q6 q7 q8 q9=>hR.2 ?_)
 ·exact run_loadVar_mid W p1 0 42 cx _ (kX W hW).range Tryz.underlying42 rfl (by rw[hnx];kernel_rfl)
 ·exact run_loadVar_mid W p2 0 42 cy _ (kY W hW).range Tryz.underlying42 rfl (by rw[hny];kernel_rfl)
 ·refine run_loadVar_mid W p1 10 39 [f0,f1,f2,f3,f4,f5,f6] _ ((kX W hW).part 10 _ fun j u hu=>?_) Tryz.underlying39 rfl (by kernel_rfl)
  rw[←hcx]
  match j,hu with
  | 0,hu=>exact hu
  | 1,hu=>exact hu
  | 2,hu=>exact hu
  | 3,hu=>exact hu
  | 4,hu=>exact hu
  | 5,hu=>exact hu
  | 6,hu=>exact hu
 ·refine run_loadVar_mid W p2 10 39 [g0,g1,g2,g3,g4,g5,g6] _ ((kY W hW).part 10 _ fun j u hu=>?_) Tryz.underlying39 rfl (by kernel_rfl)
  rw[←hcy]
  match j,hu with
  | 0,hu=>exact hu
  | 1,hu=>exact hu
  | 2,hu=>exact hu
  | 3,hu=>exact hu
  | 4,hu=>exact hu
  | 5,hu=>exact hu
  | 6,hu=>exact hu
 ·have ha:=(rX W hW).lst
  have hu:=(rY W hW).lst
  obtain⟨A,n,c,rfl⟩:=repL_slice ha
  obtain⟨A',n',c',rfl⟩:=repL_slice hu
  exact equalfA_any W _ _ _ _ _ _ _ _ ha hu b6 h6
 ·have ha:=(rX W hW).chs
  have hu:=(rY W hW).chs
  obtain⟨A,n,c,rfl⟩:=repL_slice ha
  obtain⟨A',n',c',rfl⟩:=repL_slice hu
  exact equalfH_any W _ _ _ _ _ _ _ _ ha hu b7 h7
 ·have ha:=(rX W hW).ctls
  have hu:=(rY W hW).ctls
  obtain⟨A,n,c,rfl⟩:=repL_slice ha
  obtain⟨A',n',c',rfl⟩:=repL_slice hu
  exact equalC_any W _ _ _ _ _ _ _ _ ha hu b9 h9
 ·obtain ⟨n1,n2,n3,n4,n5,n6,n7,n8,n9⟩:=h1.1 q1
  obtain⟨t1,t2,t3,t4,t5,t6,t7,t8⟩:=h2.1 q2
  obtain⟨l1,l2,l3⟩:=h3.1 q3
  have s4:=h4.1 q4
  have s5:=h5.1 q5
  have s6:=h6.1 q6
  have s7:=h7.1 q7
  have s8:=h8.1 q8
  have s9:=h9.1 q9
  cases x
  cases y
  simp only at *
  simp only[MT.mk.injEq]
  exact⟨n1,n2,t1,t2,n3,n4,n5,n6,n7,l1,s4,s5,s6,s7,t3,l2,l3,t4,t5,t6,n8,n9,t7,t8,s8,s9⟩
end Go.Proofs.YtcpjmgfloimfhaaGreat
namespace Go.Proofs.YtcpjmgfloimfhaaGreat
open Go.RowKit
open Wr
set_option linter.unusedVariables false
theorem weeL_of:∀{ps:List FT},(∀p∈ps,p.wee)→FT.weeL ps
 | [],_=>by simp[FT.weeL]
 | p::r,h=>by
  simp only[FT.weeL]
  exact⟨h p (List.mem_cons_self ..),weeL_of fun q hq=>h q (List.mem_cons_of_mem _ hq)⟩
theorem wee_of_len (t:FT):t.all=true→(filterF t).2.length≤16384→t.wee:=by
 induction t using FT.induct
 rename_i k a v f l an ps ih
 intro ha hl
 simp only[FT.all,Bool.and_eq_true,FT.allL_all,List.all_eq_true] at ha
 obtain⟨hb,hps⟩:=ha
 simp only[filterF] at hl
 simp only[FT.wee]
 by_cases h7:k=7
 ·subst h7
  simp[FT.bare] at hb
  obtain⟨⟨⟨hao,rfl⟩,⟨⟨rfl,rfl⟩,rfl⟩⟩,rfl⟩:=hb
  exact⟨by simp,by simp,weeL_of (by simp)⟩
 ·by_cases h0:k=0∨k=1∨k=2
  ·have hz:an=[]:=by
    rcases h0 with rfl | rfl | rfl<;>(simp[FT.bare] at hb;simp_all)
   subst hz
   simp only[filterG,if_neg h7,if_pos h0] at hl
   rw[filtersF_map] at hl
   have hc:=enc_count (ps.map filterF)
   rw[List.length_map] at hc
   exact⟨by simp,by omega,weeL_of fun p hp=>ih p hp (hps p hp) (Nat.le_trans (enc_mem (List.mem_map_of_mem hp)) hl)⟩
  ·by_cases h4:k=4
   ·subst h4
    simp[FT.bare] at hb
    obtain⟨⟨⟨⟨⟨⟨hany,hao⟩,rfl⟩,hne⟩,rfl⟩,hf⟩,hl2⟩:=hb
    simp only[filterG,if_neg h7,if_neg h0,if_true] at hl
    have h2:=(enc_cons_le (enc_cons_le hl).2).1
    simp only[enc_app,List.length_append] at h2
    have hc:=enc_count (an.map anyF)
    rw[List.length_map] at hc
    exact⟨by omega,by simp,weeL_of (by simp)⟩
   ·have h3:k=3∨k=5∨k=6∨k=8:=by
     by_cases hk:k=3∨k=5∨k=6∨k=8
     ·exact hk
     ·exfalso
      have n0:¬(k=0∨k=1):=by omega
      have n2:k≠2:=by omega
      simp only[FT.bare,if_neg n0,if_neg n2,if_neg hk,if_neg h7,if_neg h4] at hb
      cases hb
    have hz:an=[]∧ps=[]:=by
     rcases h3 with rfl | rfl | rfl | rfl<;>(simp[FT.bare] at hb;simp_all)
    obtain⟨rfl,rfl⟩:=hz
    exact⟨by simp,by simp,weeL_of (by simp)⟩
theorem decode_wee {b:List UInt8} {m:MT} (h:Rd.decode b=some m):m.filt.wee:=by
 obtain⟨hf,hl,hb⟩:=decode_good h
 by_cases h3:m.kind=3
 ·have hfo:=hf.ok.filt h3
  simp only[FT.formed,Bool.and_eq_true] at hfo
  refine wee_of_len m.filt hfo.2 ?_
  have h1:(messageF m).2.length≤(bytesW m).length:=enc_mem (F:=[messageF m]) (by simp)
  have h2:(operF m).2.length≤(messageF m).2.length:=enc_mem (F:=numF 2 m.id::operF m::ctlsF m.ctls) (by simp)
  have e:(operF m).2=enc (contentF m):=by unfold operF;rw[h3];rfl
  rw[e] at h2
  have h4:(filterF m.filt).2.length≤(enc (contentF m)).length:=enc_mem (by unfold contentF;simp[h3])
  omega
 ·have hz:=((kept_zero hf.kept).2.1 h3).2.2.2.2.2.1
  rw[hz]
  simp[FT.wee,FT.weeL]
theorem decodeD_wee (b:List UInt8):((Rd.decode b).getD zeroM).filt.wee:=by
 cases h:Rd.decode b with
 | none=>simp[zeroM,FT.wee,FT.weeL]
 | some m=>exact decode_wee h
end Go.Proofs.YtcpjmgfloimfhaaGreat
namespace Go.Proofs.YtcpjmgfloimfhaaGreat
open Go.RowKit
set_option linter.unusedVariables false
structure Row8 (w:World) (g:Nat) (l:List UInt8):Prop where
 at_:∀(j:Nat) (x:UInt8),l[j]?=some x→w.cell? ⟨g,j,none⟩=some (.int .u8 (x.toNat:Int))
 fz:∀j:Nat,j<l.length→w.frozen? ⟨g,j,none⟩=false
 lt:g<w.heap.size
theorem Row8.has {w:World} {g:Nat} {l:List UInt8} (h:Row8 w g l):Has w (g+1) 1 (some ⟨g,0,none⟩) l.length (bys l):=by
 refine⟨by rw[bys_length];omega,.inr ⟨_,rfl,by simp,fun j u hu=>?_⟩⟩
 unfold bys at hu
 rw[List.getElem?_map] at hu
 cases hx:l[j]? with
 | none=>rw[hx] at hu;cases hu
 | some x=>
  rw[hx] at hu
  obtain rfl:=Option.some.inj hu
  have:(⟨g,0,none⟩:Addr).add j=⟨g,j,none⟩:=by unfold Addr.add;split<;>simp_all
  rw[this]
  exact h.at_ j x hx
theorem run_bytes8 {P:Program} (w:World) (s:ByteArray) (src dst e:TypeId) (hs:P.underlying src=some .string) (hd:P.underlying dst=some (.slice e)) (he:P.underlying e=some (.int .u8)):
  ∃cap w',(convert src dst (.string s)).run P w=.ok (.slice (some ⟨w.heap.size,0,none⟩) s.size cap) w'∧Row8 w' w.heap.size s.data.toList∧Below w.heap.size w w':=by
 refine⟨_,_,run_bytes_of_string w src dst e s hs hd he,?_,?_⟩
 ·refine ⟨fun j x hx=>?_,fun j hj=>?_,?_⟩
  ·have hj:j<s.data.size:=by
    have:=(List.getElem?_eq_some_iff.1 hx).1
    simpa using this
   have e1:=World.cell?_alloc_mark w.drew (bytesRow s (grownCap w s.size 0 e)) e ((bytesRow s (grownCap w s.size 0 e)).size,(bytesRow s (grownCap w s.size 0 e)).size+1) j
   refine e1.trans ?_
   rw[bytesRow_at s _ j hj]
   have hx':s.data[j]=x:=by
    have:=(List.getElem?_eq_some_iff.1 hx).2
    simpa using this
   rw[hx']
  ·have hj':j<s.data.size:=by simpa using hj
   have hsz:j<(bytesRow s (grownCap w s.size 0 e)).size:=by
    rw[bytesRow,Array.size_append,Array.size_map]
    omega
   have e1:=World.frozen?_alloc_mark w.drew (bytesRow s (grownCap w s.size 0 e)) e (bytesRow s (grownCap w s.size 0 e)).size ((bytesRow s (grownCap w s.size 0 e)).size+1) j
   refine e1.trans ?_
   rw[decide_eq_false (by omega)]
   rfl
  ·simp
 ·exact (Below.refl _ w).drew.alloc (by simp) _
structure WPost (bs:List UInt8) (w:World) (e:Ending) (w':World):Prop where
 out:∃v,e=.returned v∧w'.ownsRow w.heap.size 5 1 v bs.length (bys bs)∧Below w.heap.size w w'
theorem field_own {t:UInt8} {bs:List UInt8} {w w1:World} {v:Value} (hown:w1.ownsRow w.heap.size 5 1 v bs.length (bys bs)) (hb:Below w.heap.size w w1) (hn:bs.length≤1073741824):
  Calls Tryz.prog 62 #[c8 t,v] w1 (WPost (Ber.fieldOf t bs) w):=by
 obtain⟨A,c,rfl,h1,h2⟩:=own_form hown
 refine (Ber.field_any t w1 w1.heap.size A bs.length c bs h2 (Nat.le_refl _) (by omega)).mono ?_
 rintro e w2 ⟨v,rfl,ho,hb2⟩
 exact⟨⟨v,rfl,own_base ho hb.size,hb.trans (hb2.mono hb.size)⟩⟩
theorem wnumber_any (t:UInt8) (n:Int) (h0: -9223372036854775808≤n) (h1:n≤9223372036854775807) (w:World):
  Calls Tryz.prog 61 #[c8 t,.int .i64 n] w (WPost (Ber.fieldOf t (Ber.intOfs n)) w):=by
 have hi:=Ber.int_any n w h0 h1
 have hl:=Ber.isize_le n
 have hl2:=Ber.intOfs_length n
 have hl3:(Ber.intOfs n).length≤8:=by omega
 clear hl hl2
 generalize Ber.intOfs n=c at *
 generalize hbs:Ber.fieldOf t c=bs at *
 have Hbs:=hide hbs
 clear hbs
 go_enter Tryz.func61,Tryz.ntmps61
 go_wp2_with (go_at_call 99;fail)
 refine hi.mono ?_
 rintro e w1 ⟨g,rfl,hown,hb1⟩
 have hf:=field_own (t:=t) hown hb1 (by omega)
 rw[Hbs.out] at hf
 clear hi hown hb1 h0 h1
 go_wp2_with (go_at_call 62;fail)
 refine hf.mono ?_
 rintro e w2 hpost
 obtain⟨v,rfl,hown,hb2⟩:=hpost.out
 have HO:=hide hown
 have HB:=hide hb2
 clear hpost hown hb2 hf
 go_wp2
 go_ret
 exact⟨⟨_,rfl,HO.out,HB.out⟩⟩
end Go.Proofs.YtcpjmgfloimfhaaGreat
namespace Go.Proofs.YtcpjmgfloimfhaaGreat
open Go.RowKit
set_option linter.unusedVariables false
def encV (m:MT) (b:List UInt8):Prop:=m.filt.formed=true∧Rd.decode b=some m
structure EncPost (m:MT) (b:List UInt8) (w:World) (e:Ending) (w':World):Prop where
 yes:encV m b→∃v,e=.returned (.tuple #[v,.int .i64 0])∧w'.ownsRow w.heap.size 5 1 v b.length (bys b)
 no:¬encV m b→e=.returned (.tuple #[.slice none 0 0,.int .i64 1])
 below:Below w.heap.size w w'
theorem loadG {ops:Array Oper} {rest:List Oper} {op:Oper} {a:Act} {w:World} {Q:Exit→Act→World→Prop} (hw:Region.wanted op (yielded ops a.tmps)=true) (x:Operand) (ho:op.op=.load 42 x)
  (b:Nat) (hx:a.eval x=.pointer (some ⟨b,0,none⟩)) (cs:List Value) (hc:Blk w b cs) (hn:cs.length=32)
  (h:wpList Tryz.prog ops Q rest (a.put op.dst (.agg cs.toArray)) w):wpList Tryz.prog ops Q (op::rest) a w:=
 wpList_step fun K hK=>by
  rw[if_pos hw]
  exact wp_load_mid 42 x ho b 0 hx cs _ hc.range Tryz.underlying42 rfl (by rw[hn];kernel_rfl) (hK _ _ h)
theorem repM_below {w w':World} {m:MT} {v:Value} (h:repM w (inB w) m v) (hb:Below w.heap.size w w'):repM w' (inB w') m v:=by
 obtain⟨f0,f1,f2,f3,f4,f5,f6,va,vl,vc,vr,vk,rfl,hX⟩:=h
 exact⟨f0,f1,f2,f3,f4,f5,f6,va,vl,vc,vr,vk,rfl,hX.below hb⟩
theorem encode_of (w:World) (m:MT) (v:Value) (hm:repM w (inB w) m v) (b:List UInt8) (hlen:b.length≤1073741824)
  (hW:m.filt.formed=true→∀W,Below w.heap.size w W→Calls Tryz.prog 22 #[v] W (WPost b W)):
  Calls Tryz.prog 11 #[v] w (EncPost m b w):=by
 have hm0:=hm
 obtain⟨f0,f1,f2,f3,f4,f5,f6,va,vl,vc,vr,vk,rfl,hX⟩:=hm
 obtain⟨cs,hcs⟩:∃cs,mcells m f0 f1 f2 f3 f4 f5 f6 va vl vc vr vk=cs:=⟨_,rfl⟩
 have hn:cs.length=32:=by rw[←hcs];rfl
 rw[hcs] at hm0 hW ⊢
 have hB1:Blk (w.alloc (.cells cs.toArray 42)) w.heap.size cs:=Blk.new w cs 42
 have hf1:Fr (fun _=>False) w (w.alloc (.cells cs.toArray 42)):=Fr.alloc _ _ _
 obtain⟨w1,hw1⟩:∃w1,w.alloc (.cells cs.toArray 42)=w1:=⟨_,rfl⟩
 rw[hw1] at hB1 hf1
 have hb1:Below w.heap.size w w1:=hf1.below (Nat.le_refl _) (fun k q=>q.elim)
 have hs1:w.heap.size<w1.heap.size:=by rw[←hw1];simp
 obtain⟨p1,hp1⟩:∃p1,w.heap.size=p1:=⟨_,rfl⟩
 rw[hp1] at hB1
 have hfo:=jFormed_any m.filt w1 f0 f1 f2 f3 f4 f5 f6 (FInP.fin (B:=w1.heap.size) (fun k hk=>hk) (hX.below hb1).filt)
 have rF:w1.rangeAt p1 10 [f0,f1,f2,f3,f4,f5,f6]:=hB1.part 10 _ fun j u hu=>by
  rw[←hcs]
  match j,hu with
  | 0,hu=>exact hu
  | 1,hu=>exact hu
  | 2,hu=>exact hu
  | 3,hu=>exact hu
  | 4,hu=>exact hu
  | 5,hu=>exact hu
  | 6,hu=>exact hu
 obtain⟨fo,hfv⟩:∃fo,m.filt.formed=fo:=⟨_,rfl⟩
 rw[hfv] at hfo hW
 have Hfo:=hide hfo
 have HW:=hide hW
 have HB1:=hide hB1
 have Hb1:=hide hb1
 have Hw1:=hide hw1
 have Hp:=hide hp1
 have Hm:=hide hm0
 have HF:=hide rF
 have Hfv:=hide hfv
 have Hs1:=hide hs1
 have Hlen:=hide hlen
 clear hX hB1 hf1 hw1 hb1 hs1 hp1 hfo rF hW hm0 hcs hfv hlen
 cases fo with
 | false=>
  have hno:Hid (¬encV m b):=hide (fun h=>by have:=h.1;rw[Hfv.out] at this;cases this)
  clear HW Hm Hlen
  go_enter Tryz.func11,Tryz.ntmps11
  go_upto_region 1 with fail
  rw[Hw1.out,Hp.out]
  go_wp2_with (first | (go_at_call 21;fail) | (refine wpList_load_mid rfl 39 (.tmp 7) rfl p1 10 rfl [f0,f1,f2,f3,f4,f5,f6] _ HF.out Tryz.underlying39 rfl (by kernel_rfl) ?_))
  refine Hfo.out.mono ?_
  rintro e w2 ⟨rfl,hb2⟩
  have HB2:=hide (Hb1.out.trans (hb2.mono Hb1.out.size))
  clear hb2 Hfo HF HB1
  go_wp2
  go_returns
  exact⟨fun h=>absurd h hno.out,fun _=>rfl,HB2.out⟩
 | true=>
  go_enter Tryz.func11,Tryz.ntmps11
  go_upto_region 1 with fail
  rw[Hw1.out,Hp.out]
  go_wp2_with (first | (go_at_call 21;fail) | (refine wpList_load_mid rfl 39 (.tmp 7) rfl p1 10 rfl [f0,f1,f2,f3,f4,f5,f6] _ HF.out Tryz.underlying39 rfl (by kernel_rfl) ?_))
  refine Hfo.out.mono ?_
  rintro e w2 ⟨rfl,hb2⟩
  have HB2:=hide (Hb1.out.trans (hb2.mono Hb1.out.size))
  have HK2:=hide (HB1.out.fr (Fr.of (X:=fun _=>False) hb2) id)
  clear hb2 Hfo HF HB1 Hb1
  have HWr:=hide (HW.out (by first | rfl | trivial) w2 HB2.out)
  clear HW
  go_wp2_with (first | (go_at_call 22;fail) | (refine loadM rfl (.tmp 1) rfl p1 rfl cs HK2.out hn ?_))
  refine HWr.out.mono ?_
  rintro e w3 hpost
  obtain⟨vb,rfl,hown,hb3⟩:=hpost.out
  have HB3:=hide (HB2.out.trans (hb3.mono HB2.out.size))
  have HK3:=hide (HK2.out.fr (Fr.of (X:=fun _=>False) hb3) id)
  obtain⟨A,c,rfl,hc1,hcm,hH⟩:=Ber.own_form' hown
  have hde:=decode_any w3 A c b hH hc1 hcm
  have HO3:=hide (own_base hown HB2.out.size)
  have Hde:=hide hde
  clear hpost hown hb3 hde HWr HK2 HB2 hH
  obtain⟨nb,hnb⟩:∃nb,b.length=nb:=⟨_,rfl⟩
  have Hnb:=hide hnb
  rw[hnb] at Hde
  simp only
  rw[hnb]
  clear hnb hc1 hcm
  go_wp2_with (go_at_call 14;fail)
  refine Hde.out.mono ?_
  rintro e w4 hpost
  obtain⟨m2,v2,rfl,hrep,hm2,hb4⟩:=hpost.out
  have hwee:=decodeD_wee b
  rw[←hm2] at hwee
  obtain⟨g0,g1,g2,g3,g4,g5,g6,ua,ul,uc,ur,uk,rfl,hY⟩:=hrep
  obtain⟨cy,hcy⟩:∃cy,mcells m2 g0 g1 g2 g3 g4 g5 g6 ua ul uc ur uk=cy:=⟨_,rfl⟩
  have hny:cy.length=32:=by rw[←hcy];rfl
  have hBz:Blk (w4.alloc (.cells #[.int .i64 0,.int .i64 0,.string ⟨#[]⟩,.string ⟨#[]⟩,.int .i64 0,.int .i64 0,.int .i64 0,.int .i64 0,.int .i64 0,.bool false,.int .i64 0,.string ⟨#[]⟩,.string ⟨#[]⟩,.string ⟨#[]⟩,.string ⟨#[]⟩,.slice none 0 0,.slice none 0 0,.slice none 0 0,.slice none 0 0,.slice none 0 0,.string ⟨#[]⟩,.bool false,.bool false,.string ⟨#[]⟩,.string ⟨#[]⟩,.string ⟨#[]⟩,.int .i64 0,.int .i64 0,.string ⟨#[]⟩,.string ⟨#[]⟩,.slice none 0 0,.slice none 0 0] 42)) w4.heap.size zeroCells:=Blk.new w4 zeroCells 42
  have h1y:=MReps.one hY
  rw[hcy] at h1y
  have hB5:Blk (World.setCells (w4.alloc (.cells #[.int .i64 0,.int .i64 0,.string ⟨#[]⟩,.string ⟨#[]⟩,.int .i64 0,.int .i64 0,.int .i64 0,.int .i64 0,.int .i64 0,.bool false,.int .i64 0,.string ⟨#[]⟩,.string ⟨#[]⟩,.string ⟨#[]⟩,.string ⟨#[]⟩,.slice none 0 0,.slice none 0 0,.slice none 0 0,.slice none 0 0,.slice none 0 0,.string ⟨#[]⟩,.bool false,.bool false,.string ⟨#[]⟩,.string ⟨#[]⟩,.string ⟨#[]⟩,.int .i64 0,.int .i64 0,.string ⟨#[]⟩,.string ⟨#[]⟩,.slice none 0 0,.slice none 0 0] 42)) w4.heap.size 0 cy) w4.heap.size cy:=hBz.sets 0 cy (by rw[hny];exact Nat.le_refl _) cy (by rw[List.drop_eq_nil_of_le (by rw[hny];exact Nat.le_refl _)];simp)
  have hf5:Fr (fun _=>False) w4 (World.setCells (w4.alloc (.cells #[.int .i64 0,.int .i64 0,.string ⟨#[]⟩,.string ⟨#[]⟩,.int .i64 0,.int .i64 0,.int .i64 0,.int .i64 0,.int .i64 0,.bool false,.int .i64 0,.string ⟨#[]⟩,.string ⟨#[]⟩,.string ⟨#[]⟩,.string ⟨#[]⟩,.slice none 0 0,.slice none 0 0,.slice none 0 0,.slice none 0 0,.slice none 0 0,.string ⟨#[]⟩,.bool false,.bool false,.string ⟨#[]⟩,.string ⟨#[]⟩,.string ⟨#[]⟩,.int .i64 0,.int .i64 0,.string ⟨#[]⟩,.string ⟨#[]⟩,.slice none 0 0,.slice none 0 0] 42)) w4.heap.size 0 cy):=(Fr.alloc (fun _=>False) w4 _).trans' (Fr.setCells (X:=fun k=>k=w4.heap.size) _ w4.heap.size 0 cy rfl) (fun k hk q=>by omega)
  have HBz:=hide hBz
  have H1y:=hide h1y
  obtain⟨w5,hw5⟩:∃w5,World.setCells (w4.alloc (.cells #[.int .i64 0,.int .i64 0,.string ⟨#[]⟩,.string ⟨#[]⟩,.int .i64 0,.int .i64 0,.int .i64 0,.int .i64 0,.int .i64 0,.bool false,.int .i64 0,.string ⟨#[]⟩,.string ⟨#[]⟩,.string ⟨#[]⟩,.string ⟨#[]⟩,.slice none 0 0,.slice none 0 0,.slice none 0 0,.slice none 0 0,.slice none 0 0,.string ⟨#[]⟩,.bool false,.bool false,.string ⟨#[]⟩,.string ⟨#[]⟩,.string ⟨#[]⟩,.int .i64 0,.int .i64 0,.string ⟨#[]⟩,.string ⟨#[]⟩,.slice none 0 0,.slice none 0 0] 42)) w4.heap.size 0 cy=w5:=⟨_,rfl⟩
  rw[hw5] at hB5 hf5
  have hb5:Below w4.heap.size w4 w5:=hf5.below (Nat.le_refl _) (fun k q=>q.elim)
  clear hBz h1y
  obtain⟨p5,hp5⟩:∃p5,w4.heap.size=p5:=⟨_,rfl⟩
  rw[hp5] at hB5
  have hrY:repM w5 (inB w5) m2 (.agg cy.toArray):=⟨g0,g1,g2,g3,g4,g5,g6,ua,ul,uc,ur,uk,by rw[hcy],hY.move (fun p hp=>hb5.cell (by exact hp.2)) (fun k hk=>Nat.lt_of_lt_of_le hk.2 hb5.size)⟩
  have hb35:Below w3.heap.size w3 w5:=hb4.trans (hb5.mono hb4.size)
  have HB5:=hide (HB3.out.trans (hb35.mono HB3.out.size))
  have hrX:=repM_below Hm.out HB5.out
  obtain⟨R,hR⟩:=boolOf (m2=m)
  have hsa:=same_any w5 m2 m _ _ hrY hrX hwee R hR
  have HSa:=hide hsa
  have HK5:=hide (HK3.out.fr (Fr.of (X:=fun _=>False) hb35) id)
  have HY5:=hide hB5
  have HO5:=hide (own_below HO3.out (hb35))
  have Hw5:=hide hw5
  have Hp5:=hide hp5
  have Hm2:=hide hm2
  have HR:=hide hR
  rw[hcy]
  clear hpost hY hcy hB5 hf5 hw5 hb5 hp5 hrY hb35 hrX hsa hwee hm2 hR hb4 HB3 HK3 HO3 Hde Hm
  cases hd:Rd.decode b with
  | none=>
   have hno:Hid (¬encV m b):=hide (fun h=>by have:=h.2;rw[hd] at this;cases this)
   obtain⟨E,hE⟩:∃E:Int,(if 16384<b.length then (4:Int) else if (none:Option MT).isSome=true then 0 else 2)=E:=⟨_,rfl⟩
   have hne:E≠0:=by rw[←hE];split<;>simp
   have hn1:(E==0)=false:=beq_false_of_ne hne
   have hn2:(E !=0)=true:=bne_iff_ne.2 hne
   rw[hE]
   clear hE hd HSa HY5 HO5 Hm2 HR hne HK5
   go_upto_region 5 with (refine storeM (w4.alloc (.cells #[.int .i64 0,.int .i64 0,.string ⟨#[]⟩,.string ⟨#[]⟩,.int .i64 0,.int .i64 0,.int .i64 0,.int .i64 0,.int .i64 0,.bool false,.int .i64 0,.string ⟨#[]⟩,.string ⟨#[]⟩,.string ⟨#[]⟩,.string ⟨#[]⟩,.slice none 0 0,.slice none 0 0,.slice none 0 0,.slice none 0 0,.slice none 0 0,.string ⟨#[]⟩,.bool false,.bool false,.string ⟨#[]⟩,.string ⟨#[]⟩,.string ⟨#[]⟩,.int .i64 0,.int .i64 0,.string ⟨#[]⟩,.string ⟨#[]⟩,.slice none 0 0,.slice none 0 0] 42)) rfl (.tmp 5) (.tmp 16) rfl w4.heap.size zeroCells cy rfl rfl HBz.out rfl hny H1y.out ?_)
   rw[Hw5.out]
   try rw[Hp5.out]
   go_wp2
   go_returns
   exact⟨fun h=>absurd h hno.out,fun _=>rfl,HB5.out⟩
  | some m0=>
   have hlo:=(decode_good hd).2.2
   have hcode:(if 16384<b.length then (4:Int) else if (some m0).isSome=true then 0 else 2)=0:=by rw[if_neg (by omega)];rfl
   have hm20:m2=m0:=by rw[Hm2.out,hd];rfl
   have Hd:=hide hd
   have Hm20:=hide hm20
   rw[hcode]
   clear hcode hlo hd hm20 Hm2
   go_upto_region 5 with (refine storeM (w4.alloc (.cells #[.int .i64 0,.int .i64 0,.string ⟨#[]⟩,.string ⟨#[]⟩,.int .i64 0,.int .i64 0,.int .i64 0,.int .i64 0,.int .i64 0,.bool false,.int .i64 0,.string ⟨#[]⟩,.string ⟨#[]⟩,.string ⟨#[]⟩,.string ⟨#[]⟩,.slice none 0 0,.slice none 0 0,.slice none 0 0,.slice none 0 0,.slice none 0 0,.string ⟨#[]⟩,.bool false,.bool false,.string ⟨#[]⟩,.string ⟨#[]⟩,.string ⟨#[]⟩,.int .i64 0,.int .i64 0,.string ⟨#[]⟩,.string ⟨#[]⟩,.slice none 0 0,.slice none 0 0] 42)) rfl (.tmp 5) (.tmp 16) rfl w4.heap.size zeroCells cy rfl rfl HBz.out rfl hny H1y.out ?_)
   rw[Hw5.out]
   try rw[Hp5.out]
   go_wp2_with (first | (go_at_call 18;fail) | (refine loadG (by rfl) (.tmp 5) rfl p5 rfl cy HY5.out hny ?_) | (refine loadG (by rfl) (.tmp 1) rfl p1 rfl cs HK5.out hn ?_))
   refine HSa.out.mono ?_
   rintro e w6 ⟨rfl,hb6⟩
   have HB6:=hide (HB5.out.trans (hb6.mono HB5.out.size))
   have HO6:=hide (own_below HO5.out hb6)
   clear hb6 HSa HY5 HK5 HO5 HB5
   cases R with
   | false=>
    have hno:Hid (¬encV m b):=hide (fun h=>by
     have h1:=h.2
     rw[Hd.out] at h1
     have:=HR.out.2 (by rw[Hm20.out];exact Option.some.inj h1)
     cases this)
    go_wp2
    go_returns
    exact⟨fun h=>absurd h hno.out,fun _=>rfl,HB6.out⟩
   | true=>
    have hyes:Hid (encV m b):=hide ⟨Hfv.out,by rw[Hd.out,←Hm20.out,HR.out.1 rfl]⟩
    rw[Hnb.out] at HO6
    go_wp2
    go_returns
    exact⟨fun _=>⟨_,rfl,by rw[Hnb.out];exact HO6.out⟩,fun h=>absurd hyes.out h,HB6.out⟩
end Go.Proofs.YtcpjmgfloimfhaaGreat
namespace Go.Proofs.YtcpjmgfloimfhaaGreat
open Go.RowKit
set_option linter.unusedVariables false
structure SLs (w:World) (L:List (List UInt8)) (A:Option Addr) (n:Nat):Prop where
 len:L.length=n
 out:∃xs,Has w w.heap.size 1 A n xs∧∀(i:Nat) (l:List UInt8),L[i]?=some l→∃B c,xs[i]?=some (Value.slice B l.length c)∧Has w w.heap.size 1 B l.length (bys l)
theorem SLs.at_ {w:World} {L:List (List UInt8)} {A:Option Addr} {n:Nat} (h:SLs w L A n) (hn:0<n):∃g o,A=some ⟨g,o,none⟩∧g<w.heap.size∧∀(i:Nat) (l:List UInt8),L[i]?=some l→∃B c,w.cell? ⟨g,o+i,none⟩=some (.slice B l.length c)∧Has w w.heap.size 1 B l.length (bys l):=by
 obtain⟨xs,h1,h2⟩:=h.out
 have hl:=h1.1
 obtain⟨g,o,e,hg,hc⟩:=h1.lies (by omega)
 refine⟨g,o,e,hg,fun i l hi=>?_⟩
 obtain⟨B,c,q1,q2⟩:=h2 i l hi
 exact⟨B,c,hc i _ q1,q2⟩
theorem SLs.two {w:World} {h:Nat} {l m:List UInt8} {A B:Option Addr} {c d:Nat} (hlt:h<w.heap.size) (c0:w.cell? ⟨h,0,none⟩=some (.slice A l.length c)) (c1:w.cell? ⟨h,1,none⟩=some (.slice B m.length d)) (hA:Has w w.heap.size 1 A l.length (bys l)) (hB:Has w w.heap.size 1 B m.length (bys m)):
  SLs w [l,m] (some ⟨h,0,none⟩) 2:=by
 refine⟨rfl,[.slice A l.length c,.slice B m.length d],⟨rfl,.inr ⟨_,rfl,hlt,fun j u hu=>?_⟩⟩,fun i x hi=>?_⟩
 ·have e:(⟨h,0,none⟩:Addr).add j=⟨h,j,none⟩:=by unfold Addr.add;split<;>simp_all
  rw[e]
  match j,hu with
  | 0,hu=>cases hu;exact c0
  | 1,hu=>cases hu;exact c1
 ·match i,hi with
  | 0,hi=>cases hi;exact⟨A,c,rfl,hA⟩
  | 1,hi=>cases hi;exact⟨B,d,rfl,hB⟩
def tot (L:List (List UInt8)):Nat:=L.flatten.length
theorem flat_take {L:List (List UInt8)} {i:Nat} {l:List UInt8} (h:L[i]?=some l):(L.take (i+1)).flatten=(L.take i).flatten++l:=by
 rw[List.take_add_one,h];simp
theorem tot_take (L:List (List UInt8)) (i:Nat):tot (L.take i)≤tot L:=by
 have:L.flatten=(L.take i).flatten++(L.drop i).flatten:=by rw[←List.flatten_append,List.take_append_drop]
 unfold tot
 rw[this,List.length_append]
 omega
theorem grow8_any (n:Nat) (hn:n≤1073741824) (w:World):
  Calls Tryz.prog 98 #[.slice none 0 0,.int .i64 (n:Int)] w fun e w'=>∃v,e=.returned v∧w'.ownsRow w.heap.size 5 1 v 0 (bys [])∧Below w.heap.size w w':=by
 by_cases h0:n=0
 ·subst h0
  go_enter Tryz.func98,Tryz.ntmps98
  go_wp2
  go_ret
  exact⟨_,rfl,World.ownsRow_nil _ _ _ _,Below.refl _ _⟩
 ·have z0:¬((n:Int)<0):=by omega
  have z1:((0:Int)<(n:Int)):=by omega
  obtain⟨i0,hi,hz0,hz1,hz2⟩:=info_parts info8
  have happ:=Lib.run_append_nil_zeros (P:=Tryz.prog) w 33 3 33 5 i0 (.int .u8 0) .i64 .i64 Tryz.underlying33 Tryz.underlying3 hi hz0 n (by omega) (by omega) (by omega) (by rw[hz2];omega)
  generalize hcap:grownCap w n 0 5=cap2 at happ
  have hcapge:n≤cap2:=by rw[←hcap];exact grownCap_ge w _ 0 5
  have hcaple:cap2≤maxLen:=by rw[←hcap];exact grownCap_le_maxLen w _ 0 5 (by unfold maxLen;omega)
  generalize hZ:(Builtin.zeroCells (Value.int .u8 0).cells n++Builtin.zeroCells (Value.int .u8 0).cells (cap2-n))=Z at happ
  have hZs:Z.size=cap2:=by rw[←hZ];simp[size_zeroCells,Value.cells];omega
  have hown:(w.drew.alloc (.cells Z 5)).ownsRow w.heap.size 5 1 (.slice (some ⟨w.heap.size,0,none⟩) 0 cap2) 0 (bys []):=
   ⟨rfl,.inr ⟨w.heap.size,cap2,Z,rfl,Nat.le_refl _,heap_alloc_new w.drew _,Nat.zero_le _,hcaple,by omega,by simp[bys]⟩⟩
  have hb:Below w.heap.size w (w.drew.alloc (.cells Z 5)):=((Below.refl _ _).drew).alloc (Nat.le_refl _) _
  have Hown:=hide hown
  have Hb:=hide hb
  have hcm:(cap2:Int)≤9223372036854775807:=by unfold maxLen at hcaple;omega
  clear hcap hZ hZs hown hb hi hz0 hz1 hz2 hcaple
  go_enter Tryz.func98,Tryz.ntmps98
  go_wp2_with (at_builtin;refine Lib.wpList_append_run _ rfl _ _ _ _ rfl _ _ rfl rfl _ _ happ ?_)
  go_wp2
  go_ret
  exact⟨_,rfl,Hown.out,Hb.out⟩
theorem concat8_any (w:World) (A:Option Addr) (n c:Nat) (L:List (List UInt8)) (hS:SLs w L A n) (hn:n≤1000) (ht:tot L≤1073741824):
  Calls Tryz.prog 60 #[.slice A n c] w (WPost L.flatten w):=by
 have HS:=hide hS
 have Hlen:=hide hS.len
 have HT:=hide ht
 have hG:=grow8_any (tot L) ht w
 have HG:=hide hG
 clear hS ht hG
 go_enter Tryz.func60,Tryz.ntmps60
 go_wp2
 go_loopg [3,11] n (fun k s3 s11 wx=>∃i m:Nat,i+k=n∧s11=.int .i64 (i:Int)∧s3=.int .i64 (m:Int)∧Hid (tot (L.take i)=m)∧wx=w)
 case atStart=>exact⟨0,0,by omega,rfl,rfl,hide rfl,rfl⟩
 case round=>
  obtain⟨i,m,hig,rfl,rfl,hm,hw0⟩:=hrel
  obtain rfl:=hw0.symm
  clear hw0
  cases gk with
  | succ r=>
   have hin:i<n:=by omega
   have hiz:(i:Int)<(n:Int):=by omega
   obtain⟨g,o,rfl,hg,hat⟩:=HS.out.at_ (by omega)
   obtain⟨l,hl⟩:∃l,L[i]?=some l:=⟨_,List.getElem?_eq_getElem (by rw[Hlen.out];exact hin)⟩
   obtain⟨B,cc,k1,_⟩:=hat i l hl
   have hmm:tot (L.take (i+1))=m+l.length:=by unfold tot;rw[flat_take hl,List.length_append];have:=hm.out;unfold tot at this;omega
   have hle:m+l.length≤1073741824:=by have:=tot_take L (i+1);have:=HT.out;omega
   obtain⟨d,hd⟩:∃d,l.length=d:=⟨_,rfl⟩
   rw[hd] at k1 hmm hle
   have z0:¬((m:Int)+(d:Int)<0):=by omega
   have Hmm:=hide hmm
   clear hat hl hmm hm HS HG HT Hlen hd
   go_wp2
   go_roundg r
   case measure=>omega
   case rel=>exact⟨i+1,m+d,by omega,by go_num,by go_num,Hmm,rfl⟩
  | zero=>
   obtain rfl:i=n:=by omega
   have hjz:¬((i:Int)<(i:Int)):=by omega
   have hmt:m=tot L:=by have:=hm.out;rw[List.take_of_length_le (by rw[Hlen.out];exact Nat.le_refl _)] at this;exact this.symm
   subst hmt
   clear hm
   obtain⟨t,htt⟩:∃t,tot L=t:=⟨_,rfl⟩
   rw[htt] at HG HT
   have Htt:=hide htt
   rw[htt]
   clear htt
   go_wp2_with (go_at_call 98;fail)
   refine HG.out.mono ?_
   rintro e w1 ⟨v1,rfl,hown,hb1⟩
   have HB1:=hide hb1
   clear HG hb1
   go_wp2
   go_loopg [6,27] i (fun k s6 s27 wx=>∃j:Nat,∃acc:List UInt8,j+k=i∧s27=.int .i64 (j:Int)∧Hid ((L.take j).flatten=acc)∧Hid (wx.ownsRow w.heap.size 5 1 s6 acc.length (bys acc))∧Hid (Below w.heap.size w wx))
   case atStart=>exact⟨0,[],by omega,rfl,hide rfl,hide hown,HB1⟩
   case round=>
    obtain⟨j,acc,hjg,rfl,hacc,hor,hB1⟩:=hrel
    clear hown HB1
    cases gk with
    | succ r=>
     have hjn:j<i:=by omega
     have hjz2:(j:Int)<(i:Int):=by omega
     obtain⟨g,o,hAe,hg,hat⟩:=HS.out.at_ (by omega)
     subst hAe
     obtain⟨l,hl⟩:∃l,L[j]?=some l:=⟨_,List.getElem?_eq_getElem (by rw[Hlen.out];exact hjn)⟩
     obtain⟨B,cc,k1,hB⟩:=hat j l hl
     have k2:=(hB1.out.cell (p:=⟨g,o+j,none⟩) hg).trans k1
     have hB2:=hB.below hB1.out
     have hs1:=hB1.out.size
     have hf:=flat_take hl
     rw[hacc.out] at hf
     have hle:(acc++l).length≤1073741824:=by have:=tot_take L (j+1);unfold tot at this;rw[hf] at this;have:=HT.out;have:=Htt.out;unfold tot at *;omega
     obtain⟨ys,hys⟩:∃ys,acc++l=ys:=⟨_,rfl⟩
     rw[hys] at hf hle
     have hyl:acc.length+l.length=ys.length:=by rw[←hys,List.length_append]
     obtain⟨a,ha⟩:∃a,acc.length=a:=⟨_,rfl⟩
     obtain⟨d,hd⟩:∃d,l.length=d:=⟨_,rfl⟩
     rw[hd] at k1 k2 hB2
     rw[ha,hd] at hyl
     have hor2:=hor.out
     rw[ha] at hor2
     have Hys:=hide hys
     have Hyl:=hide hyl
     have Hf:=hide hf
     clear hat hl hacc hor hB hf HS HT Htt Hlen hys k1 ha hd
     go_wp2_with (at_builtin;go_must (refine app8g _ rfl (.tmp 31) (.tmp 32) rfl w.heap.size _ a acc rfl hor2 _ _ d cc l rfl hB2 ys Hys Hyl (by omega) hs1 ?_))
     intro v' w6 hor6 hb6 _
     have hB6:=hide (hB1.out.trans hb6)
     have Hor6:=hide hor6
     clear hor2 hor6 hb6 hB2 hs1 hB1 k2
     go_wp2
     go_roundg r
     case measure=>omega
     case rel=>exact⟨j+1,ys,by omega,by go_num,Hf,Hor6,hB6⟩
    | zero=>
     obtain rfl:j=i:=by omega
     have hjz3:¬((j:Int)<(j:Int)):=by omega
     have hfin:L.flatten=acc:=by rw[←hacc.out,List.take_of_length_le (by rw[Hlen.out];exact Nat.le_refl _)]
     have Hfin:=hide hfin
     clear HS HT Htt Hlen hacc hfin
     go_wp2
     go_ret
     exact⟨⟨_,rfl,by rw[Hfin.out];exact hor.out,hB1.out⟩⟩
end Go.Proofs.YtcpjmgfloimfhaaGreat
namespace Go.Proofs.YtcpjmgfloimfhaaGreat
open Go.RowKit
set_option linter.unusedVariables false
structure CPost (bs:List UInt8) (w:World) (e:Ending) (w':World):Prop where
 out:∃A c,e=.returned (.slice A bs.length c)∧Has w' w'.heap.size 1 A bs.length (bys bs)∧Below w.heap.size w w'
theorem write_of (w:World) (m:MT) (v:Value) (hm:repM w (inB w) m v) (c:List UInt8) (t:UInt8) (hid: -9223372036854775808≤m.id∧m.id≤9223372036854775807) (hctl:m.ctls=[]) (ht:opV m.kind=(t.toNat:Int)) (hlen:c.length≤100000000)
  (hC:∀W,Below w.heap.size w W→Calls Tryz.prog 64 #[v] W (CPost c W)):
  Calls Tryz.prog 22 #[v] w (WPost (Wr.enc [(0x30,Wr.enc [Wr.numF 2 m.id,(t,c)])]) w):=by
 obtain⟨f0,f1,f2,f3,f4,f5,f6,va,vl,vc,vr,vk,rfl,hX⟩:=hm
 obtain⟨Ak,ck,xk,rfl,-,-,-⟩:=hX.ctls
 rw[hctl] at hC ⊢
 obtain⟨cs,hcs⟩:∃cs,mcells m f0 f1 f2 f3 f4 f5 f6 va vl vc vr (.slice Ak 0 ck)=cs:=⟨_,rfl⟩
 have hn:cs.length=32:=by rw[←hcs];rfl
 simp only[List.length_nil] at hC ⊢
 rw[hcs] at hC ⊢
 have hB1:Blk (w.alloc (.cells cs.toArray 42)) w.heap.size cs:=Blk.new w cs 42
 have hf1:Fr (fun _=>False) w (w.alloc (.cells cs.toArray 42)):=Fr.alloc _ _ _
 obtain⟨w1,hw1⟩:∃w1,w.alloc (.cells cs.toArray 42)=w1:=⟨_,rfl⟩
 rw[hw1] at hB1 hf1
 have hb1:Below w.heap.size w w1:=hf1.below (Nat.le_refl _) (fun k q=>q.elim)
 obtain⟨p1,hp1⟩:∃p1,w.heap.size=p1:=⟨_,rfl⟩
 have hB1:Blk w1 p1 cs:=by rw[←hp1];exact hB1
 have kX:∀W,Below w1.heap.size w1 W→Blk W p1 cs:=fun W hW=>hB1.fr (Fr.of (X:=fun _=>False) hW) id
 have K0:Hid (∀W,Below w1.heap.size w1 W→W.cell? ⟨p1,0,none⟩=some (.int .i64 m.id)):=hide fun W hW=>(kX W hW).cells 0 _ (by rw[←hcs];rfl)
 have K1:Hid (∀W,Below w1.heap.size w1 W→W.cell? ⟨p1,1,none⟩=some (.int .i64 m.kind)):=hide fun W hW=>(kX W hW).cells 1 _ (by rw[←hcs];rfl)
 have K31:Hid (∀W,Below w1.heap.size w1 W→W.cell? ⟨p1,31,none⟩=some (.slice Ak 0 ck)):=hide fun W hW=>(kX W hW).cells 31 _ (by rw[←hcs];rfl)
 have KM:Hid (∀W,Below w1.heap.size w1 W→(loadVar 42 ⟨p1,0,none⟩).run Tryz.prog W=.ok (.agg cs.toArray) W):=hide fun W hW=>run_loadVar_mid W p1 0 42 cs _ (kX W hW).range Tryz.underlying42 rfl (by rw[hn];kernel_rfl)
 have HN:Hid (∀W,Calls Tryz.prog 61 #[.int .u8 2,.int .i64 m.id] W (WPost (Ber.fieldOf 2 (Ber.intOfs m.id)) W)):=hide fun W=>wnumber_any 2 m.id hid.1 hid.2 W
 have HT:Hid (∀W,Calls Tryz.prog 63 #[.int .i64 m.kind] W fun e w'=>e=.returned (c8 t)∧w'=W):=hide fun W=>by
  have:=opTag_any W m.kind
  rw[ht] at this
  exact this
 have HC:Hid (∀W,Below w1.heap.size w1 W→Calls Tryz.prog 64 #[.agg cs.toArray] W (CPost c W)):=hide fun W hW=>hC W (hb1.trans (hW.mono hb1.size))
 have HBw:=hide hb1
 have Hw:=hide hw1
 have Hp:=hide hp1
 have Hlen:=hide hlen
 have hnl:(Ber.fieldOf 2 (Ber.intOfs m.id)).length≤20:=by rw[Ber.fieldOf_length,Ber.intOfs_length];have:=Ber.lenOf_le ((Ber.intOfs m.id).length:Int);have:=Ber.isize_le m.id;rw[Ber.intOfs_length] at *;omega
 have hcl:(Ber.fieldOf t c).length≤100000010:=by rw[Ber.fieldOf_length];have:=Ber.lenOf_le (c.length:Int);omega
 obtain⟨l1,hl1⟩:∃l1,Ber.fieldOf 2 (Ber.intOfs m.id)=l1:=⟨_,rfl⟩
 obtain⟨l2,hl2⟩:∃l2,Ber.fieldOf t c=l2:=⟨_,rfl⟩
 have hgoal:Wr.enc [(0x30,Wr.enc [Wr.numF 2 m.id,(t,c)])]=Ber.fieldOf 0x30 (l1++l2):=by simp[Wr.enc,Wr.numF,hl1,hl2]
 rw[hgoal]
 rw[hl1] at HN hnl
 rw[hl2] at hcl
 have Hl2:=hide hl2
 have Hln:=hide (And.intro hnl hcl)
 obtain⟨bs,hbs⟩:∃bs,Ber.fieldOf 0x30 (l1++l2)=bs:=⟨_,rfl⟩
 rw[hbs]
 have Hbs:=hide hbs
 clear hX hB1 hf1 hw1 hb1 hp1 kX hC hcs hn hid hctl ht hlen hgoal hl1 hl2 hnl hcl hbs
 obtain⟨mi,hmi⟩:∃mi,m.id=mi:=⟨_,rfl⟩
 obtain⟨mk,hmk⟩:∃mk,m.kind=mk:=⟨_,rfl⟩
 rw[hmi] at K0 HN
 rw[hmk] at K1 HT
 have HB0:Hid (Below w1.heap.size w1 w1.drew):=hide (Below.refl _ _).drew
 go_enter Tryz.func22,Tryz.ntmps22
 go_upto_region 1 with fail
 rw[Hw.out]
 try rw[Hp.out]
 clear Hw hmi hmk
 refine grow_begin (by kernel_rfl) ?_
 generalize w1.drew=w2 at *
 refine grow_take 0 (some 4) (v:=?vm0) rfl rfl (by kernel_rfl) (by kernel_rfl) (by kernel_rfl) (fun _ _ _ h=>h) (by rfl) (fun W hW=>?ym0) ?_
 case ym0=>
  go_simp<;>with_reducible rfl
 simp only[Act.put,List.setIfInBounds_toArray,List.set_cons_zero,List.set_cons_succ]
 refine grow_take 1 (some 5) (v:=?vm1) rfl rfl (by kernel_rfl) (by kernel_rfl) (by kernel_rfl) (fun _ _ _ h=>h) (by rfl) (fun W hW=>?ym1) ?_
 case ym1=>
  have kk:=K0.out W (HB0.out.trans (Below.mono hW HB0.out.size))
  go_simp<;>with_reducible rfl
 simp only[Act.put,List.setIfInBounds_toArray,List.set_cons_zero,List.set_cons_succ]
 refine grow_take 3 (some 7) (v:=?vm3) rfl rfl (by kernel_rfl) (by kernel_rfl) (by kernel_rfl) (fun _ _ _ h=>h) (by rfl) (fun W hW=>?ym3) ?_
 case ym3=>
  go_simp<;>with_reducible rfl
 simp only[Act.put,List.setIfInBounds_toArray,List.set_cons_zero,List.set_cons_succ]
 refine grow_take 4 (some 8) (v:=?vm4) rfl rfl (by kernel_rfl) (by kernel_rfl) (by kernel_rfl) (fun _ _ _ h=>h) (by rfl) (fun W hW=>?ym4) ?_
 case ym4=>
  have kk:=K1.out W (HB0.out.trans (Below.mono hW HB0.out.size))
  go_simp<;>with_reducible rfl
 simp only[Act.put,List.setIfInBounds_toArray,List.set_cons_zero,List.set_cons_succ]
 refine grow_take 6 (some 10) (v:=.agg cs.toArray) rfl rfl (by kernel_rfl) (by kernel_rfl) (by kernel_rfl) (fun _ _ _ h=>h) (by rfl) (fun W hW=>?ym6) ?_
 case ym6=>
  exact exec_load _ _ _ rfl p1 0 rfl _ (KM.out W (HB0.out.trans (Below.mono hW HB0.out.size)))
 simp only[Act.put,List.setIfInBounds_toArray,List.set_cons_zero,List.set_cons_succ]
 refine grow_only 2 rfl (by kernel_rfl) (fun K hK=>?_)
 go_simp
 refine (HN.out w2).mono ?_
 rintro e w3 hpost
 obtain⟨v1,rfl,hown,hb⟩:=hpost.out
 obtain⟨A1,c1,rfl,-,-,hA⟩:=Ber.own_form' hown
 have HB1:=hide (HB0.out.trans (hb.mono HB0.out.size))
 have HA1:=hide hA
 refine hK.out _ _ hb ?_
 clear hK K hb HB0 hpost hown hA
 try simp only[Act.put,List.setIfInBounds_toArray,List.set_cons_zero,List.set_cons_succ]
 refine grow_only 5 rfl (by kernel_rfl) (fun K hK=>?_)
 go_simp
 refine (HT.out _).mono ?_
 rintro e w9 ⟨rfl,hw9⟩
 obtain rfl:=hw9
 have hb:=Below.refl w9.heap.size w9
 have HB2:=hide (HB1.out.trans (hb.mono HB1.out.size))
 have HA2:=hide ((HA1.out.below hb).upto hb.size)
 clear HA1
 refine hK.out _ _ hb ?_
 clear hK K hb HB1
 try simp only[Act.put,List.setIfInBounds_toArray,List.set_cons_zero,List.set_cons_succ]
 refine grow_only 7 rfl (by kernel_rfl) (fun K hK=>?_)
 go_simp
 refine (HC.out _ HB2.out).mono ?_
 rintro e w4 hpost
 obtain⟨A2,c2,rfl,hA2,hb⟩:=hpost.out
 have HB3:=hide (HB2.out.trans (hb.mono HB2.out.size))
 have HA3:=hide ((HA2.out.below hb).upto hb.size)
 clear HA2
 have HC3:=hide hA2
 refine hK.out _ _ hb ?_
 clear hK K hb HB2 hpost hA2
 try simp only[Act.put,List.setIfInBounds_toArray,List.set_cons_zero,List.set_cons_succ]
 refine grow_only 8 rfl (by kernel_rfl) (fun K hK=>?_)
 go_simp
 refine (Ber.field_any t _ _ A2 c.length c2 c HC3.out (Nat.le_refl _) (by have:=Hlen.out;omega)).mono ?_
 rintro e w5 ⟨v2,rfl,hown,hb⟩
 rw[Hl2.out] at hown
 obtain⟨A3,c3,rfl,-,-,hA3⟩:=Ber.own_form' hown
 have HB4:=hide (HB3.out.trans (hb.mono HB3.out.size))
 have HA4:=hide ((HA3.out.below hb).upto hb.size)
 clear HA3
 have HD4:=hide hA3
 refine hK.out _ _ hb ?_
 clear hK K hb HB3 hown hA3 HC3
 try simp only[Act.put,List.setIfInBounds_toArray,List.set_cons_zero,List.set_cons_succ]
 refine grow_only 9 rfl (by kernel_rfl) (fun K hK=>?_)
 go_simp
 have hb:Below w5.heap.size w5 (w5.alloc (.cells #[.slice A1 l1.length c1,.slice A3 l2.length c3] 33)):=(Below.refl _ _).alloc (Nat.le_refl _) _
 have hblk:=Blk.new w5 [.slice A1 l1.length c1,.slice A3 l2.length c3] 33
 have hS:SLs (w5.alloc (.cells #[.slice A1 l1.length c1,.slice A3 l2.length c3] 33)) [l1,l2] (some ⟨w5.heap.size,0,none⟩) 2:=SLs.two (by simp) (hblk.cells 0 _ rfl) (hblk.cells 1 _ rfl) ((HA4.out.below hb).upto hb.size) ((HD4.out.below hb).upto hb.size)
 obtain⟨w6,hw6⟩:∃w6,w5.alloc (.cells #[.slice A1 l1.length c1,.slice A3 l2.length c3] 33)=w6:=⟨_,rfl⟩
 rw[hw6] at hb hS ⊢
 clear hblk hw6
 have HB5:=hide (HB4.out.trans (hb.mono HB4.out.size))
 have HS5:=hide hS
 refine hK.out _ _ hb ?_
 clear hK K hb HB4 hS HA4 HD4
 try simp only[Act.put,List.setIfInBounds_toArray,List.set_cons_zero,List.set_cons_succ]
 refine grow_only 10 rfl (by kernel_rfl) (fun K hK=>?_)
 go_simp
 refine (concat8_any w6 _ 2 2 _ HS5.out (by omega) (by have:=Hln.out;simp[tot];omega)).mono ?_
 rintro e w7 hpost
 obtain⟨v3,rfl,hown,hb⟩:=hpost.out
 have e3:([l1,l2]:List (List UInt8)).flatten=l1++l2:=by simp
 rw[e3] at hown
 have HB6:=hide (HB5.out.trans (hb.mono HB5.out.size))
 have HB5x:=HB6.out.size
 have HB5w:=Nat.le_trans HBw.out.size HB5.out.size
 have HO6:=hide (own_base hown HB5w)
 refine hK.out _ _ hb ?_
 clear hK K hb HB5 hpost hown HS5 e3
 try simp only[Act.put,List.setIfInBounds_toArray,List.set_cons_zero,List.set_cons_succ]
 refine grow_take 11 (some 3) (v:=?vm11) rfl rfl (by kernel_rfl) (by kernel_rfl) (by kernel_rfl) (fun _ _ _ h=>h) (by rfl) (fun W hW=>?ym11) ?_
 case ym11=>
  go_simp<;>with_reducible rfl
 simp only[Act.put,List.setIfInBounds_toArray,List.set_cons_zero,List.set_cons_succ]
 refine grow_done (by kernel_rfl) ?_ _
 have k31:=K31.out _ HB6.out
 have hb7:=HBw.out.trans (HB6.out.mono HBw.out.size)
 have hf:=field_own (t:=0x30) (bs:=l1++l2) HO6.out hb7 (by have:=Hln.out;rw[List.length_append];omega)
 rw[Hbs.out] at hf
 have Hf:=hide hf
 clear hb7 hf HO6
 go_wp2_with (go_at_call 62;fail)
 refine Hf.out.mono ?_
 rintro e w8 hpost
 obtain⟨v4,rfl,hown,hb8⟩:=hpost.out
 have HO8:=hide hown
 have HB8:=hide hb8
 clear hpost hown hb8 Hf k31
 go_wp2
 go_ret
 exact⟨⟨_,rfl,HO8.out,HB8.out⟩⟩
end Go.Proofs.YtcpjmgfloimfhaaGreat
namespace Go.Proofs.YtcpjmgfloimfhaaGreat
open Go.RowKit
open Wr
set_option linter.unusedVariables false
theorem content_two (w:World) (m:MT) (v:Value) (hm:repM w (inB w) m v) (hk:m.kind=2):Calls Tryz.prog 64 #[v] w (CPost [] w):=by
 obtain⟨f0,f1,f2,f3,f4,f5,f6,va,vl,vc,vr,vk,rfl,hX⟩:=hm
 obtain⟨cs,hcs⟩:∃cs,mcells m f0 f1 f2 f3 f4 f5 f6 va vl vc vr vk=cs:=⟨_,rfl⟩
 rw[hcs]
 have hB1:Blk (w.alloc (.cells cs.toArray 42)) w.heap.size cs:=Blk.new w cs 42
 have hb1:Below w.heap.size w (w.alloc (.cells cs.toArray 42)):=(Below.refl _ _).alloc (Nat.le_refl _) _
 obtain⟨w1,hw1⟩:∃w1,w.alloc (.cells cs.toArray 42)=w1:=⟨_,rfl⟩
 rw[hw1] at hB1 hb1
 have k1:w1.cell? ⟨w.heap.size,1,none⟩=some (.int .i64 2):=hB1.cells 1 _ (by rw[←hcs,←hk];rfl)
 have Hw:=hide hw1
 have HB:=hide hb1
 clear hX hB1 hb1 hw1 hcs hk
 go_enter Tryz.func64,Tryz.ntmps64
 go_upto_region 1 with fail
 rw[Hw.out]
 go_wp2
 go_ret
 exact⟨⟨none,0,rfl,⟨rfl,.inl rfl⟩,HB.out⟩⟩
theorem content_ten (w:World) (m:MT) (v:Value) (hm:repM w (inB w) m v) (hk:m.kind=10):Calls Tryz.prog 64 #[v] w (CPost m.name w):=by
 obtain⟨f0,f1,f2,f3,f4,f5,f6,va,vl,vc,vr,vk,rfl,hX⟩:=hm
 obtain⟨cs,hcs⟩:∃cs,mcells m f0 f1 f2 f3 f4 f5 f6 va vl vc vr vk=cs:=⟨_,rfl⟩
 rw[hcs]
 have hB1:Blk (w.alloc (.cells cs.toArray 42)) w.heap.size cs:=Blk.new w cs 42
 have hb1:Below w.heap.size w (w.alloc (.cells cs.toArray 42)):=(Below.refl _ _).alloc (Nat.le_refl _) _
 obtain⟨w1,hw1⟩:∃w1,w.alloc (.cells cs.toArray 42)=w1:=⟨_,rfl⟩
 rw[hw1] at hB1 hb1
 have k1:w1.cell? ⟨w.heap.size,1,none⟩=some (.int .i64 10):=hB1.cells 1 _ (by rw[←hcs,←hk];rfl)
 have k2:w1.cell? ⟨w.heap.size,2,none⟩=some (.string (txt m.name)):=hB1.cells 2 _ (by rw[←hcs];rfl)
 obtain⟨cap,w2,hrun,hR,hb2⟩:=run_bytes8 (P:=Tryz.prog) w1 (txt m.name) 9 33 5 Tryz.underlying9 Tryz.underlying33 Tryz.underlying5
 rw[txt_size] at hrun
 have hR:Row8 w2 w1.heap.size m.name:=hR
 have hH:Has w2 w2.heap.size 1 (some ⟨w1.heap.size,0,none⟩) m.name.length (bys m.name):=hR.has.upto hR.lt
 have Hw:=hide hw1
 have HB:=hide (hb1.trans (hb2.mono hb1.size))
 have HH:=hide hH
 generalize w1.heap.size=g1 at *
 generalize txt m.name=tn at *
 generalize m.name=nm at *
 generalize hnl:nm.length=nl at *
 have Hnl:=hide hnl
 clear hX hB1 hb1 hw1 hcs hk hR hH hb2 hnl
 go_enter Tryz.func64,Tryz.ntmps64
 go_upto_region 1 with fail
 rw[Hw.out]
 go_wp2
 go_ret
 exact⟨⟨_,_,by rw[Hnl.out];rfl,by rw[Hnl.out];exact HH.out,HB.out⟩⟩
theorem enc_small (m:MT) (w:World) (v:Value) (hm:repM w (inB w) m v) (hf:FormedM m) (hk:m.kind=2∨m.kind=10) (hctl:m.ctls=[]) (hl:(bytesW m).length≤16384):
  Calls Tryz.prog 11 #[v] w fun e w'=>(∃v,e=.returned (.tuple #[v,.int .i64 0])∧w'.ownsRow w.heap.size 5 1 v (bytesW m).length (bys (bytesW m)))∧Below w.heap.size w w':=by
 have hid:=hf.ok.ints.1
 unfold in31 at hid
 have hnm:=hf.ok.texts.1
 obtain⟨t1,t2,-⟩:=oper_tag m.kind hf.known
 have hwr:∀W,Below w.heap.size w W→Calls Tryz.prog 22 #[v] W (WPost (bytesW m) W):=fun W hW=>by
  have hmW:=repM_below hm hW
  rcases hk with hk | hk
  ·have e:bytesW m=Wr.enc [(0x30,Wr.enc [Wr.numF 2 m.id,(operTag m.kind,[])])]:=by
    unfold bytesW messageF ctlsF operF contentF
    rw[hctl,hk]
    rfl
   rw[e]
   exact write_of W m v hmW [] (operTag m.kind) (by omega) hctl t2 (by simp) (fun V hV=>content_two V m v (repM_below hmW hV) hk)
  ·have e:bytesW m=Wr.enc [(0x30,Wr.enc [Wr.numF 2 m.id,(operTag m.kind,m.name)])]:=by
    unfold bytesW messageF ctlsF operF
    rw[hctl,hk]
    rfl
   rw[e]
   exact write_of W m v hmW m.name (operTag m.kind) (by omega) hctl t2 (by omega) (fun V hV=>content_ten V m v (repM_below hmW hV) hk)
 refine (encode_of w m v hm (bytesW m) (by omega) (fun _=>hwr)).mono ?_
 rintro e w' hpost
 have hz:=((kept_zero hf.kept).2.1 (by omega)).2.2.2.2.2.1
 have hv:encV m (bytesW m):=⟨by rw[hz];decide,decode_bytes m hf hl⟩
 exact⟨hpost.yes hv,hpost.below⟩
end Go.Proofs.YtcpjmgfloimfhaaGreat
namespace Go.Proofs.YtcpjmgfloimfhaaGreat
open Go.RowKit
open Wr
set_option linter.unusedVariables false
theorem zeroRepOf (w:World) (P:Nat→Prop) (m:MT) (h:m.filt=.mk 0 [] [] [] [] [] []∧m.attrs=[]∧m.lst=[]∧m.chs=[]∧m.refs=[]∧m.ctls=[]):
  repM w P m (.agg (mcells m (.int .i64 0) (.string ⟨#[]⟩) (.string ⟨#[]⟩) (.string ⟨#[]⟩) (.string ⟨#[]⟩) (.slice none 0 0) (.slice none 0 0) (.slice none 0 0) (.slice none 0 0) (.slice none 0 0) (.slice none 0 0) (.slice none 0 0)).toArray):=by
 obtain⟨z1,z2,z3,z4,z5,z6⟩:=h
 refine⟨_,_,_,_,_,_,_,_,_,_,_,_,rfl,⟨?_,?_,?_,?_,?_,?_⟩⟩
 ·rw [z1];exact⟨none,0,none,0,[],rfl,⟨by unfold maxLen;simp,by unfold maxLen;simp⟩,HasP.none _,HasP.none _,rfl⟩
 ·rw [z2];exact repL_zero
 ·rw [z3];exact repL_zero
 ·rw [z4];exact repL_zero
 ·rw [z5];exact repL_zero
 ·rw [z6];exact repL_zero
def wakeM:MT:={ id:=3,kind:=2 }
theorem wake_built:Tryz.prog.built 42 [(0,.int .i64 3),(1,.int .i64 2)]=some ([.int .i64 3,.int .i64 2,.string ⟨#[]⟩,.string ⟨#[]⟩,.int .i64 0,.int .i64 0,.int .i64 0,.int .i64 0,.int .i64 0,.bool false,.int .i64 0,.string ⟨#[]⟩,.string ⟨#[]⟩,.string ⟨#[]⟩,.string ⟨#[]⟩,.slice none 0 0,.slice none 0 0,.slice none 0 0,.slice none 0 0,.slice none 0 0,.string ⟨#[]⟩,.bool false,.bool false,.string ⟨#[]⟩,.string ⟨#[]⟩,.string ⟨#[]⟩,.int .i64 0,.int .i64 0,.string ⟨#[]⟩,.string ⟨#[]⟩,.slice none 0 0,.slice none 0 0]:List Value).toArray:=by kernel_rfl
theorem wake_bytes:bytesW wakeM=[48,5,2,1,3,66,0]:=by decide+kernel
theorem wake_formed:FormedM wakeM:=⟨.inl ⟨by simp[wakeM],by simp[wakeM]⟩,by simp[keptM,wakeM],bounds_of (i:=3) (k:=2) ⟨by omega,by omega⟩ (by omega) (by omega)⟩
theorem awake_any (w:World):Calls Tryz.prog 9 #[] w fun e w'=>e=.returned (.bool true)∧Below w.heap.size w w':=by
 obtain⟨cs,hcs⟩:∃cs,([.int .i64 3,.int .i64 2,.string ⟨#[]⟩,.string ⟨#[]⟩,.int .i64 0,.int .i64 0,.int .i64 0,.int .i64 0,.int .i64 0,.bool false,.int .i64 0,.string ⟨#[]⟩,.string ⟨#[]⟩,.string ⟨#[]⟩,.string ⟨#[]⟩,.slice none 0 0,.slice none 0 0,.slice none 0 0,.slice none 0 0,.slice none 0 0,.string ⟨#[]⟩,.bool false,.bool false,.string ⟨#[]⟩,.string ⟨#[]⟩,.string ⟨#[]⟩,.int .i64 0,.int .i64 0,.string ⟨#[]⟩,.string ⟨#[]⟩,.slice none 0 0,.slice none 0 0]:List Value)=cs:=⟨_,rfl⟩
 have hb:=wake_built
 rw[hcs] at hb
 have hr:=zeroRepOf w (inB w) wakeM ⟨rfl,rfl,rfl,rfl,rfl,rfl⟩
 replace hr:repM w (inB w) wakeM (.agg ([.int .i64 3,.int .i64 2,.string ⟨#[]⟩,.string ⟨#[]⟩,.int .i64 0,.int .i64 0,.int .i64 0,.int .i64 0,.int .i64 0,.bool false,.int .i64 0,.string ⟨#[]⟩,.string ⟨#[]⟩,.string ⟨#[]⟩,.string ⟨#[]⟩,.slice none 0 0,.slice none 0 0,.slice none 0 0,.slice none 0 0,.slice none 0 0,.string ⟨#[]⟩,.bool false,.bool false,.string ⟨#[]⟩,.string ⟨#[]⟩,.string ⟨#[]⟩,.int .i64 0,.int .i64 0,.string ⟨#[]⟩,.string ⟨#[]⟩,.slice none 0 0,.slice none 0 0]:List Value).toArray):=hr
 rw[hcs] at hr
 have henc:=enc_small wakeM w _ hr wake_formed (.inl rfl) rfl (by rw[wake_bytes];simp)
 rw[wake_bytes] at henc
 obtain⟨ys,hys⟩:∃ys:List UInt8,[48,5,2,1,3,66,0]=ys:=⟨_,rfl⟩
 rw[hys] at henc
 have ht:txt ys=⟨#[48,5,2,1,3,66,0]⟩:=by rw[←hys];rfl
 have Ht:=hide ht
 have Henc:=hide henc
 have Hb:=hide hb
 clear hcs hb hr henc hys ht
 go_enter Tryz.func9,Tryz.ntmps9
 go_upto_region 1 with fail
 refine wp_region_lit ?_
 refine wpList_buildTo rfl 42 #[(0,.const (.int .i64 3)),(1,.const (.int .i64 2))] rfl (some 4) rfl cs.toArray (by simp only[List.map_toArray,List.map_cons,List.map_nil];exact Hb.out) ?_
 simp only[Act.put,List.setIfInBounds_toArray,List.set_cons_zero,List.set_cons_succ]
 go_wp2_with (go_at_call 11;fail)
 refine Henc.out.mono ?_
 rintro e w1 ⟨⟨v,rfl,hown⟩,hb1⟩
 obtain⟨A,c,rfl,-,hH⟩:=own_form hown
 have hx:=run_txt (P:=Tryz.prog) w1 (c:=c) hH 33 9 5 Tryz.underlying33 Tryz.underlying5 Tryz.underlying9
 rw[Ht.out] at hx
 have HB1:=hide hb1
 clear hown hb1 hH Henc Hb Ht
 generalize ys.length=ny at *
 go_wp2
 go_ret
 exact⟨rfl,HB1.out⟩
end Go.Proofs.YtcpjmgfloimfhaaGreat
namespace Go.Proofs.YtcpjmgfloimfhaaGreat
open Go.RowKit
set_option linter.unusedVariables false
set_option linter.unusedSimpArgs false
theorem repW_below {α:Type} {E:Elem α} {w w':World} {L:List α} {v:Value} (h:repW E w (inB w) L v) (hb:Below w.heap.size w w'):repW E w' (inB w') L v:=by
 obtain⟨A,c,xs,e,hl,h1,h2⟩:=h
 exact⟨A,c,xs,e,hl,h1.move (fun p hp=>hb.cell (by exact hp)) (fun k hk=>Nat.lt_of_lt_of_le hk hb.size),h2.move (fun p hp=>hb.cell (by exact hp)) (fun k hk=>Nat.lt_of_lt_of_le hk hb.size)⟩
theorem MWide.below {w w':World} {m:MT} {f0 f1 f2 f3 f4 f5 f6 va vl vc vr vk:Value} (h:MWide w m f0 f1 f2 f3 f4 f5 f6 va vl vc vr vk) (hb:Below w.heap.size w w'):MWide w' m f0 f1 f2 f3 f4 f5 f6 va vl vc vr vk:=
 ⟨h.filt.grow hb,repW_below h.attrs hb,repW_below h.lst hb,repW_below h.chs hb,repW_below h.refs hb,repW_below h.ctls hb⟩
theorem loadGR {ops:Array Oper} {rest:List Oper} {op:Oper} {a:Act} {w:World} {Q:Exit→Act→World→Prop} (hw:Region.wanted op (yielded ops a.tmps)=true) (x:Operand) (ho:op.op=.load 30 x)
  (b:Nat) (hx:a.eval x=.pointer (some ⟨b,0,none⟩)) (cs:List Value) (hc:Blk w b cs) (hn:cs.length=32)
  (h:wpList Tryz.prog ops Q rest (a.put op.dst (.agg cs.toArray)) w):wpList Tryz.prog ops Q (op::rest) a w:=
 wpList_step fun K hK=>by
  rw[if_pos hw]
  exact wp_load_mid 30 x ho b 0 hx cs _ hc.range Tryz.underlying30 rfl (by rw[hn];kernel_rfl) (hK _ _ h)
theorem wee_of_smallM {m:MT} (h:smallM m=true):m.filt.wee:=by
 unfold smallM FT.smallB at h
 simp only[Bool.and_eq_true,decide_eq_true_eq] at h
 exact FT.wee_of_small h.2
theorem few_of_smallM {m:MT} (h:smallM m=true):m.few:=by
 unfold smallM at h
 simp only[Bool.and_eq_true,decide_eq_true_eq] at h
 exact few_of h.1
theorem msgsame_n1 (w w1 w2:World) (p1 p2:Nat) (cx cy:List Value) (Hw:Hid (w.alloc (.cells cx.toArray 30)=w1∧w1.alloc (.cells cy.toArray 30)=w2)) (Hp:Hid (w.heap.size=p1∧w1.heap.size=p2)) (HX:Hid (Blk w2 p1 cx)) (HY:Hid (Blk w2 p2 cy)) (hnx:cx.length=32) (hny:cy.length=32) (HBw:Hid (Below w.heap.size w w2))
  (SX:Hid (∀W,Below w2.heap.size w2 W→Calls Tryz.prog 10 #[.agg cx.toArray] W fun e w'=>e=.returned (.bool false)∧Below W.heap.size W w')):
  Calls Tryz.prog 6 #[.agg cx.toArray,.agg cy.toArray] w fun e w'=>e=.returned (.bool true)∧Below w.heap.size w w':=by
 have AW:Hid (∀W,Below w2.heap.size w2 W→Calls Tryz.prog 9 #[] W fun e w'=>e=.returned (.bool true)∧Below W.heap.size W w'):=hide fun W _=>awake_any W
 have HB2:Hid (Below w2.heap.size w2 w2):=hide (Below.refl _ _)
 go_enter Tryz.func6,Tryz.ntmps6
 go_wp2_with (first | (refine boxTo rfl 30 (.tmp 0) rfl (some 2) rfl cx rfl p1 Hp.out.1 w1 Hw.out.1 ?_) | (refine boxTo rfl 30 (.tmp 1) rfl (some 3) rfl cy rfl p2 Hp.out.2 w2 Hw.out.2 ?_) | (go_at_call 9;fail))
 refine (AW.out _ HB2.out).mono ?_
 rintro e w3 ⟨rfl,hb⟩
 have HB3:=hide (HB2.out.trans (hb.mono HB2.out.size))
 clear hb
 have HX3:=hide (HX.out.fr (Fr.of (X:=fun _=>False) HB3.out) id)
 go_wp2_with (first | (go_at_call 10;fail) | (refine loadGR (by rfl) (.tmp 2) rfl p1 rfl cx HX3.out hnx ?_))
 refine (SX.out _ HB3.out).mono ?_
 rintro e w4 ⟨rfl,hb⟩
 have HB4:=hide (HB3.out.trans (hb.mono HB3.out.size))
 clear hb
 go_wp2_with (go_at_call 9;fail)
 refine (AW.out _ HB4.out).mono ?_
 rintro e w5 ⟨rfl,hb⟩
 have HB5:=hide (HB4.out.trans (hb.mono HB4.out.size))
 clear hb
 go_wp2
 go_ret
 exact⟨rfl,HBw.out.trans (HB5.out.mono HBw.out.size)⟩
theorem msgsame_n2 (w w1 w2:World) (p1 p2:Nat) (cx cy:List Value) (Hw:Hid (w.alloc (.cells cx.toArray 30)=w1∧w1.alloc (.cells cy.toArray 30)=w2)) (Hp:Hid (w.heap.size=p1∧w1.heap.size=p2)) (HX:Hid (Blk w2 p1 cx)) (HY:Hid (Blk w2 p2 cy)) (hnx:cx.length=32) (hny:cy.length=32) (HBw:Hid (Below w.heap.size w w2))
  (SX:Hid (∀W,Below w2.heap.size w2 W→Calls Tryz.prog 10 #[.agg cx.toArray] W fun e w'=>e=.returned (.bool true)∧Below W.heap.size W w')) (SY:Hid (∀W,Below w2.heap.size w2 W→Calls Tryz.prog 10 #[.agg cy.toArray] W fun e w'=>e=.returned (.bool false)∧Below W.heap.size W w')):
  Calls Tryz.prog 6 #[.agg cx.toArray,.agg cy.toArray] w fun e w'=>e=.returned (.bool true)∧Below w.heap.size w w':=by
 have AW:Hid (∀W,Below w2.heap.size w2 W→Calls Tryz.prog 9 #[] W fun e w'=>e=.returned (.bool true)∧Below W.heap.size W w'):=hide fun W _=>awake_any W
 have HB2:Hid (Below w2.heap.size w2 w2):=hide (Below.refl _ _)
 go_enter Tryz.func6,Tryz.ntmps6
 go_wp2_with (first | (refine boxTo rfl 30 (.tmp 0) rfl (some 2) rfl cx rfl p1 Hp.out.1 w1 Hw.out.1 ?_) | (refine boxTo rfl 30 (.tmp 1) rfl (some 3) rfl cy rfl p2 Hp.out.2 w2 Hw.out.2 ?_) | (go_at_call 9;fail))
 refine (AW.out _ HB2.out).mono ?_
 rintro e w3 ⟨rfl,hb⟩
 have HB3:=hide (HB2.out.trans (hb.mono HB2.out.size))
 clear hb
 have HX3:=hide (HX.out.fr (Fr.of (X:=fun _=>False) HB3.out) id)
 go_wp2_with (first | (go_at_call 10;fail) | (refine loadGR (by rfl) (.tmp 2) rfl p1 rfl cx HX3.out hnx ?_))
 refine (SX.out _ HB3.out).mono ?_
 rintro e w4 ⟨rfl,hb⟩
 have HB4:=hide (HB3.out.trans (hb.mono HB3.out.size))
 clear hb
 have HY4:=hide (HY.out.fr (Fr.of (X:=fun _=>False) HB4.out) id)
 go_wp2_with (first | (go_at_call 10;fail) | (refine loadGR (by rfl) (.tmp 3) rfl p2 rfl cy HY4.out hny ?_))
 refine (SY.out _ HB4.out).mono ?_
 rintro e w5 ⟨rfl,hb⟩
 have HB5:=hide (HB4.out.trans (hb.mono HB4.out.size))
 clear hb
 go_wp2_with (go_at_call 9;fail)
 refine (AW.out _ HB5.out).mono ?_
 rintro e w6 ⟨rfl,hb⟩
 have HB6:=hide (HB5.out.trans (hb.mono HB5.out.size))
 clear hb
 go_wp2
 go_ret
 exact⟨rfl,HBw.out.trans (HB6.out.mono HBw.out.size)⟩
theorem msgsame_y (w w1 w2:World) (p1 p2:Nat) (cx cy:List Value) (Hw:Hid (w.alloc (.cells cx.toArray 30)=w1∧w1.alloc (.cells cy.toArray 30)=w2)) (Hp:Hid (w.heap.size=p1∧w1.heap.size=p2)) (HX:Hid (Blk w2 p1 cx)) (HY:Hid (Blk w2 p2 cy)) (hnx:cx.length=32) (hny:cy.length=32) (HBw:Hid (Below w.heap.size w w2))
  (SX:Hid (∀W,Below w2.heap.size w2 W→Calls Tryz.prog 10 #[.agg cx.toArray] W fun e w'=>e=.returned (.bool true)∧Below W.heap.size W w')) (SY:Hid (∀W,Below w2.heap.size w2 W→Calls Tryz.prog 10 #[.agg cy.toArray] W fun e w'=>e=.returned (.bool true)∧Below W.heap.size W w'))
  (x y:MT) (R:Bool) (TX:Hid (∀W,Below w2.heap.size w2 W→Calls Tryz.prog 12 #[.agg cx.toArray] W (MConv x W))) (TY:Hid (∀W,Below w2.heap.size w2 W→Calls Tryz.prog 12 #[.agg cy.toArray] W (MConv y W)))
  (PS:Hid (∀(W:World) (v v':Value),repM W (inB W) x v→repM W (inB W) y v'→Calls Tryz.prog 18 #[v,v'] W fun e w'=>e=.returned (.bool R)∧Below W.heap.size W w'))
  (PX:Hid (∀(W:World) (v v':Value),repM W (inB W) x v→repM W (inB W) x v'→Calls Tryz.prog 18 #[v,v'] W fun e w'=>e=.returned (.bool true)∧Below W.heap.size W w'))
  (RS:Hid (∀W,Below w2.heap.size w2 W→Calls Tryz.prog 16 #[.agg cx.toArray,.agg cy.toArray] W fun e w'=>e=.returned (.bool R)∧Below W.heap.size W w')):
  Calls Tryz.prog 6 #[.agg cx.toArray,.agg cy.toArray] w fun e w'=>e=.returned (.bool true)∧Below w.heap.size w w':=by
 have AW:Hid (∀W,Below w2.heap.size w2 W→Calls Tryz.prog 9 #[] W fun e w'=>e=.returned (.bool true)∧Below W.heap.size W w'):=hide fun W _=>awake_any W
 have HB2:Hid (Below w2.heap.size w2 w2):=hide (Below.refl _ _)
 go_enter Tryz.func6,Tryz.ntmps6
 go_wp2_with (first | (refine boxTo rfl 30 (.tmp 0) rfl (some 2) rfl cx rfl p1 Hp.out.1 w1 Hw.out.1 ?_) | (refine boxTo rfl 30 (.tmp 1) rfl (some 3) rfl cy rfl p2 Hp.out.2 w2 Hw.out.2 ?_) | (go_at_call 9;fail))
 refine (AW.out _ HB2.out).mono ?_
 rintro e w3 ⟨rfl,hb⟩
 have HB3:=hide (HB2.out.trans (hb.mono HB2.out.size))
 clear hb
 have HX3:=hide (HX.out.fr (Fr.of (X:=fun _=>False) HB3.out) id)
 go_wp2_with (first | (go_at_call 10;fail) | (refine loadGR (by rfl) (.tmp 2) rfl p1 rfl cx HX3.out hnx ?_))
 refine (SX.out _ HB3.out).mono ?_
 rintro e w4 ⟨rfl,hb⟩
 have HB4:=hide (HB3.out.trans (hb.mono HB3.out.size))
 clear hb
 have HY4:=hide (HY.out.fr (Fr.of (X:=fun _=>False) HB4.out) id)
 go_wp2_with (first | (go_at_call 10;fail) | (refine loadGR (by rfl) (.tmp 3) rfl p2 rfl cy HY4.out hny ?_))
 refine (SY.out _ HB4.out).mono ?_
 rintro e w5 ⟨rfl,hb⟩
 have HB5:=hide (HB4.out.trans (hb.mono HB4.out.size))
 clear hb
 go_wp2_with fail
 have KX:Hid (∀W,Below w2.heap.size w2 W→W.rangeAt p1 0 cx):=hide fun W hW=>(HX.out.fr (Fr.of (X:=fun _=>False) hW) id).range
 have KY:Hid (∀W,Below w2.heap.size w2 W→W.rangeAt p2 0 cy):=hide fun W hW=>(HY.out.fr (Fr.of (X:=fun _=>False) hW) id).range
 have HB0:Hid (Below w2.heap.size w2 w5.drew):=hide (HB5.out.trans ((Below.refl w5.heap.size w5).drew.mono HB5.out.size))
 clear HX HY HX3 HY4 AW SX SY HB2 HB3 HB4 HB5 Hw Hp
 refine grow_begin (by kernel_rfl) ?_
 generalize w5.drew=wd at *
 have HBc:=HB0
 refine grow_take 0 (some 18) (v:=.agg cx.toArray) rfl rfl (by kernel_rfl) (by kernel_rfl) (by kernel_rfl) (fun _ _ _ h=>h) (by rfl) (fun W hW=>?ya0) ?_
 case ya0=>
  exact exec_load _ _ _ rfl p1 0 rfl _ (run_loadVar_mid W p1 0 30 cx _ (KX.out W (HB0.out.trans (hW.mono HB0.out.size))) Tryz.underlying30 rfl (by rw[hnx];kernel_rfl))
 try simp only[Act.put,List.setIfInBounds_toArray,List.set_cons_zero,List.set_cons_succ]
 refine grow_take 2 (some 20) (v:=.agg cy.toArray) rfl rfl (by kernel_rfl) (by kernel_rfl) (by kernel_rfl) (fun _ _ _ h=>h) (by rfl) (fun W hW=>?ya2) ?_
 case ya2=>
  exact exec_load _ _ _ rfl p2 0 rfl _ (run_loadVar_mid W p2 0 30 cy _ (KY.out W (HB0.out.trans (hW.mono HB0.out.size))) Tryz.underlying30 rfl (by rw[hny];kernel_rfl))
 try simp only[Act.put,List.setIfInBounds_toArray,List.set_cons_zero,List.set_cons_succ]
 refine grow_take 5 (some 23) (v:=.agg cx.toArray) rfl rfl (by kernel_rfl) (by kernel_rfl) (by kernel_rfl) (fun _ _ _ h=>h) (by rfl) (fun W hW=>?ya5) ?_
 case ya5=>
  exact exec_load _ _ _ rfl p1 0 rfl _ (run_loadVar_mid W p1 0 30 cx _ (KX.out W (HB0.out.trans (hW.mono HB0.out.size))) Tryz.underlying30 rfl (by rw[hnx];kernel_rfl))
 try simp only[Act.put,List.setIfInBounds_toArray,List.set_cons_zero,List.set_cons_succ]
 refine grow_take 6 (some 24) (v:=.agg cy.toArray) rfl rfl (by kernel_rfl) (by kernel_rfl) (by kernel_rfl) (fun _ _ _ h=>h) (by rfl) (fun W hW=>?ya6) ?_
 case ya6=>
  exact exec_load _ _ _ rfl p2 0 rfl _ (run_loadVar_mid W p2 0 30 cy _ (KY.out W (HB0.out.trans (hW.mono HB0.out.size))) Tryz.underlying30 rfl (by rw[hny];kernel_rfl))
 try simp only[Act.put,List.setIfInBounds_toArray,List.set_cons_zero,List.set_cons_succ]
 refine grow_only 1 rfl (by kernel_rfl) (fun K hK=>?_)
 go_simp
 refine (TX.out _ HBc.out).mono ?_
 rintro e k1 hpost
 obtain⟨v1,rfl,hr,hb⟩:=hpost.out
 have R1:=hide hr
 clear hr hpost
 replace HBc:=hide (HBc.out.trans (hb.mono HBc.out.size))
 refine hK.out _ _ hb ?_
 clear hK K hb
 try simp only[Act.put,List.setIfInBounds_toArray,List.set_cons_zero,List.set_cons_succ]
 refine grow_only 3 rfl (by kernel_rfl) (fun K hK=>?_)
 go_simp
 refine (TY.out _ HBc.out).mono ?_
 rintro e k2 hpost
 obtain⟨v3,rfl,hr,hb⟩:=hpost.out
 replace R1:=hide (repM_below R1.out hb)
 have R3:=hide hr
 clear hr hpost
 replace HBc:=hide (HBc.out.trans (hb.mono HBc.out.size))
 refine hK.out _ _ hb ?_
 clear hK K hb
 try simp only[Act.put,List.setIfInBounds_toArray,List.set_cons_zero,List.set_cons_succ]
 refine grow_only 4 rfl (by kernel_rfl) (fun K hK=>?_)
 go_simp
 refine (PS.out _ _ _ R1.out R3.out).mono ?_
 rintro e k3 ⟨rfl,hb⟩
 clear R1 R3
 replace HBc:=hide (HBc.out.trans (hb.mono HBc.out.size))
 refine hK.out _ _ hb ?_
 clear hK K hb
 try simp only[Act.put,List.setIfInBounds_toArray,List.set_cons_zero,List.set_cons_succ]
 refine grow_only 7 rfl (by kernel_rfl) (fun K hK=>?_)
 go_simp
 refine (RS.out _ HBc.out).mono ?_
 rintro e k4 ⟨rfl,hb⟩
 replace HBc:=hide (HBc.out.trans (hb.mono HBc.out.size))
 refine hK.out _ _ hb ?_
 clear hK K hb
 try simp only[Act.put,List.setIfInBounds_toArray,List.set_cons_zero,List.set_cons_succ]
 refine grow_take 8 (some 26) (v:=.bool true) rfl rfl (by kernel_rfl) (by kernel_rfl) (by kernel_rfl) (fun _ _ _ h=>h) (by rfl) (fun W hW=>?ya8) ?_
 case ya8=>
  go_simp<;>with_reducible rfl
 try simp only[Act.put,List.setIfInBounds_toArray,List.set_cons_zero,List.set_cons_succ]
 refine grow_take 9 (some 27) (v:=.bool true) rfl rfl (by kernel_rfl) (by kernel_rfl) (by kernel_rfl) (fun _ _ _ h=>h) (by rfl) (fun W hW=>?ya9) ?_
 case ya9=>
  go_simp<;>with_reducible rfl
 try simp only[Act.put,List.setIfInBounds_toArray,List.set_cons_zero,List.set_cons_succ]
 refine grow_take 10 (some 28) (v:=.agg cx.toArray) rfl rfl (by kernel_rfl) (by kernel_rfl) (by kernel_rfl) (fun _ _ _ h=>h) (by rfl) (fun W hW=>?ya10) ?_
 case ya10=>
  exact exec_load _ _ _ rfl p1 0 rfl _ (run_loadVar_mid W p1 0 30 cx _ (KX.out W (HBc.out.trans (hW.mono HBc.out.size))) Tryz.underlying30 rfl (by rw[hnx];kernel_rfl))
 try simp only[Act.put,List.setIfInBounds_toArray,List.set_cons_zero,List.set_cons_succ]
 refine grow_take 12 (some 30) (v:=.agg cx.toArray) rfl rfl (by kernel_rfl) (by kernel_rfl) (by kernel_rfl) (fun _ _ _ h=>h) (by rfl) (fun W hW=>?ya12) ?_
 case ya12=>
  exact exec_load _ _ _ rfl p1 0 rfl _ (run_loadVar_mid W p1 0 30 cx _ (KX.out W (HBc.out.trans (hW.mono HBc.out.size))) Tryz.underlying30 rfl (by rw[hnx];kernel_rfl))
 try simp only[Act.put,List.setIfInBounds_toArray,List.set_cons_zero,List.set_cons_succ]
 refine grow_only 11 rfl (by kernel_rfl) (fun K hK=>?_)
 go_simp
 refine (TX.out _ HBc.out).mono ?_
 rintro e k5 hpost
 obtain⟨v11,rfl,hr,hb⟩:=hpost.out
 have R11:=hide hr
 clear hr hpost
 replace HBc:=hide (HBc.out.trans (hb.mono HBc.out.size))
 refine hK.out _ _ hb ?_
 clear hK K hb
 try simp only[Act.put,List.setIfInBounds_toArray,List.set_cons_zero,List.set_cons_succ]
 refine grow_only 13 rfl (by kernel_rfl) (fun K hK=>?_)
 go_simp
 refine (TX.out _ HBc.out).mono ?_
 rintro e k6 hpost
 obtain⟨v13,rfl,hr,hb⟩:=hpost.out
 replace R11:=hide (repM_below R11.out hb)
 have R13:=hide hr
 clear hr hpost
 replace HBc:=hide (HBc.out.trans (hb.mono HBc.out.size))
 refine hK.out _ _ hb ?_
 clear hK K hb
 try simp only[Act.put,List.setIfInBounds_toArray,List.set_cons_zero,List.set_cons_succ]
 refine grow_only 14 rfl (by kernel_rfl) (fun K hK=>?_)
 go_simp
 refine (PX.out _ _ _ R11.out R13.out).mono ?_
 rintro e k7 ⟨rfl,hb⟩
 clear R11 R13
 replace HBc:=hide (HBc.out.trans (hb.mono HBc.out.size))
 refine hK.out _ _ hb ?_
 clear hK K hb
 try simp only[Act.put,List.setIfInBounds_toArray,List.set_cons_zero,List.set_cons_succ]
 refine grow_take 15 (some 33) (v:=.bool true) rfl rfl (by kernel_rfl) (by kernel_rfl) (by kernel_rfl) (fun _ _ _ h=>h) (by rfl) (fun W hW=>?ya15) ?_
 case ya15=>
  go_simp<;>with_reducible rfl
 try simp only[Act.put,List.setIfInBounds_toArray,List.set_cons_zero,List.set_cons_succ]
 refine grow_take 16 (some 4) (v:=?va16) rfl rfl (by kernel_rfl) (by kernel_rfl) (by kernel_rfl) (fun _ _ _ h=>h) (by rfl) (fun W hW=>?ya16) ?_
 case ya16=>
  go_simp<;>with_reducible rfl
 try simp only[Act.put,List.setIfInBounds_toArray,List.set_cons_zero,List.set_cons_succ]
 refine grow_done (by kernel_rfl) ?_ _
 go_wp2
 go_ret
 exact⟨rfl,HBw.out.trans (HBc.out.mono HBw.out.size)⟩
theorem msgsame_law {H:Type} (w:World) (x y:MT) (v v':Value) (d d':DataW H) (hx:Opens.MsgIn w v d x) (hy:Opens.MsgIn w v' d' y) (hdx:Rows.uptoBulk d≤1048576) (hdy:Rows.uptoBulk d'≤1048576):
  Calls Tryz.prog 6 #[v,v'] w fun e w'=>e=.returned (.bool true)∧Below w.heap.size w w':=by
 obtain⟨f0,f1,f2,f3,f4,f5,f6,va,vl,vc,vr,vk,rfl,hX⟩:=hx.out
 obtain⟨g0,g1,g2,g3,g4,g5,g6,ua,ul,uc,ur,uk,rfl,hY⟩:=hy.out
 have hbx:=hx.bulk
 have hby:=hy.bulk
 have hmx:mw x≤1048576:=by omega
 have hmy:mw y≤1048576:=by omega
 have SXx:∀W,Below w.heap.size w W→Calls Tryz.prog 10 #[.agg (mcells x f0 f1 f2 f3 f4 f5 f6 va vl vc vr vk).toArray] W fun e w'=>e=.returned (.bool (smallM x))∧Below W.heap.size W w':=fun W hW=>msmall_any W x _ _ _ _ _ _ _ _ _ _ _ _ (hX.below hW) hmx
 have SYy:∀W,Below w.heap.size w W→Calls Tryz.prog 10 #[.agg (mcells y g0 g1 g2 g3 g4 g5 g6 ua ul uc ur uk).toArray] W fun e w'=>e=.returned (.bool (smallM y))∧Below W.heap.size W w':=fun W hW=>msmall_any W y _ _ _ _ _ _ _ _ _ _ _ _ (hY.below hW) hmy
 have RX:smallM x=true→∀W,Below w.heap.size w W→repM W (inB W) x (.agg (mcells x f0 f1 f2 f3 f4 f5 f6 va vl vc vr vk).toArray):=fun h W hW=>⟨_,_,_,_,_,_,_,_,_,_,_,_,rfl,(hX.below hW).reps (few_of_smallM h)⟩
 have RY:smallM y=true→∀W,Below w.heap.size w W→repM W (inB W) y (.agg (mcells y g0 g1 g2 g3 g4 g5 g6 ua ul uc ur uk).toArray):=fun h W hW=>⟨_,_,_,_,_,_,_,_,_,_,_,_,rfl,(hY.below hW).reps (few_of_smallM h)⟩
 obtain⟨cx,hcx⟩:∃cx,mcells x f0 f1 f2 f3 f4 f5 f6 va vl vc vr vk=cx:=⟨_,rfl⟩
 obtain⟨cy,hcy⟩:∃cy,mcells y g0 g1 g2 g3 g4 g5 g6 ua ul uc ur uk=cy:=⟨_,rfl⟩
 have hnx:cx.length=32:=by rw[←hcx];rfl
 have hny:cy.length=32:=by rw[←hcy];rfl
 rw[hcx] at SXx RX ⊢
 rw[hcy] at SYy RY ⊢
 have hB1:Blk (w.alloc (.cells cx.toArray 30)) w.heap.size cx:=Blk.new w cx 30
 have hf1:Fr (fun _=>False) w (w.alloc (.cells cx.toArray 30)):=Fr.alloc _ _ _
 obtain⟨w1,hw1⟩:∃w1,w.alloc (.cells cx.toArray 30)=w1:=⟨_,rfl⟩
 have hs1:w1.heap.size=w.heap.size+1:=by rw[←hw1];simp
 rw[hw1] at hB1 hf1
 have hB2:Blk (w1.alloc (.cells cy.toArray 30)) w1.heap.size cy:=Blk.new w1 cy 30
 have hf2:Fr (fun _=>False) w1 (w1.alloc (.cells cy.toArray 30)):=Fr.alloc _ _ _
 obtain⟨w2,hw2⟩:∃w2,w1.alloc (.cells cy.toArray 30)=w2:=⟨_,rfl⟩
 rw[hw2] at hB2 hf2
 have hB1b:=hB1.fr hf2 id
 have hb:Below w.heap.size w w2:=(hf1.trans hf2).below (Nat.le_refl _) (fun k q=>q.elim)
 have hup:∀W,Below w2.heap.size w2 W→Below w.heap.size w W:=fun W hW=>hb.trans (hW.mono hb.size)
 have Hw:Hid (w.alloc (.cells cx.toArray 30)=w1∧w1.alloc (.cells cy.toArray 30)=w2):=hide ⟨hw1,hw2⟩
 have Hp:Hid (w.heap.size=w.heap.size∧w1.heap.size=w1.heap.size):=hide ⟨rfl,rfl⟩
 cases hsx:smallM x with
 | false=>
  rw[hsx] at SXx
  exact msgsame_n1 w w1 w2 _ _ cx cy Hw Hp (hide hB1b) (hide hB2) hnx hny (hide hb) (hide fun W hW=>SXx W (hup W hW))
 | true=>
  rw[hsx] at SXx
  cases hsy:smallM y with
  | false=>
   rw[hsy] at SYy
   exact msgsame_n2 w w1 w2 _ _ cx cy Hw Hp (hide hB1b) (hide hB2) hnx hny (hide hb) (hide fun W hW=>SXx W (hup W hW)) (hide fun W hW=>SYy W (hup W hW))
  | true=>
   rw[hsy] at SYy
   obtain⟨R,hR⟩:=boolOf (x=y)
   exact msgsame_y w w1 w2 _ _ cx cy Hw Hp (hide hB1b) (hide hB2) hnx hny (hide hb) (hide fun W hW=>SXx W (hup W hW)) (hide fun W hW=>SYy W (hup W hW)) x y R
    (hide fun W hW=>theirsM_any W x _ (RX hsx W (hup W hW)) (wee_of_smallM hsx)) (hide fun W hW=>theirsM_any W y _ (RY hsy W (hup W hW)) (wee_of_smallM hsy))
    (hide fun W v v' h h'=>same_any W x y v v' h h' (wee_of_smallM hsx) R hR) (hide fun W v v' h h'=>same_any W x x v v' h h' (wee_of_smallM hsx) true (by simp))
    (hide fun W hW=>rsame_any W x y _ _ (RX hsx W (hup W hW)) (RY hsy W (hup W hW)) R hR)
end Go.Proofs.YtcpjmgfloimfhaaGreat
