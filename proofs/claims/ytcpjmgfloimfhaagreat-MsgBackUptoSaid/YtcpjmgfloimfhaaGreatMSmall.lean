/- Whether a message is of a size that is looked at. By an AI agent. -/
import Derived.Test.YtcpjmgfloimfhaaGreatOpenMsg
import Derived.Test.YtcpjmgfloimfhaaGreatM16
import Derived.Test.YtcpjmgfloimfhaaGreatM07
set_option linter.unusedSimpArgs false
set_option linter.unusedVariables false
set_option maxRecDepth 100000
set_option maxHeartbeats 32000000
namespace Go.Proofs.YtcpjmgfloimfhaaGreat
open Go.RowKit
def cntA (L:List Atr):Nat:=(L.map fun a=>1+a.2.length).sum
def cntH (L:List (Int × Atr)):Nat:=(L.map fun a=>1+a.2.2.length).sum
def cntM (m:MT):Nat:=cntA m.lst+cntH m.chs+m.attrs.length+m.refs.length+m.ctls.length
def smallM (m:MT):Bool:=decide (cntM m<=5000)&&m.filt.smallB
theorem sum_mem {α:Type} (g:α->Nat):∀{L:List α} {x:α},x∈L->g x<=(L.map g).sum
 | y::r,x,h=>by
  simp only[List.map_cons,List.sum_cons]
  rcases List.mem_cons.1 h with rfl | h
  ·omega
  ·have:=sum_mem g h;omega
theorem sum_len {α:Type} (g:α->Nat) (hg:∀x,1<=g x):∀L:List α,L.length<=(L.map g).sum
 | []=>by simp
 | y::r=>by have:=sum_len g hg r;have:=hg y;simp only[List.map_cons,List.sum_cons,List.length_cons];omega
theorem sum_le {α:Type} (g g':α->Nat) (hg:∀x,g x<=g' x):∀L:List α,(L.map g).sum<=(L.map g').sum
 | []=>by simp
 | y::r=>by have:=sum_le g g' hg r;have:=hg y;simp only[List.map_cons,List.sum_cons];omega
theorem few_of {m:MT} (h:cntM m<=5000):m.few:=by
 unfold cntM cntA cntH at h
 have h1:=sum_len (fun a:Atr=>1+a.2.length) (fun _=>by omega) m.lst
 have h2:=sum_len (fun a:Int × Atr=>1+a.2.2.length) (fun _=>by omega) m.chs
 refine⟨by omega,by omega,by omega,by omega,by omega,fun a ha=>?_,fun a ha=>?_⟩
 ·have:=sum_mem (fun a:Atr=>1+a.2.length) ha;omega
 ·have:=sum_mem (fun a:Int × Atr=>1+a.2.2.length) ha;omega
theorem tsw_len (L:List (List UInt8)):L.length<=tsw L:=by
 unfold tsw
 have:=sum_len tw (fun x=>by unfold tw;omega) L
 omega
theorem cnt_mw (m:MT):cntM m<=mw m:=by
 unfold cntM cntA cntH mw
 have h1:=sum_le (fun a:Atr=>1+a.2.length) aw (fun a=>by unfold aw;have:=tsw_len a.2;omega) m.lst
 have h2:=sum_le (fun a:Int × Atr=>1+a.2.2.length) hw (fun a=>by unfold hw aw;have:=tsw_len a.2.2;omega) m.chs
 have h3:=tsw_len m.attrs
 have h4:=tsw_len m.refs
 have h5:=sum_len cw (fun c=>by unfold cw;omega) m.ctls
 omega
theorem cnt_take {α:Type} (g:α->Nat) {L:List α} {i:Nat} {x:α} (h:L[i]?=some x):((L.take (i+1)).map g).sum=((L.take i).map g).sum+g x:=by
 rw[List.take_add_one,h];simp
theorem cnt_le {α:Type} (g:α->Nat) (L:List α) (i:Nat):((L.take i).map g).sum<=(L.map g).sum:=by
 have:(L.map g).sum=((L.take i).map g).sum+((L.drop i).map g).sum:=by rw[<-List.sum_append,<-List.map_append,List.take_append_drop]
 omega
theorem repW_slice {α:Type} {E:Elem α} {w:World} {P:Nat->Prop} {L:List α} {v:Value} (h:repW E w P L v):∃A c,v=.slice A L.length c/\L.length<=maxLen:=by
 obtain⟨A,c,xs,rfl,h,_⟩:=h;exact⟨_,_,rfl,h⟩
theorem loadG7 {ops:Array Oper} {rest:List Oper} {op:Oper} {a:Act} {w:World} {Q:Exit->Act->World->Prop} (hw:Region.wanted op (yielded ops a.tmps)=true) (x:Operand) (ho:op.op=.load 25 x)
  (b o:Nat) (hx:a.eval x=.pointer (some ⟨b,o,none⟩)) (cs:List Value) (hc:w.rangeAt b o cs) (hn:cs.length=7)
  (h:wpList Tryz.prog ops Q rest (a.put op.dst (.agg cs.toArray)) w):wpList Tryz.prog ops Q (op::rest) a w:=
 wpList_step fun K hK=>by
  rw[if_pos hw]
  exact wp_load_mid 25 x ho b o hx cs _ hc Tryz.underlying25 rfl (by rw[hn];kernel_rfl) (hK _ _ h)
theorem msmall_any (w:World) (m:MT) (f0 f1 f2 f3 f4 f5 f6 va vl vc vr vk:Value) (hW:MWide w m f0 f1 f2 f3 f4 f5 f6 va vl vc vr vk) (hb:mw m<=1048576):
  Calls Tryz.prog 10 #[.agg (mcells m f0 f1 f2 f3 f4 f5 f6 va vl vc vr vk).toArray] w fun e w'=>e=.returned (.bool (smallM m))/\Below w.heap.size w w':=by
 obtain⟨cs,hcs⟩:∃cs,mcells m f0 f1 f2 f3 f4 f5 f6 va vl vc vr vk=cs:=⟨_,rfl⟩
 rw[hcs]
 have hcm:=cnt_mw m
 have hB1:Blk (w.alloc (.cells cs.toArray 30)) w.heap.size cs:=Blk.new w cs 30
 have hf1:Fr (fun _=>False) w (w.alloc (.cells cs.toArray 30)):=Fr.alloc _ _ _
 obtain⟨w1,hw1⟩:∃w1,w.alloc (.cells cs.toArray 30)=w1:=⟨_,rfl⟩
 rw[hw1] at hB1 hf1
 have hb1:Below w.heap.size w w1:=hf1.below (Nat.le_refl _) (fun k q=>q.elim)
 obtain⟨Aa,ca,hva,hla⟩:=repW_slice hW.attrs
 obtain⟨Ar,cr,hvr,hlr⟩:=repW_slice hW.refs
 obtain⟨Ak,ck,hvk,hlk⟩:=repW_slice hW.ctls
 obtain⟨Al,cl,xl,hvl,hll,hHl,hrl⟩:=hW.lst
 obtain⟨Ac,cc,xc,hvc,hlc,hHc,hrc⟩:=hW.chs
 obtain⟨p1,hp1⟩:∃p1,w.heap.size=p1:=⟨_,rfl⟩
 have hB1':=hB1
 rw[hp1] at hB1
 have k17:w1.cell? ⟨p1,17,none⟩=some (.slice Aa m.attrs.length ca):=hB1.cells 17 _ (by rw[<-hcs,hva];rfl)
 have k18:w1.cell? ⟨p1,18,none⟩=some (.slice Al m.lst.length cl):=hB1.cells 18 _ (by rw[<-hcs,hvl];rfl)
 have k19:w1.cell? ⟨p1,19,none⟩=some (.slice Ac m.chs.length cc):=hB1.cells 19 _ (by rw[<-hcs,hvc];rfl)
 have k30:w1.cell? ⟨p1,30,none⟩=some (.slice Ar m.refs.length cr):=hB1.cells 30 _ (by rw[<-hcs,hvr];rfl)
 have k31:w1.cell? ⟨p1,31,none⟩=some (.slice Ak m.ctls.length ck):=hB1.cells 31 _ (by rw[<-hcs,hvk];rfl)
 have HR:Hid (w1.rangeAt p1 10 [f0,f1,f2,f3,f4,f5,f6]):=hide (hB1.part 10 _ (fun j u hu=>by
  rw[<-hcs]
  match j,hu with
  | 0,hu=>exact hu
  | 1,hu=>exact hu
  | 2,hu=>exact hu
  | 3,hu=>exact hu
  | 4,hu=>exact hu
  | 5,hu=>exact hu
  | 6,hu=>exact hu))
 have HS:Hid (Calls Tryz.prog 20 #[.agg #[f0,f1,f2,f3,f4,f5,f6]] w1 fun e w'=>e=.returned (.bool m.filt.smallB)/\Below w1.heap.size w1 w'):=hide (fSmall_any m.filt w1 _ _ _ _ _ _ _ (hW.filt.grow hb1))
 have HL:Hid (HasP w (inB w) 2 Al m.lst.length xl/\rowIn elA0 w (inB w) m.lst xl):=hide ⟨hHl,hrl⟩
 have HH:Hid (HasP w (inB w) 3 Ac m.chs.length xc/\rowIn elH0 w (inB w) m.chs xc):=hide ⟨hHc,hrc⟩
 obtain⟨na,hna⟩:∃na,m.attrs.length=na:=⟨_,rfl⟩
 obtain⟨nl,hnl⟩:∃nl,m.lst.length=nl:=⟨_,rfl⟩
 obtain⟨nc,hnc⟩:∃nc,m.chs.length=nc:=⟨_,rfl⟩
 obtain⟨nr,hnr⟩:∃nr,m.refs.length=nr:=⟨_,rfl⟩
 obtain⟨nk,hnk⟩:∃nk,m.ctls.length=nk:=⟨_,rfl⟩
 have hcn:cntA m.lst+cntH m.chs+na+nr+nk<=1048576:=by rw[<-hna,<-hnr,<-hnk];unfold cntM at hcm;omega
 have hsm:smallM m=(decide (cntA m.lst+cntH m.chs+na+nr+nk<=5000)&&m.filt.smallB):=by unfold smallM cntM;rw[hna,hnr,hnk]
 rw[hna] at k17
 rw[hnl] at k18
 rw[hnc] at k19
 rw[hnr] at k30
 rw[hnk] at k31
 rw[hnl] at hll
 rw[hnc] at hlc
 rw[hsm]
 have hnl1:(nl:Int)<=9223372036854775807:=by unfold maxLen at hll;omega
 have hnc1:(nc:Int)<=9223372036854775807:=by unfold maxLen at hlc;omega
 have HNl:=hide hnl
 have HNc:=hide hnc
 have HW1:=hide hw1
 have HP1:=hide hp1
 have HB1:=hide hb1
 obtain⟨SB,hSB⟩:∃SB,m.filt.smallB=SB:=⟨_,rfl⟩
 rw[hSB] at HS
 rw[hSB]
 have Hcn:=hide hcn
 clear hW hB1 hB1' hf1 hw1 hb1 hla hlr hlk hva hvr hvk hvl hvc hHl hrl hHc hrc hna hnl hnc hnr hnk hsm hcm hb hcn hcs hp1 hll hlc hSB
 go_enter Tryz.func10,Tryz.ntmps10
 go_upto_region 1 with fail
 rw[HW1.out]
 rw[HP1.out]
 go_wp2
 go_loopg [3,9] nl (fun r s3 s9 wx=>∃j t:Nat,j+r=nl/\s9=.int .i64 (j:Int)/\s3=.int .i64 (t:Int)/\Hid (cntA (m.lst.take j)=t)/\wx=w1)
 case atStart=>exact⟨0,0,by omega,rfl,rfl,hide rfl,rfl⟩
 case round=>
  obtain⟨j,t,hjg,rfl,rfl,ht,hw0⟩:=hrel
  obtain rfl:=hw0.symm
  clear hw0
  cases gk with
  | succ r=>
   have hj:j<nl:=by omega
   have hjz:(j:Int)<(nl:Int):=by omega
   obtain⟨p,hp⟩:∃p,m.lst[j]?=some p:=⟨_,List.getElem?_eq_getElem (by rw[HNl.out];exact hj)⟩
   obtain⟨g,o,hDe,hg,hparts⟩:=zBc HL.out.1 HL.out.2 (by decide) (fun h=>by rw[h] at hp;simp at hp)
   subst hDe
   obtain⟨cp,hrp,hcp⟩:=hparts j p hp
   obtain⟨pA,pc,rfl,hpl,hpH⟩:=hrp
   have hx:w1.cell? ⟨g,o+j*2+1,none⟩=some (.slice pA p.2.length pc):=(HB1.out.cell (p:=⟨g,o+j*2+1,none⟩) hg).trans (hcp 1 _ rfl)
   have hct:cntA (m.lst.take (j+1))=t+(1+p.2.length):=by
    have:=cnt_take (fun a:Atr=>1+a.2.length) hp
    have h2:=ht.out
    unfold cntA at h2 ⊢
    omega
   have hle:t+1+p.2.length<=1048576:=by
    have:=cnt_le (fun a:Atr=>1+a.2.length) m.lst (j+1)
    have h3:=Hcn.out
    unfold cntA at hct h3
    omega
   obtain⟨pn,hpn⟩:∃pn,p.2.length=pn:=⟨_,rfl⟩
   rw[hpn] at hx hct hle
   have Hct:=hide hct
   clear hp hparts hcp hpl hpH hct ht HL HH HS HR Hcn hpn
   go_wp2
   go_roundg r
   case measure=>omega
   case rel=>exact⟨j+1,t+1+pn,by omega,by go_num,by go_num,hide (by rw[Hct.out];omega),rfl⟩
  | zero=>
   obtain rfl:j=nl:=by omega
   have hjz:¬((j:Int)<(j:Int)):=by omega
   have hta:cntA m.lst=t:=by have:=ht.out;rwa [List.take_of_length_le (by rw[HNl.out];exact Nat.le_refl _)] at this
   have Hta:=hide hta
   clear hta ht HL
   go_wp2
   go_loopg [3,26] nc (fun r s3 s26 wx=>∃i u:Nat,i+r=nc/\s26=.int .i64 (i:Int)/\s3=.int .i64 (u:Int)/\Hid (t+cntH (m.chs.take i)=u)/\wx=w1)
   case atStart=>exact⟨0,t,by omega,rfl,rfl,hide rfl,rfl⟩
   case round=>
    obtain⟨i,u,hig,rfl,rfl,hu,hw0⟩:=hrel
    obtain rfl:=hw0.symm
    clear hw0
    cases gk with
    | succ r=>
     have hi:i<nc:=by omega
     have hiz:(i:Int)<(nc:Int):=by omega
     obtain⟨p,hp⟩:∃p,m.chs[i]?=some p:=⟨_,List.getElem?_eq_getElem (by rw[HNc.out];exact hi)⟩
     obtain⟨g,o,hDe,hg,hparts⟩:=zBc HH.out.1 HH.out.2 (by decide) (fun h=>by rw[h] at hp;simp at hp)
     subst hDe
     obtain⟨cp,hrp,hcp⟩:=hparts i p hp
     obtain⟨pA,pc,rfl,hpl,hpH⟩:=hrp
     have hx:w1.cell? ⟨g,o+i*3+2,none⟩=some (.slice pA p.2.2.length pc):=(HB1.out.cell (p:=⟨g,o+i*3+2,none⟩) hg).trans (hcp 2 _ rfl)
     have hx2:w1.cell? ⟨g,o+i*3+1+1,none⟩=some (.slice pA p.2.2.length pc):=hx
     have hct:t+cntH (m.chs.take (i+1))=u+(1+p.2.2.length):=by
      have:=cnt_take (fun a:Int × Atr=>1+a.2.2.length) hp
      have h2:=hu.out
      unfold cntH at h2 ⊢
      omega
     have hle:u+1+p.2.2.length<=1048576:=by
      have:=cnt_le (fun a:Int × Atr=>1+a.2.2.length) m.chs (i+1)
      have h3:=Hcn.out
      have h4:=Hta.out
      unfold cntH at hct h3
      omega
     obtain⟨pn,hpn⟩:∃pn,p.2.2.length=pn:=⟨_,rfl⟩
     rw[hpn] at hx hx2 hct hle
     have Hct:=hide hct
     clear hp hparts hcp hpl hpH hct hu HH HS HR Hcn hpn Hta
     go_wp2
     go_roundg r
     case measure=>omega
     case rel=>exact⟨i+1,u+1+pn,by omega,by go_num,by go_num,hide (by rw[Hct.out];omega),rfl⟩
    | zero=>
     obtain rfl:i=nc:=by omega
     have hiz:¬((i:Int)<(i:Int)):=by omega
     have htu:t+cntH m.chs=u:=by have:=hu.out;rwa [List.take_of_length_le (by rw[HNc.out];exact Nat.le_refl _)] at this
     have hun:u+na+nr+nk<=1048576:=by have:=Hcn.out;have:=Hta.out;omega
     have hue:cntA m.lst+cntH m.chs+na+nr+nk=u+na+nr+nk:=by have:=Hta.out;omega
     have Hue:=hide hue
     clear hu HH Hcn Hta htu hue
     by_cases h5:u+na+nr+nk<=5000
     ·have h5z:(u:Int)+(na:Int)+(nr:Int)+(nk:Int)<=5000:=by omega
      go_wp2_with (first | (go_at_call 20;fail) | (refine loadG7 (by rfl) (.tmp 57) rfl p1 10 rfl [f0,f1,f2,f3,f4,f5,f6] HR.out rfl ?_))
      refine HS.out.mono ?_
      rintro e w2 ⟨rfl,hb⟩
      have HB2:=hide hb
      clear hb HS HR k17 k18 k19 k30 k31
      go_wp2
      go_ret
      exact⟨by rw[Hue.out,decide_eq_true h5,Bool.true_and];rfl,HB1.out.trans (HB2.out.mono HB1.out.size)⟩
     ·have h5z:¬((u:Int)+(na:Int)+(nr:Int)+(nk:Int)<=5000):=by omega
      go_wp2
      go_ret
      exact⟨by rw[Hue.out,decide_eq_false h5,Bool.false_and];rfl,HB1.out⟩
end Go.Proofs.YtcpjmgfloimfhaaGreat
