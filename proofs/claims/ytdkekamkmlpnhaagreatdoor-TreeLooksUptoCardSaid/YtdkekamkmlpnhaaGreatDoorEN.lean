/- Several texts in one: ENamed, ELoose, ERForm, YCopyE. By an AI agent. -/
import Derived.Deep.CutRange
import Derived.Deep.CutBlock
import Derived.Test.YtdkekamkmlpnhaaGreatDoorEX
import Derived.Test.YtdkekamkmlpnhaaGreatDoorEY
import Derived.Test.YtdkekamkmlpnhaaGreatDoorGrow
set_option linter.unusedSimpArgs false
set_option linter.unusedVariables false
set_option maxRecDepth 100000
set_option maxHeartbeats 64000000
namespace Go.Proofs.YtdkekamkmlpnhaaGreatDoor
open Go.RowKit
theorem zN1 (nm:List UInt8) (L:List EA) (w:World) (A:Option Addr) (n c:Nat) (xs:List Value) (hA:Has w w.heap.size 2 A n xs) (hL:EAs w w.heap.size xs L) (hn:n<=1000000)
  (hnm:nm.length<=1000000) (hvs:∀a∈L,a.2.length<=1000000/\∀u∈a.2,u.length<=1000000) (hT:TM w):
  Calls Tryz.prog 67 #[.agg #[.string (txt nm),.slice A n c]] w fun e w'=>e=.returned (.bool (Tr (NamedR nm L)))/\Below w.heap.size w w':=by
 have hb1:=below1 w (.cells #[.string (txt nm),.slice A n c] 38);have hX:=BoxE.new w (txt nm) A n c 38;have hP:=fun w hT=>zI2 nm hnm w hT
 have HA:=hide ((hA.below hb1).upto hb1.size);have HL:=hide (hL.grow hb1);have HT:=hide (hT.below hb1);have HB:=hide hb1;have HX:=hide hX;have x0:=hX.c0;cases hV:nameV nm with
 | mk o e=>
 cases o with
 | none=>
  rw[zAp (show ¬NamedR nm L from fun ⟨p,r,h,_⟩=>by rw[hV] at h;cases h)];rw[hV] at hP;have he:=zEd hV;have q0:(e==0)=false:=by rcases he with rfl | rfl<;>rfl
  have q1:(e !=0)=true:=by rcases he with rfl | rfl<;>rfl
  have HP:=hide hP;generalize txt nm=SN at *;clear hP hV he hb1 hX hA hL hT hnm hvs HA HL;go_enter Tryz.func67,Tryz.ntmps67;go_wp2_with (go_at_call 120;fail);refine (HP.out _ HT.out).mono ?_;rintro ee w2 hpost;obtain⟨Ap,cp,vs,rfl,_,_,hb2⟩:=hpost.out;have HB2:=hTz HB hb2;clear hpost hb2 HB HT HP x0 HX;go_wp2;go_ret;exact⟨rfl,HB2.out⟩
 | some P=>
  obtain⟨rfl,hok⟩:=zCf hV;rw[hV] at hP;cases P with
  | nil=>
   rw[zAp (show ¬NamedR nm L from fun ⟨p,r,h,_⟩=>by rw[hV] at h;simp at h)];have HP:=hide hP;generalize txt nm=SN at *;clear hP hV hb1 hX hA hL hT hnm hvs HA HL hok;go_enter Tryz.func67,Tryz.ntmps67;go_wp2_with (go_at_call 120;fail);refine (HP.out _ HT.out).mono ?_;rintro ee w2 hpost;obtain⟨Ap,cp,vs,rfl,_,_,hb2⟩:=hpost.out;have HB2:=hTz HB hb2;clear hpost hb2 HB HT HP x0 HX;go_wp2;go_ret;exact⟨rfl,HB2.out⟩
  | cons p r0=>
   have hpo:=hok.each p (by simp);obtain⟨R,hR⟩:∃R,Tr (NamedR nm L)=R:=⟨_,rfl⟩;rw[hR];have HR:Hid ((∀q∈p,HasE L q.1 q.2)↔R=true):=hide (by
    rw[<-hR,Tr_iff]
    constructor
    ·intro h
     exact⟨p,r0,hV,h⟩
    ·rintro ⟨p',r',h,h2⟩
     rw[hV] at h
     injection h with h _
     injection h with h
     injection h with h _
     subst h
     exact h2)
   have HC:=hide (fun q (hq:q∈p) w hA hL hT=>zNo nm L q.1 q.2 w A n c xs hA hL hn (by have:=(hpo.each q hq).small;omega) (by have:=(hpo.each q hq).small;omega) hvs hT);have HP:=hide hP;have hp3:=hpo.le;have hlen:0<(p::r0).length:=by simp
   obtain⟨m,hm⟩:∃m,(p::r0).length=m:=⟨_,rfl⟩;rw[hm] at hlen;have hm0:((m:Int)==0)=false:=beq_false_of_ne (by omega);have hmz:(0:Int)<(m:Int):=by omega
   have Hm:=hide hm;obtain⟨k,hk⟩:∃k,p.length=k:=⟨_,rfl⟩;have Hk:=hide hk;rw[hk] at hp3;clear hP hV hb1 hX hA hL hT hnm hvs hR hok hpo hm hk;generalize txt nm=SN at *;go_enter Tryz.func67,Tryz.ntmps67;go_wp2_with (go_at_call 120;fail);refine (HP.out _ HT.out).mono ?_;rintro ee w2 hpost;obtain⟨Ap,cp,vs,rfl,hvs2,hrw,hb2⟩:=hpost.out;simp only[Option.getD_some] at hvs2 hrw ⊢;rw[Hm.out] at hvs2 ⊢;obtain⟨g,o,rfl,hg,hcell⟩:=hvs2.lies (by have:=hvs2.1;omega);obtain⟨Aq,cq,hv0,hHp⟩:=hrw.each 0 p rfl;have y00:=hcell 0 _ hv0;rw[Nat.add_zero,Hk.out] at y00;rw[Hk.out] at hHp;have HB2:=hTz HB hb2;have HT2:=hide (HT.out.below hb2);have HA2:=hide ((HA.out.below hb2).upto hb2.size);have HL2:=hide (HL.out.grow hb2);have HX2:=hide (HX.out.grow hb2);have HHp:=hide hHp;clear hpost hb2 HB HT HP x0 HX HA HL hvs2 hrw hcell hv0 hHp;go_wp2
   go_loopg [23] k (fun r s23 wx=>∃i:Nat,i+r=k/\s23=.int .i64 (i:Int)/\Hid (∀q∈p.take i,HasE L q.1 q.2)/\Below w2.heap.size w2 wx)
   case atStart=>exact⟨0,by omega,rfl,hide fun q hq=>(by simp at hq),Below.refl _ _⟩
   case round=>
    obtain⟨i,hig,rfl,hpre,hbr⟩:=hrel;have hgr:g<wr.heap.size:=Nat.lt_of_lt_of_le hg hbr.size;cases gk with
    | zero=>
     obtain rfl:k=i:=by omega
     have hiz:¬((k:Int)<(k:Int)):=by omega
     have hR1:Hid (R=true):=hide (HR.out.1 (by
      have:=hpre.out
      rwa [List.take_of_length_le (by rw[Hk.out];exact Nat.le_refl _)] at this))
     have HE:=hTz HB2 hbr;clear hpre HA2 HL2 HT2 HX2 HR HC HHp hbr y00;go_wp2;go_ret;exact⟨by rw[hR1.out];rfl,HE.out⟩
    | succ r=>
     have hi:i<k:=(by omega);have hiz:(i:Int)<(k:Int):=(by omega);obtain⟨q,hq⟩:∃q,p[i]?=some q:=⟨_,List.getElem?_eq_getElem (by rw[Hk.out];exact hi)⟩;obtain⟨g2,o2,rfl,hg2,hrd⟩:=HHp.out.reads (fun h=>by rw[h] at hq;simp at hq);have hgr2:g2<wr.heap.size:=Nat.lt_of_lt_of_le hg2 hbr.size;have y0:=(hbr.cell (p:=⟨g,o,none⟩) hg).trans y00;have y1:=(hbr.cell (p:=⟨g2,o2+i*2,none⟩) hg2).trans (hrd.fst i q hq);have y2:=(hbr.cell (p:=⟨g2,o2+i*2+1,none⟩) hg2).trans (hrd.snd i q hq);have HXr:=hide (HX2.out.below HX2.out.lt hbr);have hcall:=HC.out q (List.mem_of_getElem? hq);have htk:p.take (i+1)=p.take i++[q]:=by rw[List.take_add_one,hq];rfl
     obtain⟨bq,hbq⟩:∃b,Tr (HasE L q.1 q.2)=b:=⟨_,rfl⟩;rw[hbq] at hcall;cases bq with
     | true=>
      have hnext:Hid (∀x∈p.take (i+1),HasE L x.1 x.2):=hide (by
       rw[htk]
       intro x hx
       rcases List.mem_append.1 hx with h | h
       ·exact hpre.out x h
       ·obtain rfl:=List.mem_singleton.1 h
        exact Tr_iff.1 hbq)
      generalize txt q.1=S1 at *;generalize txt q.2=S2 at *;clear hrd hq hbq htk hpre HR HC;go_wp2_with fail;refine zAq (by kernel_rfl) ?_;have hdr:Below wr.heap.size wr wr.drew:=(Below.refl _ _).drew;have gd:g<wr.drew.heap.size:=hgr;have gd2:g2<wr.drew.heap.size:=hgr2;obtain⟨x5,x0,x1⟩:=HXr.out.grow hdr;have z0:=(hdr.cell (p:=⟨g,o,none⟩) hgr).trans y0;have z1:=(hdr.cell (p:=⟨g2,o2+i*2,none⟩) hgr2).trans y1;have z2:=(hdr.cell (p:=⟨g2,o2+i*2+1,none⟩) hgr2).trans y2;have HBd:=hide (hbr.trans (hdr.mono hbr.size));have HTd:=hide ((HT2.out.below hbr).below hdr);have HAd:=hide ((((HA2.out.below hbr).upto hbr.size).below hdr).upto hdr.size);have HLd:=hide ((HL2.out.grow hbr).grow hdr);clear hdr y0 y1 y2;generalize wr.drew=wd at *;refine zAa 0 (some 26) (v:=?vn0) rfl rfl (by kernel_rfl) rfl (by rfl) (fun W hW=>?yn0) ?_
      case yn0=>have h0:=(hW.cell (p:=⟨w.heap.size,0,none⟩) x5).trans x0;have h1:=(hW.cell (p:=⟨w.heap.size,1,none⟩) x5).trans x1;go_simp<;>with_reducible rfl
      simp only[pUz];refine yTk 1 (some 27) ?_;simp only[pUz];refine yTk 2 (some 28) ?_;simp only[pUz];refine zAa 3 (some 29) (v:=?vn3) rfl rfl (by kernel_rfl) rfl (by rfl) (fun W hW=>?yn3) ?_
      case yn3=>have h0:=(hW.cell (p:=⟨g,o,none⟩) gd).trans z0;go_simp<;>with_reducible rfl
      simp only[pUz];refine yTk 4 (some 30) ?_;simp only[pUz];refine yTk 5 (some 31) ?_;simp only[pUz];refine yTk 6 (some 32) ?_;simp only[pUz];refine zAa 7 (some 33) (v:=?vn7) rfl rfl (by kernel_rfl) rfl (by rfl) (fun W hW=>?yn7) ?_
      case yn7=>have h0:=(hW.cell (p:=⟨g2,o2+i*2,none⟩) gd2).trans z1;go_simp<;>with_reducible rfl
      simp only[pUz];refine yTk 8 (some 34) ?_;simp only[pUz];refine yTk 9 (some 35) ?_;simp only[pUz];refine zAa 10 (some 36) (v:=?vn10) rfl rfl (by kernel_rfl) rfl (by rfl) (fun W hW=>?yn10) ?_
      case yn10=>have h0:=(hW.cell (p:=⟨g,o,none⟩) gd).trans z0;go_simp<;>with_reducible rfl
      simp only[pUz];refine yTk 11 (some 37) ?_;simp only[pUz];refine yTk 12 (some 38) ?_;simp only[pUz];refine yTk 13 (some 39) ?_;simp only[pUz];refine zAa 14 (some 40) (v:=?vn14) rfl rfl (by kernel_rfl) rfl (by rfl) (fun W hW=>?yn14) ?_
      case yn14=>have h0:=(hW.cell (p:=⟨g2,o2+i*2+1,none⟩) gd2).trans z2;go_simp<;>with_reducible rfl
      simp only[pUz];refine zAe 15 rfl (by kernel_rfl) (fun K hK=>?_);go_simp;refine (hcall _ HAd.out HLd.out HTd.out).mono ?_;rintro e w5 ⟨rfl,hb5⟩;refine hK.out _ _ hb5 ?_;have HB5:=hTz HBd hb5;clear hK K hb5 HBd HTd HAd HLd hcall;(try simp only[pUz]);refine yTk 16 (some 42) ?_;simp only[pUz];refine zAi (by kernel_rfl) ?_ _;go_wp2
      go_roundg r
      case measure=>omega
      case rel=>exact⟨i+1,by omega,by go_num,hnext,HB5.out⟩
     | false=>
      have hR1:Hid (R=false):=hide (by
       cases hR:R with
       | false=>rfl
       | true=>
        have:=HR.out.2 hR q (List.mem_of_getElem? hq)
        rw[zAm this] at hbq
        cases hbq)
      generalize txt q.1=S1 at *;generalize txt q.2=S2 at *;clear hrd hq hbq htk hpre HR HC;go_wp2_with fail;refine zAq (by kernel_rfl) ?_;have hdr:Below wr.heap.size wr wr.drew:=(Below.refl _ _).drew;have gd:g<wr.drew.heap.size:=hgr;have gd2:g2<wr.drew.heap.size:=hgr2;obtain⟨x5,x0,x1⟩:=HXr.out.grow hdr;have z0:=(hdr.cell (p:=⟨g,o,none⟩) hgr).trans y0;have z1:=(hdr.cell (p:=⟨g2,o2+i*2,none⟩) hgr2).trans y1;have z2:=(hdr.cell (p:=⟨g2,o2+i*2+1,none⟩) hgr2).trans y2;have HBd:=hide (hbr.trans (hdr.mono hbr.size));have HTd:=hide ((HT2.out.below hbr).below hdr);have HAd:=hide ((((HA2.out.below hbr).upto hbr.size).below hdr).upto hdr.size);have HLd:=hide ((HL2.out.grow hbr).grow hdr);clear hdr y0 y1 y2;generalize wr.drew=wd at *;refine zAa 0 (some 26) (v:=?vm0) rfl rfl (by kernel_rfl) rfl (by rfl) (fun W hW=>?ym0) ?_
      case ym0=>have h0:=(hW.cell (p:=⟨w.heap.size,0,none⟩) x5).trans x0;have h1:=(hW.cell (p:=⟨w.heap.size,1,none⟩) x5).trans x1;go_simp<;>with_reducible rfl
      simp only[pUz];refine yTk 1 (some 27) ?_;simp only[pUz];refine yTk 2 (some 28) ?_;simp only[pUz];refine zAa 3 (some 29) (v:=?vm3) rfl rfl (by kernel_rfl) rfl (by rfl) (fun W hW=>?ym3) ?_
      case ym3=>have h0:=(hW.cell (p:=⟨g,o,none⟩) gd).trans z0;go_simp<;>with_reducible rfl
      simp only[pUz];refine yTk 4 (some 30) ?_;simp only[pUz];refine yTk 5 (some 31) ?_;simp only[pUz];refine yTk 6 (some 32) ?_;simp only[pUz];refine zAa 7 (some 33) (v:=?vm7) rfl rfl (by kernel_rfl) rfl (by rfl) (fun W hW=>?ym7) ?_
      case ym7=>have h0:=(hW.cell (p:=⟨g2,o2+i*2,none⟩) gd2).trans z1;go_simp<;>with_reducible rfl
      simp only[pUz];refine yTk 8 (some 34) ?_;simp only[pUz];refine yTk 9 (some 35) ?_;simp only[pUz];refine zAa 10 (some 36) (v:=?vm10) rfl rfl (by kernel_rfl) rfl (by rfl) (fun W hW=>?ym10) ?_
      case ym10=>have h0:=(hW.cell (p:=⟨g,o,none⟩) gd).trans z0;go_simp<;>with_reducible rfl
      simp only[pUz];refine yTk 11 (some 37) ?_;simp only[pUz];refine yTk 12 (some 38) ?_;simp only[pUz];refine yTk 13 (some 39) ?_;simp only[pUz];refine zAa 14 (some 40) (v:=?vm14) rfl rfl (by kernel_rfl) rfl (by rfl) (fun W hW=>?ym14) ?_
      case ym14=>have h0:=(hW.cell (p:=⟨g2,o2+i*2+1,none⟩) gd2).trans z2;go_simp<;>with_reducible rfl
      simp only[pUz];refine zAe 15 rfl (by kernel_rfl) (fun K hK=>?_);go_simp;refine (hcall _ HAd.out HLd.out HTd.out).mono ?_;rintro e w5 ⟨rfl,hb5⟩;refine hK.out _ _ hb5 ?_;have HB5:=hTz HBd hb5;clear hK K hb5 HBd HTd HAd HLd hcall;(try simp only[pUz]);refine yTk 16 (some 42) ?_;simp only[pUz];refine zAi (by kernel_rfl) ?_ _;have HE:=hide (HB2.out.trans (HB5.out.mono HB2.out.size));clear HB2;go_wp2;go_ret;exact⟨by rw[hR1.out];rfl,HE.out⟩
def HeadOk (L:List EA) (i:Nat) (a:EA):Prop:=(typ a.1).1≠[]/\(typ a.1).1=a.1/\(∀b,0<i->L[i-1]?=some b->b.1<a.1)/\1<=a.2.length/\a.2.length<=20/\AloneV a.1 a.2
theorem ok_at {L:List EA} {i:Nat} {a:EA} (ha:L[i]?=some a):OkAt L i↔HeadOk L i a/\∀v∈a.2,(valV a.1 v).2=0:=by
 constructor
 ·intro h;obtain⟨h1,h2⟩:=h a ha;exact⟨⟨by rw[h1.name];exact h1.ne,h1.name,h2,h1.lo,h1.hi,h1.alone⟩,h1.ok⟩
 ·rintro ⟨⟨h1,h2,h3,h4,h5,h6⟩,h7⟩ b hb;rw[ha] at hb;obtain rfl:=Option.some.inj hb;exact⟨⟨by rw[<-h2];exact h1,h2,h4,h5,h7,h6⟩,h3⟩
theorem zN5 (nm:List UInt8) (L:List EA) (w:World) (A:Option Addr) (n c:Nat) (xs:List Value) (hA:Has w w.heap.size 2 A n xs) (hL:EAs w w.heap.size xs L) (hn:n<=1000000)
  (hnm:nm.length<=1000000) (hvs:∀a∈L,a.1.length<=281474976710656/\a.2.length<=1000000/\∀u∈a.2,u.length<=1000000) (hT:TM w):
  Calls Tryz.prog 65 #[.agg #[.string (txt nm),.slice A n c]] w fun e w'=>e=.returned (.bool (Tr (LooseE nm L)))/\Below w.heap.size w w':=by
 have hnl:=hA.eas_n hL;have hb1:=below1 w (.cells #[.string (txt nm),.slice A n c] 38);have hX:=BoxE.new w (txt nm) A n c 38;have hN:=fun w hT=>zBl nm hnm w hT
 have HA:=hide ((hA.below hb1).upto hb1.size);have HL:=hide (hL.grow hb1);have HT:=hide (hT.below hb1);have HB:=hide hb1;have HX:=hide hX;have x0:=hX.c0;by_cases h0:(normT nm).2=0
 ·rw [h0] at hN;by_cases h1:(normT nm).1=nm
  ·have q1:((txt (normT nm).1).toList !=(txt nm).toList)=false:=by rw[h1];simp
   have q1':((txt (normT nm).1).toList==(txt nm).toList)=true:=by rw[h1];simp
   by_cases h2:nm=[]
   ·rw [zAp (show ¬LooseE nm L from fun h=>h.ne h2)];have q2:((txt (normT nm).1).toList==[])=true:=by rw[h1,toeq,h2];rfl
    have HN:=hide hN;generalize txt (normT nm).1=NN at *;generalize txt nm=SN at *;clear hN h0 h1 h2 hb1 hX hA hL hT hnm hvs HA HL hnl;go_enter Tryz.func65,Tryz.ntmps65;go_wp2_with (go_at_call 46;fail);refine (HN.out _ HT.out).mono ?_;rintro e w2 ⟨rfl,hb2⟩;have HB2:=hTz HB hb2;have y0:=(HX.out.grow hb2).c0;clear hb2 HB HT HN x0 HX;go_wp2;go_ret;exact⟨rfl,HB2.out⟩
   have q2:((txt (normT nm).1).toList==[])=false:=by rw[h1,toeq];simpa using h2
   by_cases h14:n<=14
   ·have z14:¬((14:Int)<(n:Int)):=by omega
    obtain⟨R,hR⟩:∃R,Tr (LooseE nm L)=R:=⟨_,rfl⟩;rw[hR];have HR:Hid ((∀i,i<n->OkAt L i)↔R=true):=hide (by
     rw[<-hR,Tr_iff,hnl]
     constructor
     ·intro h
      exact⟨Prod.ext h1 h0,h2,formed_at.2 ⟨by omega,h⟩⟩
     ·intro h
      exact (formed_at.1 h.attrs).2)
    have HN:=hide hN;have HVs:=hide hvs;have HNl:=hide hnl;generalize txt (normT nm).1=NN at *;generalize txt nm=SN at *;clear hN h0 h1 h2 hb1 hX hA hL hT hnm hvs hR hnl;go_enter Tryz.func65,Tryz.ntmps65;go_wp2_with (go_at_call 46;fail);refine (HN.out _ HT.out).mono ?_;rintro e w2 ⟨rfl,hb2⟩;have HB2:=hTz HB hb2;have HX2:=hide (HX.out.grow hb2);have HT2:=hide (HT.out.below hb2);have HA2:=hide ((HA.out.below hb2).upto hb2.size);have HL2:=hide (HL.out.grow hb2);have y0:=HX2.out.c0;have y1:=HX2.out.c1;clear hb2 HB HT HN x0 HX HA HL;go_wp2
    go_loopg [39] n (fun r s39 wx=>∃i:Nat,i+r=n/\s39=.int .i64 (i:Int)/\Hid (∀j,j<i->OkAt L j)/\Hid (Below w2.heap.size w2 wx))
    case atStart=>exact⟨0,by omega,rfl,hide fun j hj=>by omega,hide (Below.refl _ _)⟩
    case round=>
     obtain⟨i,hig,rfl,hpre,hbr⟩:=hrel;clear y0 y1;cases gk with
     | zero=>
      obtain rfl:n=i:=by omega
      have hiz:¬((n:Int)<(n:Int)):=(by omega);have hR1:Hid (R=true):=hide (HR.out.1 hpre.out);have HE:=hide (HB2.out.trans (hbr.out.mono HB2.out.size));clear hpre HA2 HL2 HT2 HX2 HR HVs HNl hbr;go_wp2;go_ret;exact⟨by rw[hR1.out];rfl,HE.out⟩
     | succ r=>
      have hi:i<n:=(by omega);have hiz:(i:Int)<(n:Int):=(by omega);obtain⟨a,ha⟩:∃a,L[i]?=some a:=⟨_,List.getElem?_eq_getElem (by rw[<-HNl.out];exact hi)⟩;obtain⟨g,o,hAe,hg,hat⟩:=HA2.out.ea HL2.out (fun h=>by rw[h] at ha;simp at ha);subst hAe;obtain⟨V,cv,hai⟩:=hat i a ha;have hai:=hai.below hg hbr.out;have e0:=hai.e0;have e1:=hai.e1;have y1:=(HX2.out.below HX2.out.lt hbr.out).c1;have hvi:=HVs.out a (List.mem_of_getElem? ha);have hTy:=fun w=>zB8 (txt a.1) (by rw[zAg];omega) w
      simp only[zAf] at hTy;have HTy:=hide hTy;obtain⟨k,hk⟩:∃k,a.2.length=k:=⟨_,rfl⟩;rw[hk] at e1;have hkk:k<=1000000:=by rw[<-hk];exact hvi.2.1
      have hba:=below1 wr (.cells #[.string (txt a.1),.slice V k cv] 60);have hXa:=BoxE.new wr (txt a.1) V k cv 60;have hV1:=(hai.has.upto hbr.out.size).below hba;have hV1:=hV1.upto hba.size;rw[hk] at hV1;have HBa:=hTz hbr hba;have HXa:=hide hXa;have HV1:=hide hV1;have u0:=hXa.c0;have hcap:=hai.cap;have hmost:=hai.most;rw[hk] at hcap;have HAl:=hide (fun (ht:(typ a.1).1=a.1) w hA hT=>zOx a.1 a.2 w V k cv hA hkk hcap hmost (zDy ht) hvi.2.2 hT);have HVal:=hide (fun (ht:(typ a.1).1=a.1) u (hu:u∈a.2) w hT=>zC1 a.1 u (zDy ht) (hvi.2.2 u hu) w hT);have hdec:=ok_at ha;obtain⟨bad,hbad⟩:∃b,Tr (¬HeadOk L i a)=b:=⟨_,rfl⟩;have Hbad:=hide hbad;have Hdec:=hide hdec;have Hha:=hide ha;have Hk:=hide hk;have Hhat:=hide hat;have Hpr:=hide hpre.out;have hbw:=hide hbr.out;clear hTy hai hba hXa hV1 hdec hbad ha hat hvi hpre hbr hcap hmost hk;generalize hTAe:txt a.1=TA at *;have HTA:=hide hTAe;clear hTAe;go_wp2_with (go_at_call 118;fail);refine (HTy.out _).mono ?_;rintro e w3 ⟨rfl,hb3⟩;have HXa3:=hide (HXa.out.grow hb3);have HB3:=hTz HBa hb3;have HV3:=hide ((HV1.out.below hb3).upto hb3.size);have HT3:=hide (HT2.out.below HB3.out);have Hlt:Hid (wr.heap.size<w3.heap.size):=hide HXa3.out.lt;clear hb3 HXa HBa HV1 HTy u0 e0 e1 y1;obtain⟨p,hp⟩:∃p,wr.heap.size=p:=⟨_,rfl⟩;rw[hp] at HXa3 Hlt ⊢;clear hp;go_upto_region 9 with fail;generalize hTNe:txt (typ a.1).1=TN at *;have HTN:=hide hTNe;clear hTNe;go_cut [94] from 53 to 93 (fun s94 wx=>s94=.bool bad/\Hid (Below w3.heap.size w3 wx))
      case first=>
       have v0:=HXa3.out.c0;have v1:=HXa3.out.c1;have y1:=(HX2.out.below HX2.out.lt HB3.out).c1;have hbd:=Hbad.out;by_cases t0:(typ a.1).1=[]
       ·have s0:(TN.toList==[])=true:=by rw[<-HTN.out,t0,toeq];rfl
        obtain rfl:bad=true:=by rw[<-hbd];exact zAm fun h=>h.1 t0
        clear Hbad Hdec Hha Hk Hhat Hpr HAl HVal HR HVs HNl hbd t0;go_wp2_with fail;go_meet
        case rel=>exact⟨rfl,hide (Below.refl _ _)⟩
       have s0:(TN.toList==[])=false:=(by rw[<-HTN.out,toeq];simpa using t0);by_cases t1:(typ a.1).1=a.1
       ·have hTN:TN=TA:=by rw[<-HTN.out,t1];exact HTA.out
        have s1:(TN.toList==TA.toList)=true:=(by rw[hTN];simp);have s1':(TN.toList !=TA.toList)=false:=(by rw[hTN];simp);have Hna:=hide hTN;clear hTN;by_cases ti:i=0
        ·subst ti;by_cases t3:1<=k
         ·have z3:¬(k:Int)<1:=by omega
          by_cases t4:k<=20
          ·have z4:¬(20:Int)<(k:Int):=by omega
           by_cases t5:AloneV a.1 a.2
           ·obtain rfl:bad=false:=by rw[<-hbd];exact zAp fun h=>h ⟨t0,t1,fun b h0=>absurd h0 (by omega),by rw[Hk.out];exact t3,by rw[Hk.out];exact t4,t5⟩
            have hal:=HAl.out t1;rw[zAm t5] at hal;rw[<-Hna.out] at hal;have Hal:=hide hal;clear Hbad Hdec Hha Hk Hhat Hpr HAl HVal HR HVs HNl hbd hal t0 t1 t5;go_wp2_with (go_at_call 119;fail);refine (Hal.out _ HV3.out HT3.out).mono ?_;rintro e w4 ⟨rfl,hb4⟩;have HB4:=hide hb4;clear hb4;go_wp2_with fail;go_meet
            case rel=>exact⟨rfl,HB4⟩
           ·obtain rfl:bad=true:=by rw[<-hbd];exact zAm fun h=>t5 h.2.2.2.2.2
            have hal:=HAl.out t1;rw[zAp t5] at hal;rw[<-Hna.out] at hal;have Hal:=hide hal;clear Hbad Hdec Hha Hk Hhat Hpr HAl HVal HR HVs HNl hbd hal t0 t1 t5;go_wp2_with (go_at_call 119;fail);refine (Hal.out _ HV3.out HT3.out).mono ?_;rintro e w4 ⟨rfl,hb4⟩;have HB4:=hide hb4;clear hb4;go_wp2_with fail;go_meet
            case rel=>exact⟨rfl,HB4⟩
          ·have z4:(20:Int)<(k:Int):=by omega
           obtain rfl:bad=true:=by rw[<-hbd];exact zAm fun h=>t4 (by rw[<-Hk.out];exact h.2.2.2.2.1)
           clear Hbad Hdec Hha Hk Hhat Hpr HAl HVal HR HVs HNl hbd t0 t1;go_wp2_with fail;go_meet
           case rel=>exact⟨rfl,hide (Below.refl _ _)⟩
         ·have z3:(k:Int)<1:=by omega
          obtain rfl:bad=true:=by rw[<-hbd];exact zAm fun h=>t3 (by rw[<-Hk.out];exact h.2.2.2.1)
          clear Hbad Hdec Hha Hk Hhat Hpr HAl HVal HR HVs HNl hbd t0 t1;go_wp2_with fail;go_meet
          case rel=>exact⟨rfl,hide (Below.refl _ _)⟩
        ·obtain ⟨j,rfl⟩:∃j,i=j+1:=⟨i-1,by omega⟩;obtain⟨b,hb⟩:∃b,L[j]?=some b:=⟨_,List.getElem?_eq_getElem (by rw[<-HNl.out];omega)⟩;obtain⟨Vb,cb,hbt⟩:=Hhat.out j b hb;have d1:=(HB3.out.cell (p:=⟨g,o+j*2,none⟩) hg).trans hbt.e0;clear hbt;have hjn:(j:Int)<(n:Int):=by omega
         have hj0:(0:Int)<(j:Int)+1:=(by omega);by_cases hlt:b.1<a.1
         ·have hbl:Op.bytesLess (txt b.1).toList TN.toList=true:=by rw[Hna.out,<-HTA.out,zAb,zAb];exact zEi hlt
          have hrise:∀b',0<j+1->L[j+1-1]?=some b'->b'.1<a.1:=fun b' _ hb'=>by
           rw[Nat.add_sub_cancel,hb] at hb';obtain rfl:=Option.some.inj hb';exact hlt
          generalize txt b.1=TB at *;by_cases t3:1<=k
          ·have z3:¬(k:Int)<1:=by omega
           by_cases t4:k<=20
           ·have z4:¬(20:Int)<(k:Int):=by omega
            by_cases t5:AloneV a.1 a.2
            ·obtain rfl:bad=false:=by rw[<-hbd];exact zAp fun h=>h ⟨t0,t1,hrise,by rw[Hk.out];exact t3,by rw[Hk.out];exact t4,t5⟩
             have hal:=HAl.out t1;rw[zAm t5] at hal;rw[<-Hna.out] at hal;have Hal:=hide hal;clear Hbad Hdec Hha Hk Hhat Hpr HAl HVal HR HVs HNl hbd hal t0 t1 t5 hrise hlt hb;go_wp2_with (go_at_call 119;fail);refine (Hal.out _ HV3.out HT3.out).mono ?_;rintro e w4 ⟨rfl,hb4⟩;have HB4:=hide hb4;clear hb4;go_wp2_with fail;go_meet
             case rel=>exact⟨rfl,HB4⟩
            ·obtain rfl:bad=true:=by rw[<-hbd];exact zAm fun h=>t5 h.2.2.2.2.2
             have hal:=HAl.out t1;rw[zAp t5] at hal;rw[<-Hna.out] at hal;have Hal:=hide hal;clear Hbad Hdec Hha Hk Hhat Hpr HAl HVal HR HVs HNl hbd hal t0 t1 t5 hrise hlt hb;go_wp2_with (go_at_call 119;fail);refine (Hal.out _ HV3.out HT3.out).mono ?_;rintro e w4 ⟨rfl,hb4⟩;have HB4:=hide hb4;clear hb4;go_wp2_with fail;go_meet
             case rel=>exact⟨rfl,HB4⟩
           ·have z4:(20:Int)<(k:Int):=by omega
            obtain rfl:bad=true:=by rw[<-hbd];exact zAm fun h=>t4 (by rw[<-Hk.out];exact h.2.2.2.2.1)
            clear Hbad Hdec Hha Hk Hhat Hpr HAl HVal HR HVs HNl hbd t0 t1 hrise hlt hb;go_wp2_with fail;go_meet
            case rel=>exact⟨rfl,hide (Below.refl _ _)⟩
          ·have z3:(k:Int)<1:=by omega
           obtain rfl:bad=true:=by rw[<-hbd];exact zAm fun h=>t3 (by rw[<-Hk.out];exact h.2.2.2.1)
           clear Hbad Hdec Hha Hk Hhat Hpr HAl HVal HR HVs HNl hbd t0 t1 hrise hlt hb;go_wp2_with fail;go_meet
           case rel=>exact⟨rfl,hide (Below.refl _ _)⟩
         ·have hbl:Op.bytesLess (txt b.1).toList TN.toList=false:=by rw[Hna.out,<-HTA.out,zAb,zAb];exact zG6 hlt
          generalize txt b.1=TB at *;obtain rfl:bad=true:=by rw[<-hbd];exact zAm fun h=>hlt (h.2.2.1 b (by omega) (by rw[Nat.add_sub_cancel];exact hb))
          clear Hbad Hdec Hha Hk Hhat Hpr HAl HVal HR HVs HNl hbd t0 t1 hlt hb;go_wp2_with fail;go_meet
          case rel=>exact⟨rfl,hide (Below.refl _ _)⟩
       ·have s1:(TN.toList==TA.toList)=false:=by rw[<-HTN.out,<-HTA.out];exact zBn t1
        have s1':(TN.toList !=TA.toList)=true:=(by unfold bne;rw[s1];rfl);obtain rfl:bad=true:=by rw[<-hbd];exact zAm fun h=>t1 h.2.1
        clear Hbad Hdec Hha Hk Hhat Hpr HAl HVal HR HVs HNl hbd t0 t1;go_wp2_with fail;go_meet
        case rel=>exact⟨rfl,hide (Below.refl _ _)⟩
      case rest=>
       obtain⟨rfl,Hcw⟩:=hcut;have HXc:=hide (HXa3.out.grow Hcw.out);have HBc:=hide (HB3.out.trans (Hcw.out.mono HB3.out.size));have HVc:=hide ((HV3.out.below Hcw.out).upto Hcw.out.size);have HTc:=hide (HT3.out.below Hcw.out);clear HXa3 HV3 HT3 HAl HB3 Hcw Hlt;cases bad with
       | true=>
        have hh:=Tr_iff.1 Hbad.out;have hR1:Hid (R=false):=hide (by
         cases hR:R with
         | false=>rfl
         | true=>exact absurd ((Hdec.out.1 (HR.out.2 hR i hi)).1) hh)
        have HE:=hide (HB2.out.trans (HBc.out.mono HB2.out.size));clear hh Hbad Hdec Hha Hk Hhat Hpr HVal HR HVs HNl HXc HVc HTc HBc HA2 HL2 HT2 HX2;go_wp2;go_ret;exact⟨by rw[hR1.out];rfl,HE.out⟩
       | false=>
        have hh:HeadOk L i a:=Classical.byContradiction fun h=>by
         have:=Hbad.out;rw[zAm h] at this;cases this
        have hTN:TN=TA:=(by rw[<-HTN.out,hh.2.1];exact HTA.out);rw[hTN];have Hhd:=hide hh;have v1:=HXc.out.c1;clear hh hTN Hbad;go_wp2
        go_loopg [98] k (fun r2 s98 wx=>∃j:Nat,j+r2=k/\s98=.int .i64 (j:Int)/\Hid (∀v∈a.2.take j,(valV a.1 v).2=0)/\Hid (Below wc.heap.size wc wx))
        case atStart=>exact⟨0,by omega,rfl,hide fun v hv=>(by simp at hv),hide (Below.refl _ _)⟩
        case round=>
         obtain⟨j,hjg,rfl,hpj,hbj⟩:=hrel;have v2:=(HXc.out.below HXc.out.lt hbj.out).c1;clear v1;cases gk with
         | zero=>
          obtain rfl:k=j:=by omega
          have hjz:¬((k:Int)<(k:Int)):=(by omega);have hok:∀v∈a.2,(valV a.1 v).2=0:=by
           have:=hpj.out
           rwa [List.take_of_length_le (by rw[Hk.out];exact Nat.le_refl _)] at this
          have hnext:Hid (∀q,q<i+1->OkAt L q):=hide (by
           intro q hq
           rcases Nat.lt_or_ge q i with h | h
           ·exact Hpr.out q h
           ·obtain rfl:q=i:=by omega
            exact Hdec.out.2 ⟨Hhd.out,hok⟩)
          have HE:=hide (HBc.out.trans (hbj.out.mono HBc.out.size));clear hok hpj hbj Hhd Hdec Hha Hk Hhat Hpr HVal HXc HVc HTc HBc v2;go_wp2
          go_roundg r
          case measure=>omega
          case rel=>exact⟨i+1,by omega,by go_num,hnext,HE⟩
         | succ r2=>
          have hj:j<k:=(by omega);have hjz:(j:Int)<(k:Int):=(by omega);obtain⟨v,hv⟩:∃v,a.2[j]?=some v:=⟨_,List.getElem?_eq_getElem (by rw[Hk.out];exact hj)⟩;obtain⟨g3,o3,hVe,hg3,hat3⟩:=HVc.out.texts (fun h=>by rw[h] at hv;simp at hv);subst hVe;have f0:=(hbj.out.cell (p:=⟨g3,o3+j,none⟩) hg3).trans (hat3 j v hv);have hcall:=HVal.out Hhd.out.2.1 v (List.mem_of_getElem? hv);obtain⟨y,hy⟩:∃y,(valV a.1 v).2=y:=⟨_,rfl⟩;rw[hy] at hcall;have Hcall:=hide hcall;have HTj:=hide (HTc.out.below hbj.out);by_cases hy0:y=0
          ·subst hy0;have hnj:Hid (∀u∈a.2.take (j+1),(valV a.1 u).2=0):=hide (by
            rw[List.take_add_one,hv]
            intro u hu
            rcases List.mem_append.1 hu with h | h
            ·exact hpj.out u h
            ·obtain rfl:u=v:=by simpa using h
             exact hy)
           generalize txt v=SV at *;generalize txt (valV a.1 v).1=NV at *;clear hat3 hv hy hpj hcall;go_wp2_with (go_at_call 71;fail);refine (Hcall.out _ HTj.out).mono ?_;rintro e w5 ⟨rfl,hb5⟩;have hbn:=hTz hbj hb5;clear Hcall HTj hb5 hbj f0 v2;go_wp2
           go_roundg r2
           case measure=>omega
           case rel=>exact⟨j+1,by omega,by go_num,hnj,hbn⟩
          ·have s3:(y==0)=false:=beq_false_of_ne hy0;have s3':(y !=0)=true:=by unfold bne;rw[s3];rfl
           have hR1:Hid (R=false):=hide (by
            cases hR:R with
            | false=>rfl
            | true=>exact absurd (((Hdec.out.1 (HR.out.2 hR i hi)).2 v (List.mem_of_getElem? hv)).symm.trans hy).symm hy0)
           generalize txt v=SV at *;generalize txt (valV a.1 v).1=NV at *;clear hat3 hv hy hpj hcall hy0;go_wp2_with (go_at_call 71;fail);refine (Hcall.out _ HTj.out).mono ?_;rintro e w5 ⟨rfl,hb5⟩;have HE:=hide (HB2.out.trans ((HBc.out.trans ((hbj.out.trans (hb5.mono hbj.out.size)).mono HBc.out.size)).mono HB2.out.size));clear Hcall HTj hb5 hbj f0 v2 HXc HVc HTc HBc Hhd Hdec Hha Hk Hhat Hpr HVal HR HVs HNl HA2 HL2 HT2 HX2;go_wp2;go_ret;exact⟨by rw[hR1.out];rfl,HE.out⟩
   ·have z14:((14:Int)<(n:Int)):=by omega
    rw[zAp (show ¬LooseE nm L from fun h=>h14 (by rw[hnl];exact h.attrs.le))];have HN:=hide hN;generalize txt (normT nm).1=NN at *;generalize txt nm=SN at *;clear hN hb1 hX hA hL hT hnm hvs HA HL hnl;go_enter Tryz.func65,Tryz.ntmps65;go_wp2_with (go_at_call 46;fail);refine (HN.out _ HT.out).mono ?_;rintro e w2 ⟨rfl,hb2⟩;have HB2:=hTz HB hb2;have y0:=(HX.out.grow hb2).c0;have y1:=(HX.out.grow hb2).c1;clear hb2 HB HT HN x0 HX;go_wp2;go_ret;exact⟨rfl,HB2.out⟩
  ·have q1:=zBn h1;have q1':((txt (normT nm).1).toList !=(txt nm).toList)=true:=by unfold bne;rw[q1];rfl
   rw[zAp (show ¬LooseE nm L from fun h=>h1 (by rw[h.norm]))];have HN:=hide hN;generalize txt (normT nm).1=NN at *;generalize txt nm=SN at *;clear hN hb1 hX hA hL hT hnm hvs HA HL hnl;go_enter Tryz.func65,Tryz.ntmps65;go_wp2_with (go_at_call 46;fail);refine (HN.out _ HT.out).mono ?_;rintro e w2 ⟨rfl,hb2⟩;have HB2:=hTz HB hb2;have y0:=(HX.out.grow hb2).c0;have y1:=(HX.out.grow hb2).c1;clear hb2 HB HT HN x0 HX;go_wp2;go_ret;exact⟨rfl,HB2.out⟩
 ·have q0:((normT nm).2==0)=false:=beq_false_of_ne h0;have q0':((normT nm).2 !=0)=true:=by unfold bne;rw[q0];rfl
  rw[zAp (show ¬LooseE nm L from fun h=>h0 (by rw[h.norm]))];have HN:=hide hN;generalize txt (normT nm).1=NN at *;generalize (normT nm).2=ye at *;generalize txt nm=SN at *;clear hN hb1 hX hA hL hT hnm hvs HA HL hnl;go_enter Tryz.func65,Tryz.ntmps65;go_wp2_with (go_at_call 46;fail);refine (HN.out _ HT.out).mono ?_;rintro e w2 ⟨rfl,hb2⟩;have HB2:=hTz HB hb2;have y0:=(HX.out.grow hb2).c0;have y1:=(HX.out.grow hb2).c1;clear hb2 HB HT HN x0 HX;go_wp2;go_ret;exact⟨rfl,HB2.out⟩
theorem zKc (nm:List UInt8) (L:List EA) (w:World) (A:Option Addr) (n c:Nat) (xs:List Value) (hA:Has w w.heap.size 2 A n xs) (hL:EAs w w.heap.size xs L) (hn:n<=1000000)
  (hnm:nm.length<=1000000) (hvs:∀a∈L,a.1.length<=281474976710656/\a.2.length<=1000000/\∀u∈a.2,u.length<=1000000) (hT:TM w):
  Calls Tryz.prog 32 #[.agg #[.string (txt nm),.slice A n c]] w fun e w'=>e=.returned (.bool (Tr (FormedE nm L)))/\Below w.heap.size w w':=by
 have hb1:=below1 w (.cells #[.string (txt nm),.slice A n c] 38);have hX:=BoxE.new w (txt nm) A n c 38;have hLo:=fun w hA hL hT=>zN5 nm L w A n c xs hA hL hn hnm hvs hT
 have hVa:=fun w hA hL=>zGu nm L clsT w A n c xs hA hL hn (by decide) (fun a ha=>(hvs a ha).2.1)
 have hNa:=fun w hA hL hT=>zN1 nm L w A n c xs hA hL hn hnm (fun a ha=>(hvs a ha).2) hT
 have HA:=hide ((hA.below hb1).upto hb1.size);have HL:=hide (hL.grow hb1);have HT:=hide (hT.below hb1);have HB:=hide hb1;have HX:=hide hX;have x0:=hX.c0;have x1:=hX.c1;have hcls:txt clsT=(⟨#[111,98,106,101,99,116,67,108,97,115,115]⟩:ByteArray):=rfl;rw[hcls] at hVa;by_cases h1:LooseE nm L
 ·rw [zAm h1] at hLo;obtain⟨R,hR⟩:∃R,valuesE L clsT=R:=⟨_,rfl⟩;rw[hR] at hVa;by_cases h2:R=[]
  ·rw [zAp (show ¬FormedE nm L from fun h=>h.cls (hR.trans h2))];subst h2;have HLo:=hide hLo;have HVa:=hide hVa;clear hLo hVa hNa hb1 hX hA hL hT hnm hvs h1 hR;generalize txt nm=SN at *;go_enter Tryz.func32,Tryz.ntmps32;go_wp2_with (go_at_call 65;fail);refine (HLo.out _ HA.out HL.out HT.out).mono ?_;rintro e w2 ⟨rfl,hb2⟩;have HX2:=hide (HX.out.grow hb2);have HB2:=hTz HB hb2;have HT2:=hide (HT.out.below hb2);have HA2:=hide ((HA.out.below hb2).upto hb2.size);have HL2:=hide (HL.out.grow hb2);have y0:=HX2.out.c0;have y1:=HX2.out.c1;clear hb2 HB HT HX HA HL HLo x0 x1;go_wp2_with (go_at_call 66;fail);refine (HVa.out _ HA2.out HL2.out).mono ?_;rintro e w3 hpost;obtain⟨v,rfl,hown,hb3⟩:=hpost.out;obtain⟨A3,c3,rfl,_,_⟩:=zAh hown;have HB3:=hTz HB2 hb3;clear hpost hown hb3 HB2 HT2 HX2 HA2 HL2 HVa y0 y1;go_wp2;go_ret;exact⟨rfl,HB3.out⟩
  ·have hpos:0<R.length:=List.length_pos_iff.2 h2;obtain⟨b,hb⟩:∃b,Tr (NamedR nm L)=b:=⟨_,rfl⟩;rw[hb] at hNa;rw[show Tr (FormedE nm L)=b by
    rw[<-hb]
    by_cases h3:NamedR nm L
    ·rw [zAm h3,zAm ⟨h1,by rw[hR];exact h2,h3⟩]
    ·rw [zAp h3,zAp fun h=>h3 h.named]]
   have HLo:=hide hLo;have HVa:=hide hVa;have HNa:=hide hNa;obtain⟨m,hm⟩:∃m,R.length=m:=⟨_,rfl⟩;rw[hm] at hpos;have hz:(0:Int)<(m:Int):=by omega
   have Hm:=hide hm;clear hLo hVa hNa hb1 hX hA hL hT hnm hvs h1 h2 hR hb hm;generalize txt nm=SN at *;go_enter Tryz.func32,Tryz.ntmps32;go_wp2_with (go_at_call 65;fail);refine (HLo.out _ HA.out HL.out HT.out).mono ?_;rintro e w2 ⟨rfl,hb2⟩;have HX2:=hide (HX.out.grow hb2);have HB2:=hTz HB hb2;have HT2:=hide (HT.out.below hb2);have HA2:=hide ((HA.out.below hb2).upto hb2.size);have HL2:=hide (HL.out.grow hb2);have y0:=HX2.out.c0;have y1:=HX2.out.c1;clear hb2 HB HT HX HA HL HLo x0 x1;go_wp2_with (go_at_call 66;fail);refine (HVa.out _ HA2.out HL2.out).mono ?_;rintro e w3 hpost;obtain⟨v,rfl,hown,hb3⟩:=hpost.out;rw[Hm.out] at hown;obtain⟨A3,c3,rfl,_,_⟩:=zAh hown;have HX3:=hide (HX2.out.grow hb3);have HB3:=hTz HB2 hb3;have HT3:=hide (HT2.out.below hb3);have HA3:=hide ((HA2.out.below hb3).upto hb3.size);have HL3:=hide (HL2.out.grow hb3);have z0:=HX3.out.c0;have z1:=HX3.out.c1;clear hpost hown hb3 HB2 HT2 HX2 HA2 HL2 HVa y0 y1;go_wp2_with (go_at_call 67;fail);refine (HNa.out _ HA3.out HL3.out HT3.out).mono ?_;rintro e w4 ⟨rfl,hb4⟩;have HB4:=hTz HB3 hb4;clear hb4 HB3 HT3 HX3 HA3 HL3 HNa z0 z1;go_wp2;go_ret;exact⟨rfl,HB4.out⟩
 ·rw [zAp h1] at hLo;rw[zAp (show ¬FormedE nm L from fun h=>h1 h.loose)];have HLo:=hide hLo;clear hLo hVa hNa hb1 hX hA hL hT hnm hvs h1;generalize txt nm=SN at *;go_enter Tryz.func32,Tryz.ntmps32;go_wp2_with (go_at_call 65;fail);refine (HLo.out _ HA.out HL.out HT.out).mono ?_;rintro e w2 ⟨rfl,hb2⟩;have HB2:=hTz HB hb2;clear hb2 HB HT HX HA HL HLo x0 x1;go_wp2;go_ret;exact⟨rfl,HB2.out⟩
open Go Go.RowKit
structure EntPost (r:EN) (w:World) (e:Ending) (w':World):Prop where
 out:∃A c ys,e=.returned (.agg #[.string (txt r.1),.slice A r.2.length c])/\r.2.length<=c/\c<=maxLen/\HasP w' (NewB w.heap.size w'.heap.size) 2 A r.2.length ys/\EAsP w' (NewB w.heap.size w'.heap.size) ys r.2/\Below w.heap.size w w'
theorem nilY (w:World):(w.alloc (.cells #[] 9)).ownsRow w.heap.size 9 1 (.slice (some ⟨w.heap.size,0,none⟩) 0 0) 0 []:=
 zDu w #[] 9 0 (by unfold maxLen;omega) rfl
theorem zSy (L:List (List UInt8)):∀u∈strs L,u.oneCell'=true:=by
 intro u hu;obtain⟨x,_,rfl⟩:=List.mem_map.1 hu;rfl
structure CopyL (w w2 wx:World) (SN:ByteArray) (A:Option Addr) (n c:Nat) (Av:Option Addr) (i cv:Nat) (zs:List Value) (M:List EA):Prop where
 box:Blk wx w.heap.size [.string SN,.slice A n c]
 res:Blk wx (w.heap.size+1) [.string ⟨#[]⟩,.slice none 0 0]
 out:Blk wx (w.heap.size+2) [.string SN,.slice Av i cv]
 row:RowA wx w2.heap.size 60 (.slice Av i cv) zs M
 grown:w2.grownBy wx (some (w.heap.size+2))
theorem CopyL.grow {w w2 wx w':World} {SN:ByteArray} {A:Option Addr} {n c:Nat} {Av:Option Addr} {i cv:Nat} {zs:List Value} {M:List EA} (h:CopyL w w2 wx SN A n c Av i cv zs M) (hb:Below wx.heap.size wx w'):CopyL w w2 w' SN A n c Av i cv zs M:=
 ⟨h.box.grow hb,h.res.grow hb,h.out.grow hb,h.row.below hb,⟨hb.os.trans h.grown.os,hb.tape.trans h.grown.tape,hb.output.trans h.grown.output,Nat.le_trans h.grown.size hb.size,fun k hk hne=>(hb.block k (Nat.lt_of_lt_of_le hk h.grown.size)).trans (h.grown.block k hk hne)⟩⟩
theorem RowA.set {w:World} {base:Nat} {E:TypeId} {v:Value} {zs:List Value} {M:List EA} (h:RowA w base E v zs M) {h0:Nat} (hB:h0<base) (i:Nat) (u:Value):RowA (w.setCell ⟨h0,i,none⟩ u) base E v zs M:=by
 have hg:=zCe w h0 i u;refine⟨h.own.kept hg (.inr fun e=>by have:=(h.own.lt _ e).1;omega),h.attrs.move (fun p hp=>World.cell?_of_block (hg.block _ hp.2.1 (fun e=>by have:=Option.some.inj e;have:=hp.1;omega))) fun b hb=>⟨hb.1,Nat.lt_of_lt_of_le hb.2.1 hg.size,hb.2.2⟩⟩
theorem CopyL.next {w w2 wd w7:World} {SN:ByteArray} {A:Option Addr} {n c:Nat} {Av A7:Option Addr} {i cv c7 j:Nat} {zs ys:List Value} {M M':List EA} (h:CopyL w w2 wd SN A n c Av i cv zs M) (hs:w2.heap.size=w.heap.size+3) (hb:Below w2.heap.size wd w7) (hR:RowA w7 w2.heap.size 60 (.slice A7 j c7) ys M'):
  CopyL w w2 (w7.setCell ⟨w.heap.size+2,1,none⟩ (.slice A7 j c7)) SN A n c A7 j c7 ys M':=by
 have hg:=zCe w7 (w.heap.size+2) 1 (.slice A7 j c7);have ho:=(h.out.below (by omega) hb).set 1 (.slice A7 j c7) (by simp);refine⟨(h.box.below (by omega) hb).grown hg (fun e=>by have:=Option.some.inj e;omega),(h.res.below (by omega) hb).grown hg (fun e=>by have:=Option.some.inj e;omega),ho,hR.set (by omega) _ _,?_⟩;exact⟨hg.os.trans (hb.os.trans h.grown.os),hg.tape.trans (hb.tape.trans h.grown.tape),hg.output.trans (hb.output.trans h.grown.output),Nat.le_trans h.grown.size (Nat.le_trans hb.size hg.size),fun k hk hne=>(hg.block k (Nat.lt_of_lt_of_le hk (Nat.le_trans h.grown.size hb.size)) hne).trans ((hb.block k hk).trans (h.grown.block k hk hne))⟩
theorem CopyL.keep {w w2 wx w':World} {SN:ByteArray} {A:Option Addr} {n c:Nat} {Av:Option Addr} {i cv:Nat} {zs:List Value} {M:List EA} (h:CopyL w w2 wx SN A n c Av i cv zs M) (hb0:Below w.heap.size w w2) (hs:w2.heap.size=w.heap.size+3) (hb:Below wx.heap.size wx w')
  {g o:Nat} {a:EA} {U:Option Addr} {cu:Nat} (ha:EaAt w w.heap.size g o a U cu) (hg:g<w.heap.size):EaAt w' w.heap.size g o a U cu:=by
 have hB:Below w.heap.size w w':=by refine hb0.trans ⟨hb.os.trans h.grown.os,hb.tape.trans h.grown.tape,hb.output.trans h.grown.output,Nat.le_trans h.grown.size hb.size,fun k hk=>?_⟩;exact (hb.block k (by have:=h.grown.size;omega)).trans (h.grown.block k (by omega) (fun e=>by have:=Option.some.inj e;omega))
 exact ha.below hg hB
theorem Hs2w {w w1 w2:World} {o:Obj} (hb:Below w.heap.size w w2) (hw:w1.alloc o=w2) (hs:w1.heap.size=w.heap.size+2):w2.heap.size=w.heap.size+3:=by rw[<-hw];simp[hs]
theorem CopyL.told {w w1 w2 wx w':World} {SN:ByteArray} {A:Option Addr} {n c:Nat} {Av:Option Addr} {i cv:Nat} {zs:List Value} {L:List EA} {o:Obj} (h:CopyL w w2 wx SN A n c Av i cv zs L) (hn:i=L.length) (hb:Below w.heap.size w w2) (hs1:w1.heap.size=w.heap.size+2) (hw:w1.alloc o=w2)
  (hg:wx.grownBy w' (some (w.heap.size+1))):∃A' c' ys,Ending.returned (.agg #[.string SN,.slice Av i cv])=.returned (.agg #[.string SN,.slice A' L.length c'])/\L.length<=c'/\c'<=maxLen/\HasP w' (NewB w.heap.size w'.heap.size) 2 A' L.length ys/\EAsP w' (NewB w.heap.size w'.heap.size) ys L/\Below w.heap.size w w':=by
 have hs:=Hs2w hb hw hs1;subst hn;obtain⟨A',c',e,hc,hH⟩:=zAv h.row.own;cases e;have hm:=zAu h.row.own;have hgs:=h.grown.size;have hq:∀p:Addr,(w2.heap.size<=p.block/\p.block<wx.heap.size)->w'.cell? p=wx.cell? p:=fun p hp=>World.cell?_of_block (hg.block _ hp.2 (fun e=>by have:=Option.some.inj e;have:=hp.1;omega))
 refine⟨Av,cv,zs,rfl,hc,hm,hH.move hq fun b hb2=>⟨by omega,Nat.lt_of_lt_of_le hb2.2 hg.size⟩,h.row.attrs.move (fun p hp=>hq p ⟨hp.1,hp.2.1⟩) fun b hb2=>⟨by omega,Nat.lt_of_lt_of_le hb2.2.1 hg.size⟩,?_⟩;refine hb.trans ⟨hg.os.trans h.grown.os,hg.tape.trans h.grown.tape,hg.output.trans h.grown.output,Nat.le_trans hgs hg.size,fun k hk=>?_⟩;exact (hg.block k (by omega) (fun e=>by have:=Option.some.inj e;omega)).trans (h.grown.block k (by omega) (fun e=>by have:=Option.some.inj e;omega))
theorem zHz (nm:List UInt8) (L:List EA) (w:World) (A:Option Addr) (n c:Nat) (xs:List Value) (hA:Has w w.heap.size 2 A n xs) (hL:EAs w w.heap.size xs L) (hn:n<=1000000) (hvs:∀a∈L,a.2.length<=1000000):
  Calls Tryz.prog 40 #[.agg #[.string (txt nm),.slice A n c]] w (EntPost (nm,L) w):=by
 have hnl:=hA.eas_n hL;have hb1:=below1 w (.cells #[.string (txt nm),.slice A n c] 38);have hX:Blk (w.alloc (.cells #[.string (txt nm),.slice A n c] 38)) w.heap.size [.string (txt nm),.slice A n c]:=Blk.new w [.string (txt nm),.slice A n c] 38;obtain⟨w0,hw0⟩:∃w0,w.alloc (.cells #[.string (txt nm),.slice A n c] 38)=w0:=⟨_,rfl⟩;have hs0:w0.heap.size=w.heap.size+1:=by rw[<-hw0];simp
 rw[hw0] at hb1 hX;have hb2:=below1 w0 (.cells #[.string ⟨#[]⟩,.slice none 0 0] 38);have hY:Blk (w0.alloc (.cells #[.string ⟨#[]⟩,.slice none 0 0] 38)) w0.heap.size [.string ⟨#[]⟩,.slice none 0 0]:=Blk.new w0 [.string ⟨#[]⟩,.slice none 0 0] 38;obtain⟨w1,hw1⟩:∃w1,w0.alloc (.cells #[.string ⟨#[]⟩,.slice none 0 0] 38)=w1:=⟨_,rfl⟩;have hs1:w1.heap.size=w.heap.size+2:=by rw[<-hw1];simp[hs0]
 rw[hw1] at hb2 hY;rw[hs0] at hY;have hb3:=below1 w1 (.cells #[.string (txt nm),.slice none 0 0] 38);have hO:Blk (w1.alloc (.cells #[.string (txt nm),.slice none 0 0] 38)) w1.heap.size [.string (txt nm),.slice none 0 0]:=Blk.new w1 [.string (txt nm),.slice none 0 0] 38;obtain⟨w2,hw2⟩:∃w2,w1.alloc (.cells #[.string (txt nm),.slice none 0 0] 38)=w2:=⟨_,rfl⟩;have hs2:w2.heap.size=w.heap.size+3:=by rw[<-hw2];simp[hs1]
 rw[hw2] at hb3 hO;rw[hs1] at hO;have hbb:Below w.heap.size w w2:=(hb1.trans (hb2.mono (by omega))).trans (hb3.mono (by omega));have hC:CopyL w w2 w2 (txt nm) A n c none 0 0 [] []:=⟨(hX.grow hb2).grow hb3,hY.grow hb3,hO,RowA.start (World.ownsRow_nil _ _ _ _),World.grownBy.refl _ _⟩;have HC:=hide hC;have HB:=hide hbb;have HA:=hide hA;have HL:=hide hL;have HN:=hide hnl;have HV:=hide hvs;have Hw0:=hide hw0;have Hw1:=hide hw1;have Hw2:=hide hw2;have Hs0:=hide hs0;have Hs1:=hide hs1;have y0:=hX.cells 0 _ rfl;have Hsn:Hid (∃SN,txt nm=SN):=hide ⟨_,rfl⟩;clear hb1 hX hw0 hs0 hb2 hY hw1 hs1 hb3 hO hw2 hbb hC hA hL hnl hvs
 suffices H:Calls Tryz.prog 40 #[.agg #[.string (txt nm),.slice A n c]] w fun e w'=>Hid (EntPost (nm,L) w e w') from H.mono fun e w' h=>h.out
 obtain⟨SN,hSN⟩:=Hsn.out;rw[hSN] at HC Hw0 Hw2 y0 ⊢;have HSN:=hide hSN;clear hSN Hsn;go_enter Tryz.func40,Tryz.ntmps40;go_wp2_with fail;go_upto_region 1 with fail;rw[Hw0.out,Hw1.out];(try rw[Hs0.out]);go_upto_region 2 with fail;rw[Hw2.out];(try rw[Hs1.out]);have p1:=HC.out.box.cells 1 _ rfl;go_wp2
 go_loopg [11] n (fun q s11 wx=>∃(i:Nat) (Av:Option Addr) (cv:Nat) (zs:List Value),i+q=n/\s11=.int .i64 (i:Int)/\Hid (CopyL w w2 wx SN A n c Av i cv zs (L.take i)))
 case atStart=>exact⟨0,none,0,[],by omega,rfl,HC⟩
 case round=>
  obtain⟨i,Av,cv,zs,hig,rfl,HCl⟩:=hrel;clear p1;cases gk with
  | zero=>
   obtain rfl:i=n:=by omega
   have hiz:¬((i:Int)<(i:Int)):=by omega
   have h9:=HCl.out;rw[List.take_of_length_le (by rw[<-HN.out];exact Nat.le_refl _)] at h9;have x0:=h9.out.cells 0 _ rfl;have x1:=h9.out.cells 1 _ rfl;have H9:=hide h9;clear h9 HCl HC;go_wp2_with (refine storeB wr rfl 38 (.tmp 2) (.tmp 35) rfl (w.heap.size+1) 0 _ [.string SN,.slice Av i cv] rfl rfl H9.out.res (by simp) (by kernel_rfl) (by simp[Value.oneCell']) ?_);have hgs:=zB4 (w.heap.size+1) [.string SN,.slice Av i cv] 0 wr;have hBz:=H9.out.res.sets 0 [.string SN,.slice Av i cv] (by simp) [.string SN,.slice Av i cv] (by simp);have hPost0:=H9.out.told HN.out HB.out Hs1.out Hw2.out hgs;have hPost:Hid (EntPost (nm,L) w (.returned (.agg #[.string SN,.slice Av i cv])) (wr.setCells (w.heap.size+1) 0 [.string SN,.slice Av i cv])):=hide ⟨by
    show ∃A c ys,_=Ending.returned (.agg #[.string (txt nm),.slice A L.length c])/\_
    rw[HSN.out]
    exact hPost0⟩
   clear hPost0;have HBz:=hide hBz;clear hgs hBz x0 x1 H9;generalize wr.setCells (w.heap.size+1) 0 [.string SN,.slice Av i cv]=wz at *;refine bodyPost_ret (v:=.agg #[.string SN,.slice Av i cv]) ?_ rfl ?_
   ·exact zCk rfl _ wz (w.heap.size+1) [.string SN,.slice Av i cv] _ rfl HBz.out.range Tryz.underlying38 rfl (by kernel_rfl)
   ·exact hPost
  | succ r=>
   have hi:i<n:=by omega
   have hiz:(i:Int)<(n:Int):=by omega
   obtain⟨a,ha⟩:∃a,L[i]?=some a:=⟨_,List.getElem?_eq_getElem (by rw[<-HN.out];exact hi)⟩;obtain⟨g,o,hAe,hg,hat⟩:=HA.out.ea HL.out (fun h=>by rw[h] at ha;simp at ha);subst hAe;obtain⟨U,cu,hat⟩:=hat i a ha;have hk6:=HV.out a (List.mem_of_getElem? ha);have hs2:=Hs2w HB.out Hw2.out Hs1.out;have hlt:i<L.length:=by rw[<-HN.out];exact hi
   have Htk:Hid (L.take (i+1)=L.take i++[a]):=hide (by rw[List.take_add_one,ha];rfl);have htl:(L.take i).length=i:=by rw[List.length_take];omega
   have hcl:=HCl.out;have hatr:EaAt wr.drew w.heap.size g (o+i*2) a U cu:=hcl.keep HB.out hs2 (Below.refl _ _).drew hat hg;obtain⟨TA,hTA⟩:∃TA,txt a.1=TA:=⟨_,rfl⟩;obtain⟨k,hk⟩:∃k,a.2.length=k:=⟨_,rfl⟩;have Hk:=hide (And.intro hTA hk);rw[hk] at hk6;have Hd:Hid (wr.drew.cell? ⟨g,o+i*2,none⟩=some (.string TA)/\wr.drew.cell? ⟨g,o+i*2+1,none⟩=some (.slice U k cu)):=hide ⟨by rw[<-hTA];exact hatr.e0,by rw[<-hk];exact hatr.e1⟩;have hwr:w.heap.size<=wr.drew.heap.size:=Nat.le_trans HB.out.size hcl.grown.size;have HVa0:Hid (Has wr.drew wr.drew.heap.size 1 U k (strs a.2)):=hide (by rw[<-hk];exact hatr.has.upto hwr);clear hat hatr hcl ha hTA hk HC;go_wp2_with fail;refine zDe wr.drew.heap.size (Value.slice Av i cv).ownBlock 20 (by kernel_rfl) ?_;have hdr:Below wr.heap.size wr wr.drew:=(Below.refl _ _).drew;have HCd:=hide (HCl.out.grow hdr);have HRd:=hide (HCl.out.row.below hdr);have HOd:=hide (HCd.out.out);have hsz:w2.heap.size<=wr.drew.heap.size:=HCl.out.grown.size;have hno:∀b,b<w2.heap.size->some b≠(Value.slice Av i cv).ownBlock:=fun b hb e=>by
    have:=(HCl.out.row.own.lt b e.symm).1;omega
   have X0:Hid (∀W,upBB wr.drew.heap.size (Value.slice Av i cv).ownBlock wr.drew W->W.cell? ⟨w.heap.size+2,1,none⟩=some (.slice Av i cv)/\W.cell? ⟨w.heap.size,1,none⟩=some (.slice (some ⟨g,o,none⟩) n c)/\W.cell? ⟨g,o+i*2,none⟩=some (.string TA)/\W.cell? ⟨g,o+i*2+1,none⟩=some (.slice U k cu)):=hide fun W hW=>by
    have hg9:g<w.heap.size:=hg;have hcd:=HCd.out;refine⟨(hW.cell (p:=⟨w.heap.size+2,1,none⟩) (show w.heap.size+2<_ by omega) (hno (w.heap.size+2) (by omega))).trans (hcd.out.cells 1 _ rfl),(hW.cell (p:=⟨w.heap.size,1,none⟩) (show w.heap.size<_ by omega) (hno w.heap.size (by omega))).trans (hcd.box.cells 1 _ rfl),?_,?_⟩
    ·exact (hW.cell (p:=⟨g,o+i*2,none⟩) (show g<_ by omega) (hno g (by omega))).trans Hd.out.1
    ·exact (hW.cell (p:=⟨g,o+i*2+1,none⟩) (show g<_ by omega) (hno g (by omega))).trans Hd.out.2
   have HVal:=hide (HVa0.out);clear hdr hno HCl Hd HVa0;generalize wr.drew=wd at *;refine zAd 0 (some 14) rfl rfl (by kernel_rfl) rfl (by kernel_rfl) (by rfl) (fun W hW=>by go_simp<;>with_reducible rfl) ?_;(try simp only[pUz]);refine zAd 1 (some 15) (v:=?va1) rfl rfl (by kernel_rfl) rfl (by kernel_rfl) (by rfl) (fun W hW=>?ya1) ?_
   case ya1=>have k0:=(X0.out W hW).1;go_simp<;>with_reducible rfl
   (try simp only[pUz]);refine zAd 2 (some 16) rfl rfl (by kernel_rfl) rfl (by kernel_rfl) (by rfl) (fun W hW=>by go_simp<;>with_reducible rfl) ?_;(try simp only[pUz]);refine zAd 3 (some 17) (v:=?va3) rfl rfl (by kernel_rfl) rfl (by kernel_rfl) (by rfl) (fun W hW=>?ya3) ?_
   case ya3=>have k0:=(X0.out W hW).2.1;go_simp<;>with_reducible rfl
   (try simp only[pUz]);refine zAd 4 (some 18) rfl rfl (by kernel_rfl) rfl (by kernel_rfl) (by rfl) (fun W hW=>by go_simp<;>with_reducible rfl) ?_;(try simp only[pUz]);refine zAd 5 (some 19) rfl rfl (by kernel_rfl) rfl (by kernel_rfl) (by rfl) (fun W hW=>by go_simp<;>with_reducible rfl) ?_;(try simp only[pUz]);refine zAd 6 (some 20) rfl rfl (by kernel_rfl) rfl (by kernel_rfl) (by rfl) (fun W hW=>by go_simp<;>with_reducible rfl) ?_;(try simp only[pUz]);refine zAd 7 (some 21) (v:=?va7) rfl rfl (by kernel_rfl) rfl (by kernel_rfl) (by rfl) (fun W hW=>?ya7) ?_
   case ya7=>have k0:=(X0.out W hW).2.2.1;go_simp<;>with_reducible rfl
   (try simp only[pUz]);refine zAd 9 (some 23) rfl rfl (by kernel_rfl) rfl (by kernel_rfl) (by rfl) (fun W hW=>by go_simp<;>with_reducible rfl) ?_;(try simp only[pUz]);refine zAd 10 (some 24) (v:=?va10) rfl rfl (by kernel_rfl) rfl (by kernel_rfl) (by rfl) (fun W hW=>?ya10) ?_
   case ya10=>have k0:=(X0.out W hW).2.1;go_simp<;>with_reducible rfl
   (try simp only[pUz]);refine zAd 11 (some 25) rfl rfl (by kernel_rfl) rfl (by kernel_rfl) (by rfl) (fun W hW=>by go_simp<;>with_reducible rfl) ?_;(try simp only[pUz]);refine zAd 12 (some 26) rfl rfl (by kernel_rfl) rfl (by kernel_rfl) (by rfl) (fun W hW=>by go_simp<;>with_reducible rfl) ?_;(try simp only[pUz]);refine zAd 13 (some 27) rfl rfl (by kernel_rfl) rfl (by kernel_rfl) (by rfl) (fun W hW=>by go_simp<;>with_reducible rfl) ?_;(try simp only[pUz]);refine zAd 14 (some 28) (v:=?va14) rfl rfl (by kernel_rfl) rfl (by kernel_rfl) (by rfl) (fun W hW=>?ya14) ?_
   case ya14=>have k0:=(X0.out W hW).2.2.2;go_simp<;>with_reducible rfl
   (try simp only[pUz]);refine zAo 8 rfl (by kernel_rfl) (fun K hK=>?_);go_simp;have hba:=below1 wd (.cells #[] 9);refine hK.out _ _ (fun _=>zDn _ (Nat.le_refl _) hba) ?_;have hnil:=nilY wd;have hs1:=hba.size;clear hK K;(try simp only[pUz]);refine zAo 15 rfl (by kernel_rfl) (fun K hK=>?_);refine stepE _ 43 9 _ 1 16 Tryz.underlying43 infoS rfl (by omega) (by omega) (some 29) rfl rfl (.tmp 22) (.tmp 28) rfl wd.heap.size _ 0 [] rfl hnil wd.heap.size U k _ (strs a.2) rfl ((HVal.out).below hba) (zSy a.2) (by omega) hs1 ?_;intro v5 w5 hown5 hb5 hg5 ht5;refine hK.out _ _ (fun _=>zEx _ hb5) ?_;obtain⟨A5,c5,rfl,hc5,hP5⟩:=zAv hown5;have hm5:=zAu hown5;have H5:=hide (And.intro hc5 (And.intro hm5 (And.intro hP5 (hba.trans hb5))));simp only[Nat.zero_add,List.nil_append] at H5 ⊢;clear hK K hown5 hb5 hg5 ht5 hc5 hP5 hm5 hnil hs1 hba;(try simp only[pUz]);refine zAd 16 (some 30) rfl rfl (by kernel_rfl) rfl (by kernel_rfl) (by rfl) (fun W hW=>by go_simp<;>with_reducible rfl) ?_;(try simp only[pUz]);refine zAo 17 rfl (by kernel_rfl) (fun K hK=>?_);go_simp;have hbc:=below1 w5 (.cells #[.string TA,.slice A5 k c5] 60);refine hK.out _ _ (fun _=>zDn _ H5.out.2.2.2.size hbc) ?_;have hlit:=litY w5 (.string TA) (.slice A5 k c5) 60 rfl rfl;have hown6:=zAc (zAc HRd.out.own H5.out.2.2.2) hbc;have hs6:w2.heap.size<=(w5.alloc (.cells #[.string TA,.slice A5 k c5] 60)).heap.size:=Nat.le_trans hsz (Nat.le_trans H5.out.2.2.2.size hbc.size);have h1c:∀u∈([.string TA,.slice A5 k c5]:List Value),u.oneCell'=true:=by simp[Value.oneCell']
   clear hK K;(try simp only[pUz]);refine zAo 18 rfl (by kernel_rfl) (fun K hK=>?_);refine stepE _ 36 60 _ 2 40 Tryz.underlying36 infoEA rfl (by omega) (by omega) (some 32) rfl rfl (.tmp 15) (.tmp 31) rfl w2.heap.size _ _ zs rfl hown6 _ _ 1 1 [.string TA,.slice A5 k c5] rfl (Has.own hlit) h1c (by rw[htl];omega) hs6 ?_;intro v7 w7 hown7 hb7 hg7 ht7;refine hK.out _ _ (fun _=>zFy (Nat.le_trans H5.out.2.2.2.size hbc.size) hg7) ?_;have HR7:Hid (RowA w7 w2.heap.size 60 v7 (zs++[.string TA,.slice A5 k c5]) (L.take (i+1))):=hide (by
    rw[Htk.out]
    obtain⟨hta,hkk⟩:=Hk.out
    subst hta hkk
    have hR:=HRd.out.more (a:=a) hsz H5.out.2.2.2 H5.out.1 H5.out.2.1 H5.out.2.2.1 _ hown7 hg7 ht7
    exact hR)
   have HB7:=hide ((H5.out.2.2.2.mono hsz).trans ((hbc.mono (Nat.le_trans hsz H5.out.2.2.2.size)).trans hb7));rw[htl] at hown7;obtain⟨A7,c7,rfl,_,_⟩:=zAh hown7;clear hK K hown7 hb7 hg7 ht7 hown6 hs6 h1c hlit hbc H5;(try simp only[pUz]);have HO7:=hide (HOd.out.below (by omega) HB7.out);refine zAd 19 (some 33) rfl rfl (by kernel_rfl) rfl (by kernel_rfl) (by rfl) (fun W hW=>by go_simp<;>with_reducible rfl) ?_;(try simp only[pUz]);refine zAo 20 rfl (by kernel_rfl) (fun K hK=>?_);have cm:=(HO7.out).cells 1 _ rfl;have fm:=(HO7.out).fz 1;go_simp;refine hK.out _ _ (fun h=>absurd rfl h) ?_;clear hK K cm fm;(try simp only[pUz]);refine zC6 (by kernel_rfl) ?_ _;have HC9:=hide (HCd.out.next hs2 HB7.out HR7.out);clear HO7 HB7 HR7 HCd HRd HOd HVal hsz;go_wp2
   go_roundg r
   case measure=>omega
   case rel=>exact⟨i+1,_,_,_,by omega,by go_num,HC9⟩
end Go.Proofs.YtdkekamkmlpnhaaGreatDoor
