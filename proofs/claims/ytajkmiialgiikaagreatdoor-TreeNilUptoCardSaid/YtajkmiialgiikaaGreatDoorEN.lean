/- Several texts in one: ENamed, ELoose, ERForm, YCopyE. By an AI agent. -/
import Derived.Test.YtajkmiialgiikaaGreatDoorEX
import Derived.Deep.CutRange
import Derived.Deep.CutBlock
import Derived.Test.YtajkmiialgiikaaGreatDoorEY
import Derived.Test.YtajkmiialgiikaaGreatDoorGrow
set_option linter.unusedSimpArgs false
set_option linter.unusedVariables false
set_option maxRecDepth 100000
set_option maxHeartbeats 32000000
namespace Go.Proofs.YtajkmiialgiikaaGreatDoor
open Go.RowKit
theorem zNg (nm:List UInt8) (L:List EA) (w:World) (A:Option Addr) (n c:Nat) (xs:List Value) (hA:Has w w.heap.size 2 A n xs) (hL:EAs w w.heap.size xs L) (hn:n<=1000000)
  (hnm:nm.length<=1000000) (hvs:∀a∈L,a.2.length<=1000000/\∀u∈a.2,u.length<=1000000) (hT:TM w):
  Calls Tryz.prog 67 #[.agg #[.string (txt nm),.slice A n c]] w fun e w'=>e=.returned (.bool (Tr (NamedR nm L)))/\Below w.heap.size w w':=by
 have hb1:=below1 w (.cells #[.string (txt nm),.slice A n c] 38);have hX:=BoxE.new w (txt nm) A n c 38;have hP:=fun w hT=>zIi nm hnm w hT
 have HA:=hide ((hA.below hb1).upto hb1.size);have HL:=hide (hL.grow hb1);have HT:=hide (hT.below hb1);have HB:=hide hb1;have HX:=hide hX;have x0:=hX.c0;cases hV:nameV nm with
 | mk o e=>
 cases o with
 | none=>
  rw[zK4 (show ¬NamedR nm L from fun ⟨p,r,h,_⟩=>by rw[hV] at h;cases h)];rw[hV] at hP;have he:=zDt hV;have q0:(e==0)=false:=by rcases he with rfl | rfl<;>rfl
  have q1:(e !=0)=true:=by rcases he with rfl | rfl<;>rfl
  have HP:=hide hP;generalize txt nm=SN at *;clear hP hV he hb1 hX hA hL hT hnm hvs HA HL;go_enter Tryz.func67,Tryz.ntmps67;go_wp2_with (go_at_call 120;fail);refine (HP.out _ HT.out).mono ?_;rintro ee w2 hpost;obtain⟨Ap,cp,vs,rfl,_,_,hb2⟩:=hpost.out;have HB2:=hTz HB hb2;clear hpost hb2 HB HT HP x0 HX;go_wp2;go_ret;exact⟨rfl,HB2.out⟩
 | some P=>
  obtain⟨rfl,hok⟩:=zDe hV;rw[hV] at hP;cases P with
  | nil=>
   rw[zK4 (show ¬NamedR nm L from fun ⟨p,r,h,_⟩=>by rw[hV] at h;simp at h)];have HP:=hide hP;generalize txt nm=SN at *;clear hP hV hb1 hX hA hL hT hnm hvs HA HL hok;go_enter Tryz.func67,Tryz.ntmps67;go_wp2_with (go_at_call 120;fail);refine (HP.out _ HT.out).mono ?_;rintro ee w2 hpost;obtain⟨Ap,cp,vs,rfl,_,_,hb2⟩:=hpost.out;have HB2:=hTz HB hb2;clear hpost hb2 HB HT HP x0 HX;go_wp2;go_ret;exact⟨rfl,HB2.out⟩
  | cons p r0=>
   have hpo:=hok.each p (by simp);obtain⟨R,hR⟩:∃R,Tr (NamedR nm L)=R:=⟨_,rfl⟩;rw[hR];have HR:Hid ((∀q∈p,HasE L q.1 q.2)↔R=true):=hide (by
    rw[<-hR,Tr_iff]
    constructor
    ·intro h
     exact⟨p,r0,hV,h⟩
    ·rintro ⟨p',r',h,h2⟩
     rw[hV] at h
     injection h with h _
     injection h with h
     injection h with h _
     subst h
     exact h2)
   have HC:=hide (fun q (hq:q∈p) w hA hL hT=>rhas_any nm L q.1 q.2 w A n c xs hA hL hn (by have:=(hpo.each q hq).small;omega) (by have:=(hpo.each q hq).small;omega) hvs hT);have HP:=hide hP;have hp3:=hpo.le;have hlen:0<(p::r0).length:=by simp
   obtain⟨m,hm⟩:∃m,(p::r0).length=m:=⟨_,rfl⟩;rw[hm] at hlen;have hm0:((m:Int)==0)=false:=beq_false_of_ne (by omega);have hmz:(0:Int)<(m:Int):=by omega
   have Hm:=hide hm;obtain⟨k,hk⟩:∃k,p.length=k:=⟨_,rfl⟩;have Hk:=hide hk;rw[hk] at hp3;clear hP hV hb1 hX hA hL hT hnm hvs hR hok hpo hm hk;generalize txt nm=SN at *;go_enter Tryz.func67,Tryz.ntmps67;go_wp2_with (go_at_call 120;fail);refine (HP.out _ HT.out).mono ?_;rintro ee w2 hpost;obtain⟨Ap,cp,vs,rfl,hvs2,hrw,hb2⟩:=hpost.out;simp only[Option.getD_some] at hvs2 hrw ⊢;rw[Hm.out] at hvs2 ⊢;obtain⟨g,o,rfl,hg,hcell⟩:=hvs2.lies (by have:=hvs2.1;omega);obtain⟨Aq,cq,hv0,hHp⟩:=hrw.each 0 p rfl;have y00:=hcell 0 _ hv0;rw[Nat.add_zero,Hk.out] at y00;rw[Hk.out] at hHp;have HB2:=hTz HB hb2;have HT2:=hide (HT.out.below hb2);have HA2:=hide ((HA.out.below hb2).upto hb2.size);have HL2:=hide (HL.out.grow hb2);have HX2:=hide (HX.out.grow hb2);have HHp:=hide hHp;clear hpost hb2 HB HT HP x0 HX HA HL hvs2 hrw hcell hv0 hHp;go_wp2
   go_loopg [23] k (fun r s23 wx=>∃i:Nat,i+r=k/\s23=.int .i64 (i:Int)/\Hid (∀q∈p.take i,HasE L q.1 q.2)/\Below w2.heap.size w2 wx)
   case atStart=>exact⟨0,by omega,rfl,hide fun q hq=>(by simp at hq),Below.refl _ _⟩
   case round=>
    obtain⟨i,hig,rfl,hpre,hbr⟩:=hrel;have hgr:g<wr.heap.size:=Nat.lt_of_lt_of_le hg hbr.size;cases gk with
    | zero=>
     obtain rfl:k=i:=by omega
     have hiz:¬((k:Int)<(k:Int)):=by omega
     have hR1:Hid (R=true):=hide (HR.out.1 (by
      have:=hpre.out
      rwa [List.take_of_length_le (by rw[Hk.out];exact Nat.le_refl _)] at this))
     have HE:=hTz HB2 hbr;clear hpre HA2 HL2 HT2 HX2 HR HC HHp hbr y00;go_wp2;go_ret;exact⟨by rw[hR1.out];rfl,HE.out⟩
    | succ r=>
     have hi:i<k:=(by omega);have hiz:(i:Int)<(k:Int):=(by omega);obtain⟨q,hq⟩:∃q,p[i]?=some q:=⟨_,List.getElem?_eq_getElem (by rw[Hk.out];exact hi)⟩;obtain⟨g2,o2,rfl,hg2,hrd⟩:=HHp.out.reads (fun h=>by rw[h] at hq;simp at hq);have hgr2:g2<wr.heap.size:=Nat.lt_of_lt_of_le hg2 hbr.size;have y0:=(hbr.cell (p:=⟨g,o,none⟩) hg).trans y00;have y1:=(hbr.cell (p:=⟨g2,o2+i*2,none⟩) hg2).trans (hrd.fst i q hq);have y2:=(hbr.cell (p:=⟨g2,o2+i*2+1,none⟩) hg2).trans (hrd.snd i q hq);have HXr:=hide (HX2.out.below HX2.out.lt hbr);have hcall:=HC.out q (List.mem_of_getElem? hq);have htk:p.take (i+1)=p.take i++[q]:=by rw[List.take_add_one,hq];rfl
     obtain⟨bq,hbq⟩:∃b,Tr (HasE L q.1 q.2)=b:=⟨_,rfl⟩;rw[hbq] at hcall;cases bq with
     | true=>
      have hnext:Hid (∀x∈p.take (i+1),HasE L x.1 x.2):=hide (by
       rw[htk]
       intro x hx
       rcases List.mem_append.1 hx with h | h
       ·exact hpre.out x h
       ·obtain rfl:=List.mem_singleton.1 h
        exact Tr_iff.1 hbq)
      generalize txt q.1=S1 at *;generalize txt q.2=S2 at *;clear hrd hq hbq htk hpre HR HC;go_wp2_with fail;refine zA0 (by kernel_rfl) ?_;have hdr:Below wr.heap.size wr wr.drew:=(Below.refl _ _).drew;have gd:g<wr.drew.heap.size:=hgr;have gd2:g2<wr.drew.heap.size:=hgr2;obtain⟨x5,x0,x1⟩:=HXr.out.grow hdr;have z0:=(hdr.cell (p:=⟨g,o,none⟩) hgr).trans y0;have z1:=(hdr.cell (p:=⟨g2,o2+i*2,none⟩) hgr2).trans y1;have z2:=(hdr.cell (p:=⟨g2,o2+i*2+1,none⟩) hgr2).trans y2;have HBd:=hide (hbr.trans (hdr.mono hbr.size));have HTd:=hide ((HT2.out.below hbr).below hdr);have HAd:=hide ((((HA2.out.below hbr).upto hbr.size).below hdr).upto hdr.size);have HLd:=hide ((HL2.out.grow hbr).grow hdr);clear hdr y0 y1 y2;generalize wr.drew=wd at *;refine zAa 0 (some 26) (v:=?vn0) rfl rfl (by kernel_rfl) rfl (by rfl) (fun W hW=>?yn0) ?_
      case yn0=>have h0:=(hW.cell (p:=⟨w.heap.size,0,none⟩) x5).trans x0;have h1:=(hW.cell (p:=⟨w.heap.size,1,none⟩) x5).trans x1;go_simp<;>with_reducible rfl
      simp only[pUz];refine yTk 1 (some 27) ?_;simp only[pUz];refine yTk 2 (some 28) ?_;simp only[pUz];refine zAa 3 (some 29) (v:=?vn3) rfl rfl (by kernel_rfl) rfl (by rfl) (fun W hW=>?yn3) ?_
      case yn3=>have h0:=(hW.cell (p:=⟨g,o,none⟩) gd).trans z0;go_simp<;>with_reducible rfl
      simp only[pUz];refine yTk 4 (some 30) ?_;simp only[pUz];refine yTk 5 (some 31) ?_;simp only[pUz];refine yTk 6 (some 32) ?_;simp only[pUz];refine zAa 7 (some 33) (v:=?vn7) rfl rfl (by kernel_rfl) rfl (by rfl) (fun W hW=>?yn7) ?_
      case yn7=>have h0:=(hW.cell (p:=⟨g2,o2+i*2,none⟩) gd2).trans z1;go_simp<;>with_reducible rfl
      simp only[pUz];refine yTk 8 (some 34) ?_;simp only[pUz];refine yTk 9 (some 35) ?_;simp only[pUz];refine zAa 10 (some 36) (v:=?vn10) rfl rfl (by kernel_rfl) rfl (by rfl) (fun W hW=>?yn10) ?_
      case yn10=>have h0:=(hW.cell (p:=⟨g,o,none⟩) gd).trans z0;go_simp<;>with_reducible rfl
      simp only[pUz];refine yTk 11 (some 37) ?_;simp only[pUz];refine yTk 12 (some 38) ?_;simp only[pUz];refine yTk 13 (some 39) ?_;simp only[pUz];refine zAa 14 (some 40) (v:=?vn14) rfl rfl (by kernel_rfl) rfl (by rfl) (fun W hW=>?yn14) ?_
      case yn14=>have h0:=(hW.cell (p:=⟨g2,o2+i*2+1,none⟩) gd2).trans z2;go_simp<;>with_reducible rfl
      simp only[pUz];refine zAd 15 rfl (by kernel_rfl) (fun K hK=>?_);go_simp;refine (hcall _ HAd.out HLd.out HTd.out).mono ?_;rintro e w5 ⟨rfl,hb5⟩;refine hK.out _ _ hb5 ?_;have HB5:=hTz HBd hb5;clear hK K hb5 HBd HTd HAd HLd hcall;(try simp only[pUz]);refine yTk 16 (some 42) ?_;simp only[pUz];refine zAj (by kernel_rfl) ?_ _;go_wp2
      go_roundg r
      case measure=>omega
      case rel=>exact⟨i+1,by omega,by go_num,hnext,HB5.out⟩
     | false=>
      have hR1:Hid (R=false):=hide (by
       cases hR:R with
       | false=>rfl
       | true=>
        have:=HR.out.2 hR q (List.mem_of_getElem? hq)
        rw[zGz this] at hbq
        cases hbq)
      generalize txt q.1=S1 at *;generalize txt q.2=S2 at *;clear hrd hq hbq htk hpre HR HC;go_wp2_with fail;refine zA0 (by kernel_rfl) ?_;have hdr:Below wr.heap.size wr wr.drew:=(Below.refl _ _).drew;have gd:g<wr.drew.heap.size:=hgr;have gd2:g2<wr.drew.heap.size:=hgr2;obtain⟨x5,x0,x1⟩:=HXr.out.grow hdr;have z0:=(hdr.cell (p:=⟨g,o,none⟩) hgr).trans y0;have z1:=(hdr.cell (p:=⟨g2,o2+i*2,none⟩) hgr2).trans y1;have z2:=(hdr.cell (p:=⟨g2,o2+i*2+1,none⟩) hgr2).trans y2;have HBd:=hide (hbr.trans (hdr.mono hbr.size));have HTd:=hide ((HT2.out.below hbr).below hdr);have HAd:=hide ((((HA2.out.below hbr).upto hbr.size).below hdr).upto hdr.size);have HLd:=hide ((HL2.out.grow hbr).grow hdr);clear hdr y0 y1 y2;generalize wr.drew=wd at *;refine zAa 0 (some 26) (v:=?vm0) rfl rfl (by kernel_rfl) rfl (by rfl) (fun W hW=>?ym0) ?_
      case ym0=>have h0:=(hW.cell (p:=⟨w.heap.size,0,none⟩) x5).trans x0;have h1:=(hW.cell (p:=⟨w.heap.size,1,none⟩) x5).trans x1;go_simp<;>with_reducible rfl
      simp only[pUz];refine yTk 1 (some 27) ?_;simp only[pUz];refine yTk 2 (some 28) ?_;simp only[pUz];refine zAa 3 (some 29) (v:=?vm3) rfl rfl (by kernel_rfl) rfl (by rfl) (fun W hW=>?ym3) ?_
      case ym3=>have h0:=(hW.cell (p:=⟨g,o,none⟩) gd).trans z0;go_simp<;>with_reducible rfl
      simp only[pUz];refine yTk 4 (some 30) ?_;simp only[pUz];refine yTk 5 (some 31) ?_;simp only[pUz];refine yTk 6 (some 32) ?_;simp only[pUz];refine zAa 7 (some 33) (v:=?vm7) rfl rfl (by kernel_rfl) rfl (by rfl) (fun W hW=>?ym7) ?_
      case ym7=>have h0:=(hW.cell (p:=⟨g2,o2+i*2,none⟩) gd2).trans z1;go_simp<;>with_reducible rfl
      simp only[pUz];refine yTk 8 (some 34) ?_;simp only[pUz];refine yTk 9 (some 35) ?_;simp only[pUz];refine zAa 10 (some 36) (v:=?vm10) rfl rfl (by kernel_rfl) rfl (by rfl) (fun W hW=>?ym10) ?_
      case ym10=>have h0:=(hW.cell (p:=⟨g,o,none⟩) gd).trans z0;go_simp<;>with_reducible rfl
      simp only[pUz];refine yTk 11 (some 37) ?_;simp only[pUz];refine yTk 12 (some 38) ?_;simp only[pUz];refine yTk 13 (some 39) ?_;simp only[pUz];refine zAa 14 (some 40) (v:=?vm14) rfl rfl (by kernel_rfl) rfl (by rfl) (fun W hW=>?ym14) ?_
      case ym14=>have h0:=(hW.cell (p:=⟨g2,o2+i*2+1,none⟩) gd2).trans z2;go_simp<;>with_reducible rfl
      simp only[pUz];refine zAd 15 rfl (by kernel_rfl) (fun K hK=>?_);go_simp;refine (hcall _ HAd.out HLd.out HTd.out).mono ?_;rintro e w5 ⟨rfl,hb5⟩;refine hK.out _ _ hb5 ?_;have HB5:=hTz HBd hb5;clear hK K hb5 HBd HTd HAd HLd hcall;(try simp only[pUz]);refine yTk 16 (some 42) ?_;simp only[pUz];refine zAj (by kernel_rfl) ?_ _;have HE:=hide (HB2.out.trans (HB5.out.mono HB2.out.size));clear HB2;go_wp2;go_ret;exact⟨by rw[hR1.out];rfl,HE.out⟩
open Go Go.RowKit
end Go.Proofs.YtajkmiialgiikaaGreatDoor
