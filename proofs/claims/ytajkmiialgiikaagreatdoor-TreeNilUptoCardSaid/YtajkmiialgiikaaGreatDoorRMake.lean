/- The reference's Make: any name and attributes make the entry, or its code. By an AI agent. -/
import Derived.Test.YtajkmiialgiikaaGreatDoorDW
set_option linter.unusedSimpArgs false
set_option linter.unusedVariables false
set_option maxRecDepth 100000
set_option maxHeartbeats 64000000
namespace Go.Proofs.YtajkmiialgiikaaGreatDoor
open Go Go.RowKit
theorem zN6 (s:List UInt8) (L:List EA) (w:World) (A:Option Addr) (n c:Nat) (xs:List Value) (hA:Has w w.heap.size 2 A n xs) (hL:EAs w w.heap.size xs L) (hT:TM w) (hs:s.length<=1000000) (hn:n<=900000)
  (hts:∀a∈L,a.1.length<=1048576) (hvs:∀a∈L,∀v∈a.2,v.length<=1000000) (hcnt:cntE L<=900000):
  Calls Tryz.prog 79 #[.string (txt s),.slice A n c] w (RMadePost (makeE s L).1 (makeE s L).2.1 (makeE s L).2.2 w):=by
 have hnl:=hA.eas_n hL;have hb1:=below1 w (.cells #[.string ⟨#[]⟩,.slice none 0 0] 38);have hX:Blk (w.alloc (.cells #[.string ⟨#[]⟩,.slice none 0 0] 38)) w.heap.size [.string ⟨#[]⟩,.slice none 0 0]:=Blk.new w [.string ⟨#[]⟩,.slice none 0 0] 38;obtain⟨w1,hw1⟩:∃w1,w.alloc (.cells #[.string ⟨#[]⟩,.slice none 0 0] 38)=w1:=⟨_,rfl⟩;have hs1:w1.heap.size=w.heap.size+1:=by rw[<-hw1];simp
 rw[hw1] at hb1 hX;have HN:=hide (zBa s hs w1 (hT.below hb1));have HX:=hide hX;have HB1:=hide hb1;have HA:=hide hA;have HL:=hide hL;have HT:=hide hT;have Hw1:=hide hw1;have Hn:=hide hnl;have Hts:=hide hts;have Hvs:=hide hvs;have Hcnt:=hide hcnt;clear hA hL hT hX hb1 hw1 hts hvs hcnt hnl hs1
 suffices H:Calls Tryz.prog 79 #[.string (txt s),.slice A n c] w fun e w'=>Hid (RMadePost (makeE s L).1 (makeE s L).2.1 (makeE s L).2.2 w e w') from H.mono fun e w' h=>h.out
 obtain⟨S,hS⟩:∃S,txt s=S:=⟨_,rfl⟩;rw[hS] at HN;rw[hS];clear hS;by_cases hbad:(normT s).2≠0\/(normT s).1=[]
 ·have hmk:makeE s L=([],[],34):=by unfold makeE;rw[if_pos hbad]
  rw[hmk];clear hmk;obtain⟨x,hx⟩:∃x,(normT s).1=x:=⟨_,rfl⟩;obtain⟨y,hy⟩:∃y,(normT s).2=y:=⟨_,rfl⟩;rw[hx,hy] at HN hbad;clear hx hy HA HL HT;by_cases hy0:y=0
  ·have hxe:x=[]:=by
    rcases hbad with h | h
    ·exact absurd hy0 h
    ·exact h
   have q1:((txt x).toList==[])=true:=by rw[toeq,hxe];rfl
   subst hy0;clear hbad hxe;generalize txt x=NT at *;go_enter Tryz.func79,Tryz.ntmps79;go_upto_region 1 with fail;rw[Hw1.out];obtain⟨q,hq⟩:∃q,w.heap.size=q:=⟨_,rfl⟩;rw[hq] at HX;(try rw[hq]);have Hq:=hide hq;clear hq;go_wp2_with (go_at_call 46;fail);refine HN.out.mono ?_;rintro e w2 ⟨rfl,hb2⟩;have HX2:=hide (HX.out.grow hb2);have HB2:=hTz HB1 hb2;clear hb2 HN HX HB1;have z0:=HX2.out.cells 0 _ rfl;have z1:=HX2.out.cells 1 _ rfl;have hf:=HX2.out.fz;go_wp2
   (try simp only[Exit.inBlock,Exit.then])
   refine bodyPost_ret (v:=.tuple #[.agg #[.string ⟨#[]⟩,.slice none 0 0],.int .i64 34]) ?_ rfl ?_
   ·rw [results_cell_tmp rfl];go_simp
   exact hide (zAz rfl ((HB2.out.setCell (p:=⟨q,0,none⟩) (by rw[Hq.out];exact Nat.le_refl _) _).setCell (p:=⟨q,1,none⟩) (by rw[Hq.out];exact Nat.le_refl _) _))
  ·have q0:(y==0)=false:=beq_false_of_ne hy0;have q1:(y !=0)=true:=by unfold bne;rw[q0];rfl
   clear hbad;generalize txt x=NT at *;go_enter Tryz.func79,Tryz.ntmps79;go_upto_region 1 with fail;rw[Hw1.out];obtain⟨q,hq⟩:∃q,w.heap.size=q:=⟨_,rfl⟩;rw[hq] at HX;(try rw[hq]);have Hq:=hide hq;clear hq;go_wp2_with (go_at_call 46;fail);refine HN.out.mono ?_;rintro e w2 ⟨rfl,hb2⟩;have HX2:=hide (HX.out.grow hb2);have HB2:=hTz HB1 hb2;clear hb2 HN HX HB1;have z0:=HX2.out.cells 0 _ rfl;have z1:=HX2.out.cells 1 _ rfl;have hf:=HX2.out.fz;go_wp2
   (try simp only[Exit.inBlock,Exit.then])
   refine bodyPost_ret (v:=.tuple #[.agg #[.string ⟨#[]⟩,.slice none 0 0],.int .i64 34]) ?_ rfl ?_
   ·rw [results_cell_tmp rfl];go_simp
   exact hide (zAz rfl ((HB2.out.setCell (p:=⟨q,0,none⟩) (by rw[Hq.out];exact Nat.le_refl _) _).setCell (p:=⟨q,1,none⟩) (by rw[Hq.out];exact Nat.le_refl _) _))
 ·have h0:(normT s).2=0:=by
   by_cases q:(normT s).2=0
   ·exact q
   ·exact absurd (.inl q) hbad
  have h1:(normT s).1≠[]:=fun q=>hbad (.inr q)
  obtain⟨nm,hnm⟩:∃nm,(normT s).1=nm:=⟨_,rfl⟩;have hnlen:=(zBg h0).2;rw[hnm] at h1 hnlen;rw[h0,hnm] at HN;obtain⟨G,g,hG⟩:∃G g,gatherE [] L=(G,g):=⟨_,_,rfl⟩;have hmk:makeE s L=if g≠0 then ([],[],g) else if endE nm G 64≠0 then ([],[],endE nm G 64) else (nm,G,0):=by unfold makeE;rw[if_neg hbad,hnm,hG]
  obtain⟨RM,hRM⟩:∃RM,makeE s L=RM:=⟨_,rfl⟩;rw[hRM] at hmk ⊢;have Hmk:=hide hmk;have HG:=hide hG;have Hnl:=hide hnlen;have q1:((txt nm).toList==[])=false:=by rw[toeq];simpa using h1
  clear hmk h0 h1 hbad hG hnm hRM hnlen;obtain⟨NT,hNT⟩:∃NT,txt nm=NT:=⟨_,rfl⟩;have HNT:=hide hNT;rw[hNT] at HN q1;clear hNT;go_enter Tryz.func79,Tryz.ntmps79;go_upto_region 1 with fail;rw[Hw1.out];obtain⟨q,hq⟩:∃q,w.heap.size=q:=⟨_,rfl⟩;rw[hq] at HX;(try rw[hq]);have Hq:=hide hq;clear hq;go_wp2_with (go_at_call 46;fail);refine HN.out.mono ?_;rintro e w2 ⟨rfl,hb2⟩;have HX2:=hide (HX.out.grow hb2);have HB2:=hTz HB1 hb2;clear hb2 HN HX HB1;have hbx:=below1 w2 (.cells #[.string NT,.slice none 0 0] 38);have hBx:Blk (w2.alloc (.cells #[.string NT,.slice none 0 0] 38)) w2.heap.size [.string NT,.slice none 0 0]:=Blk.new w2 [.string NT,.slice none 0 0] 38;have hres3:=HX2.out.grow hbx;have hqlt:=HX2.out.lt;obtain⟨w3,hw3⟩:∃w3,w2.alloc (.cells #[.string NT,.slice none 0 0] 38)=w3:=⟨_,rfl⟩;rw[hw3] at hbx hBx hres3;have Hw3:=hide hw3;have hq0:=Hq.out;have hC3:MkC w w3 q w2.heap.size NT none 0 0 [] []:=⟨HB2.out.trans (hbx.mono HB2.out.size),⟨by omega,by omega,by omega⟩,hres3,hBx,⟨Nat.le_refl _,by unfold maxLen;omega⟩,HasP.nil,EAsP.nil⟩;have HC3:=hide hC3;clear hbx hBx hres3 hqlt hw3 hq0 hC3;go_upto_region 5 with fail;rw[Hw3.out];obtain⟨h,hh⟩:∃h,w2.heap.size=h:=⟨_,rfl⟩;rw[hh] at HC3;(try rw[hh]);clear hh Hw3 HX2 HB2;go_wp2
  go_loopg [33] n (fun r s33 wx=>∃(i:Nat) (Ae:Option Addr) (ne ce:Nat) (ys:List Value) (acc:List EA),i+r=n/\s33=.int .i64 (i:Int)/\Hid (gatherE acc (L.drop i)=(G,g))/\Hid (MkC w wx q h NT Ae ne ce ys acc)/\Hid (WideA acc (cntE (L.take i)) i))
  case atStart=>exact⟨0,none,0,0,[],[],by omega,rfl,hide (by rw[List.drop_zero];exact HG.out),HC3,hide ⟨by simp,fun a ha=>(by cases ha)⟩⟩
  case round=>
   obtain⟨i,Ae,ne,ce,ys,acc,hig,rfl,hG,HCr,HWd⟩:=hrel;clear HG HC3;cases gk with
   | zero=>
    obtain rfl:i=n:=by omega
    have hiz:¬((i:Int)<(i:Int)):=(by omega);have hGe:=hG.out;rw[List.drop_eq_nil_of_le (by rw[<-Hn.out];exact Nat.le_refl _)] at hGe;unfold gatherE at hGe;obtain⟨rfl,rfl⟩:=Prod.mk.inj hGe;have hcn:cntE (L.take i)<=900000:=Nat.le_trans (zL7 L i) Hcnt.out;have hw9:∀a∈acc,a.2.length<=1000000/\∀u∈a.2,u.length<=1000000:=fun a ha=>⟨Nat.le_trans (HWd.out.each a ha).1 (by omega),(HWd.out.each a ha).2⟩
    have hne:ne<=1000000:=(by rw[HCr.out.reads.2.2];exact Nat.le_trans HWd.out.len (by omega));have hmk:=Hmk.out;rw[if_neg (by simp)] at hmk;have hMy:∀w,Has w w.heap.size 2 Ae ne ys->EAs w w.heap.size ys acc->Calls Tryz.prog 129 #[.agg #[.string NT,.slice Ae ne ce]] w fun e w'=>e=.returned (.bool (Tr (∃a∈acc,20<a.2.length)))/\Below w.heap.size w w':=fun w hA hL=>zQb NT acc w Ae ne ce ys hA hL (by omega) (fun a ha=>by have:=(hw9 a ha).1;omega)
    have hVl:∀w,Has w w.heap.size 2 Ae ne ys->EAs w w.heap.size ys acc->Calls Tryz.prog 66 #[.agg #[.string NT,.slice Ae ne ce],.string ⟨#[111,98,106,101,99,116,67,108,97,115,115]⟩] w (ValsPost (pickE acc clsT) w):=fun w hA hL=>by
     have:=zFp nm acc clsT w Ae ne ce ys hA hL hne (by decide) (fun a ha=>(hw9 a ha).1);rw[zKh,HNT.out] at this;exact this
    have hNm:∀w,Has w w.heap.size 2 Ae ne ys->EAs w w.heap.size ys acc->TM w->Calls Tryz.prog 67 #[.agg #[.string NT,.slice Ae ne ce]] w fun e w'=>e=.returned (.bool (Tr (NamedR nm acc)))/\Below w.heap.size w w':=fun w hA hL hT=>by
     have:=zNg nm acc w Ae ne ce ys hA hL hne (by have:=Hnl.out;omega) hw9 hT;rw[HNT.out] at this;exact this
    have b0:=HCr.out.box.cells 0 _ rfl;have b1:=HCr.out.box.cells 1 _ rfl;by_cases hm:∃a∈acc,20<a.2.length
    ·have hE:endE nm acc 64=19:=by unfold endE;rw[if_pos hm]
     rw[hE,if_pos (by decide)] at hmk;rw[zGz hm] at hMy;have HRm:=hide hmk;have HMy:=hide hMy;clear hMy hVl hNm hm hE hmk hcn hw9 hne hGe hG Hmk HA HL Hts Hvs Hcnt HWd;go_wp2_with (go_at_call 129;fail);refine (HMy.out _ HCr.out.reads.1 HCr.out.reads.2.1).mono ?_;rintro e w4 ⟨rfl,hb4⟩;have HC4:=hide (HCr.out.grow hb4);clear hb4 HMy HCr b0 b1;have z0:=HC4.out.res.cells 0 _ rfl;have z1:=HC4.out.res.cells 1 _ rfl;have hf:=HC4.out.res.fz;have HBe:=hide HC4.out.base;clear HT HC4;go_wp2
     (try simp only[Exit.inBlock,Exit.then])
     refine bodyPost_ret (v:=.tuple #[.agg #[.string ⟨#[]⟩,.slice none 0 0],.int .i64 19]) ?_ rfl ?_
     ·rw [results_cell_tmp rfl];go_simp
     exact hide (by rw[HRm.out];exact zAz rfl ((HBe.out.setCell (p:=⟨q,0,none⟩) (by rw[Hq.out];exact Nat.le_refl _) _).setCell (p:=⟨q,1,none⟩) (by rw[Hq.out];exact Nat.le_refl _) _))
    ·rw [zK4 hm] at hMy;by_cases hk:pickE acc clsT=[]
     ·have hE:endE nm acc 64=65:=by unfold endE;rw[if_neg hm,if_pos hk]
      rw[hE,if_pos (by decide)] at hmk;rw[hk] at hVl;have HRm:=hide hmk;have HMy:=hide hMy;have HVl:=hide hVl;clear hMy hVl hNm hm hk hE hmk hcn hw9 hne hGe hG Hmk HA HL Hts Hvs Hcnt HWd;go_wp2_with (go_at_call 129;fail);refine (HMy.out _ HCr.out.reads.1 HCr.out.reads.2.1).mono ?_;rintro e w4 ⟨rfl,hb4⟩;have HC4:=hide (HCr.out.grow hb4);clear hb4 HMy HCr b0 b1;have b0:=HC4.out.box.cells 0 _ rfl;have b1:=HC4.out.box.cells 1 _ rfl;go_wp2_with (go_at_call 66;fail);refine (HVl.out _ HC4.out.reads.1 HC4.out.reads.2.1).mono ?_;rintro e w5 hpost;obtain⟨v5,rfl,hown5,hb5⟩:=hpost.out;obtain⟨A5,c5,rfl,_,_⟩:=zAh hown5;have HC5:=hide (HC4.out.grow hb5);clear hpost hown5 hb5 HVl HC4 b0 b1;simp only[List.length_nil];have z0:=HC5.out.res.cells 0 _ rfl;have z1:=HC5.out.res.cells 1 _ rfl;have hf:=HC5.out.res.fz;have HBe:=hide HC5.out.base;clear HT HC5;go_wp2
      (try simp only[Exit.inBlock,Exit.then])
      refine bodyPost_ret (v:=.tuple #[.agg #[.string ⟨#[]⟩,.slice none 0 0],.int .i64 65]) ?_ rfl ?_
      ·rw [results_cell_tmp rfl];go_simp
      exact hide (by rw[HRm.out];exact zAz rfl ((HBe.out.setCell (p:=⟨q,0,none⟩) (by rw[Hq.out];exact Nat.le_refl _) _).setCell (p:=⟨q,1,none⟩) (by rw[Hq.out];exact Nat.le_refl _) _))
     ·obtain ⟨kc,hkc⟩:∃kc,(pickE acc clsT).length=kc+1:=⟨(pickE acc clsT).length-1,by have:=List.length_pos_iff.2 hk;omega⟩;have hkz:(((kc+1:Nat):Int)==0)=false:=beq_false_of_ne (by omega);have hkz2:¬(((kc+1:Nat):Int))=0:=by omega
      have Hkc:=hide hkc;by_cases hr:NamedR nm acc
      ·have hE:endE nm acc 64=0:=by unfold endE;rw[if_neg hm,if_neg hk,if_pos hr]
       rw[hE,if_neg (by simp)] at hmk;rw[zGz hr] at hNm;have HRm:=hide hmk;have HMy:=hide hMy;have HVl:=hide hVl;have HNm:=hide hNm;clear hMy hVl hNm hm hk hr hE hmk hcn hw9 hne hGe hG Hmk HA HL Hts Hvs Hcnt HWd hkc;go_wp2_with (go_at_call 129;fail);refine (HMy.out _ HCr.out.reads.1 HCr.out.reads.2.1).mono ?_;rintro e w4 ⟨rfl,hb4⟩;have HC4:=hide (HCr.out.grow hb4);clear hb4 HMy HCr b0 b1;have b0:=HC4.out.box.cells 0 _ rfl;have b1:=HC4.out.box.cells 1 _ rfl;go_wp2_with (go_at_call 66;fail);refine (HVl.out _ HC4.out.reads.1 HC4.out.reads.2.1).mono ?_;rintro e w5 hpost;obtain⟨v5,rfl,hown5,hb5⟩:=hpost.out;obtain⟨A5,c5,rfl,_,_⟩:=zAh hown5;have HC5:=hide (HC4.out.grow hb5);clear hpost hown5 hb5 HVl HC4 b0 b1;rw[Hkc.out];have b0:=HC5.out.box.cells 0 _ rfl;have b1:=HC5.out.box.cells 1 _ rfl;go_wp2_with (go_at_call 67;fail);refine (HNm.out _ HC5.out.reads.1 HC5.out.reads.2.1 (HT.out.below HC5.out.base)).mono ?_;rintro e w6 ⟨rfl,hb6⟩;have HC6:=hide (HC5.out.grow hb6);clear hb6 HNm HC5 b0 b1;have z0:=HC6.out.res.cells 0 _ rfl;have z1:=HC6.out.res.cells 1 _ rfl;have hf:=HC6.out.res.fz;have b0:=HC6.out.box.cells 0 _ rfl;have b1:=HC6.out.box.cells 1 _ rfl;go_wp2
       (try simp only[Exit.inBlock,Exit.then])
       refine bodyPost_ret (v:=.tuple #[.agg #[.string NT,.slice Ae ne ce],.int .i64 0]) ?_ rfl ?_
       ·rw [results_cell_tmp rfl];go_simp
       have hszz:((w6.setCell ⟨q,0,none⟩ (.string NT)).setCell ⟨q,1,none⟩ (.slice Ae ne ce)).heap.size=w6.heap.size:=(by simp[World.setCell]);have far:∀p:Addr,Qb q h w6 p.block->((w6.setCell ⟨q,0,none⟩ (.string NT)).setCell ⟨q,1,none⟩ (.slice Ae ne ce)).cell? p=w6.cell? p:=fun p hp=>by
        have hne:q≠p.block:=hp.2.1.symm;rw[World.cell?_setCell_far _ _ _ _ hne,World.cell?_setCell_far _ _ _ _ hne]
       have hlen:=HC6.out.reads.2.2;have e1:=(HC6.out.has.move (P':=fun b=>b<w6.heap.size) far fun b hb=>hb.1).has (B:=w6.heap.size) fun b hb=>hb
       have e2:=(HC6.out.attrs.move (P':=fun b=>b<w6.heap.size) far fun b hb=>hb.1).eas (B:=w6.heap.size) fun b hb=>hb
       have hcap:=HC6.out.cap;refine hide ?_;rw[HRm.out];subst hlen;exact⟨⟨Ae,ce,ys,by rw[HNT.out],hcap.1,hcap.2,by rw[hszz];exact e1,by rw[hszz];exact e2,(HC6.out.base.setCell (p:=⟨q,0,none⟩) (by rw[Hq.out];exact Nat.le_refl _) _).setCell (p:=⟨q,1,none⟩) (by rw[Hq.out];exact Nat.le_refl _) _⟩⟩
      ·have hE:endE nm acc 64=64:=by unfold endE;rw[if_neg hm,if_neg hk,if_neg hr]
       rw[hE,if_pos (by decide)] at hmk;rw[zK4 hr] at hNm;have HRm:=hide hmk;have HMy:=hide hMy;have HVl:=hide hVl;have HNm:=hide hNm;clear hMy hVl hNm hm hk hr hE hmk hcn hw9 hne hGe hG Hmk HA HL Hts Hvs Hcnt HWd hkc;go_wp2_with (go_at_call 129;fail);refine (HMy.out _ HCr.out.reads.1 HCr.out.reads.2.1).mono ?_;rintro e w4 ⟨rfl,hb4⟩;have HC4:=hide (HCr.out.grow hb4);clear hb4 HMy HCr b0 b1;have b0:=HC4.out.box.cells 0 _ rfl;have b1:=HC4.out.box.cells 1 _ rfl;go_wp2_with (go_at_call 66;fail);refine (HVl.out _ HC4.out.reads.1 HC4.out.reads.2.1).mono ?_;rintro e w5 hpost;obtain⟨v5,rfl,hown5,hb5⟩:=hpost.out;obtain⟨A5,c5,rfl,_,_⟩:=zAh hown5;have HC5:=hide (HC4.out.grow hb5);clear hpost hown5 hb5 HVl HC4 b0 b1;rw[Hkc.out];have b0:=HC5.out.box.cells 0 _ rfl;have b1:=HC5.out.box.cells 1 _ rfl;go_wp2_with (go_at_call 67;fail);refine (HNm.out _ HC5.out.reads.1 HC5.out.reads.2.1 (HT.out.below HC5.out.base)).mono ?_;rintro e w6 ⟨rfl,hb6⟩;have HC6:=hide (HC5.out.grow hb6);clear hb6 HNm HC5 b0 b1;have z0:=HC6.out.res.cells 0 _ rfl;have z1:=HC6.out.res.cells 1 _ rfl;have hf:=HC6.out.res.fz;have HBe:=hide HC6.out.base;clear HT HC6;go_wp2
       (try simp only[Exit.inBlock,Exit.then])
       refine bodyPost_ret (v:=.tuple #[.agg #[.string ⟨#[]⟩,.slice none 0 0],.int .i64 64]) ?_ rfl ?_
       ·rw [results_cell_tmp rfl];go_simp
       exact hide (by rw[HRm.out];exact zAz rfl ((HBe.out.setCell (p:=⟨q,0,none⟩) (by rw[Hq.out];exact Nat.le_refl _) _).setCell (p:=⟨q,1,none⟩) (by rw[Hq.out];exact Nat.le_refl _) _))
   | succ r=>
    have hi:i<n:=(by omega);have hiz:(i:Int)<(n:Int):=(by omega);obtain⟨a,ha⟩:∃a,L[i]?=some a:=⟨_,List.getElem?_eq_getElem (by rw[<-Hn.out];exact hi)⟩;have ham:=List.mem_of_getElem? ha;have hdrop:L.drop i=a::L.drop (i+1):=by obtain⟨h1,h2⟩:=List.getElem?_eq_some_iff.1 ha;rw[List.drop_eq_getElem_cons h1,h2]
    have hGi:=hG.out;rw[hdrop] at hGi;unfold gatherE at hGi;obtain⟨ga,o,hAe,hga,hat⟩:=HA.out.ea HL.out (fun h=>by rw[h] at ha;simp at ha);subst hAe;obtain⟨V,cv,hat⟩:=hat i a ha;have hcn:=zL9 ha;have hcle:cntE (L.take (i+1))<=900000:=Nat.le_trans (zL7 L (i+1)) Hcnt.out;obtain⟨k,hk⟩:∃k,a.2.length=k:=⟨_,rfl⟩;rw[hk] at hcn;have hk9:k<=900000:=by omega
    obtain⟨TA,hTA⟩:∃TA,txt a.1=TA:=⟨_,rfl⟩;have He:Hid (∀W,Below w.heap.size w W->W.cell? ⟨ga,o+i*2,none⟩=some (.string TA)/\W.cell? ⟨ga,o+i*2+1,none⟩=some (.slice V k cv)):=hide fun W hW=>by
     rw[<-hTA,<-hk];exact⟨(hW.cell (p:=⟨ga,o+i*2,none⟩) hga).trans hat.e0,(hW.cell (p:=⟨ga,o+i*2+1,none⟩) hga).trans hat.e1⟩
    have HVv:Hid (Has w w.heap.size 1 V k (strs a.2)):=hide (by rw[<-hk];exact hat.has);have hTy:=fun w=>zBz (txt a.1) (by rw[zAg];have:=Hts.out a ham;omega) w
    simp only[zAi] at hTy;rw[hTA] at hTy;have Hva:=hide (Hvs.out a ham);have Hk:=hide hk;have Hcn:=hide hcn;have Hcle:=hide hcle;have hmk:=Hmk.out;have e0:=(He.out wr HCr.out.base).1;have e1:=(He.out wr HCr.out.base).2;clear hat ham ha hdrop hG hTA hcn hcle;by_cases ht0:(typ a.1).2=0
    ·rw [if_pos ht0] at hGi;have hti:(typ a.1).1=[]:=(zHr a.1).1 ht0;rw[hti] at hTy;obtain⟨rfl,rfl⟩:=Prod.mk.inj hGi;rw[if_pos (by decide)] at hmk;have q2:((txt []).toList==[])=true:=by rw[toeq];rfl
     have HTy:=hide hTy;have HRm:=hide hmk;generalize txt []=X0 at *;generalize (typ a.1).2=ty at *;clear hTy hGi ht0 hti hmk Hmk HA HL Hts Hvs Hcnt HWd Hva Hk Hcn Hcle HVv;go_wp2_with (go_at_call 118;fail);refine (HTy.out _).mono ?_;rintro e w4 ⟨rfl,hb4⟩;have HC4:=hide (HCr.out.grow hb4);clear hb4 HTy HCr e0 e1 He;have z0:=HC4.out.res.cells 0 _ rfl;have z1:=HC4.out.res.cells 1 _ rfl;have hf:=HC4.out.res.fz;have HBe:=hide HC4.out.base;clear HT HC4;go_wp2
     (try simp only[Exit.inBlock,Exit.then])
     refine bodyPost_ret (v:=.tuple #[.agg #[.string ⟨#[]⟩,.slice none 0 0],.int .i64 17]) ?_ rfl ?_
     ·rw [results_cell_tmp rfl];go_simp
     exact hide (by rw[HRm.out];exact zAz rfl ((HBe.out.setCell (p:=⟨q,0,none⟩) (by rw[Hq.out];exact Nat.le_refl _) _).setCell (p:=⟨q,1,none⟩) (by rw[Hq.out];exact Nat.le_refl _) _))
    ·rw [if_neg ht0] at hGi;obtain⟨htt,htn⟩:=zNw ht0;have hvt:=zJy ht0 acc;obtain⟨t,ht⟩:∃t,(typ a.1).1=t:=⟨_,rfl⟩;have htl:t.length<=20:=by rw[<-ht];exact zFf a.1
     rw[ht] at hTy htn hvt hGi;obtain⟨ty,hty⟩:∃ty,(typ a.1).2=ty:=⟨_,rfl⟩;rw[hty] at hTy;clear hty ht htt ht0;have q2:((txt t).toList==[])=false:=by rw[toeq];simpa using htn
     obtain⟨TT1,hTT⟩:∃x,txt t=x:=⟨_,rfl⟩;have HTT:=hide hTT;rw[hTT] at hTy q2;have HTy:=hide hTy;clear hTy htn hTT;by_cases hv0:a.2=[]
     ·rw [if_pos hv0] at hGi;obtain⟨rfl,rfl⟩:=Prod.mk.inj hGi;rw[if_pos (by decide)] at hmk;have hk0:k=0:=by rw[<-Hk.out,hv0];rfl
      subst hk0;have HRm:=hide hmk;clear hGi hv0 hmk Hmk HA HL Hts Hvs Hcnt HWd Hva Hcn Hcle HVv hvt Hk;go_wp2_with (go_at_call 118;fail);refine (HTy.out _).mono ?_;rintro e w4 ⟨rfl,hb4⟩;have HC4:=hide (HCr.out.grow hb4);have e1:=(He.out w4 HC4.out.base).2;clear hb4 HTy HCr e0 He;have z0:=HC4.out.res.cells 0 _ rfl;have z1:=HC4.out.res.cells 1 _ rfl;have hf:=HC4.out.res.fz;have HBe:=hide HC4.out.base;clear HT HC4;go_wp2
      (try simp only[Exit.inBlock,Exit.then])
      refine bodyPost_ret (v:=.tuple #[.agg #[.string ⟨#[]⟩,.slice none 0 0],.int .i64 19]) ?_ rfl ?_
      ·rw [results_cell_tmp rfl];go_simp
      exact hide (by rw[HRm.out];exact zAz rfl ((HBe.out.setCell (p:=⟨q,0,none⟩) (by rw[Hq.out];exact Nat.le_refl _) _).setCell (p:=⟨q,1,none⟩) (by rw[Hq.out];exact Nat.le_refl _) _))
     ·rw [if_neg hv0] at hGi;have hkp:k≠0:=fun h=>hv0 (List.eq_nil_of_length_eq_zero (by rw[Hk.out];exact h))
      have kz:((k:Int)==0)=false:=beq_false_of_ne (by omega);have kz2:¬(k:Int)=0:=by omega
      have hne:ne<=1000000:=(by rw[HCr.out.reads.2.2];exact Nat.le_trans HWd.out.len (by omega));have hpk:=HWd.out.pick t;have hVl:∀w,Has w w.heap.size 2 Ae ne ys->EAs w w.heap.size ys acc->Calls Tryz.prog 66 #[.agg #[.string NT,.slice Ae ne ce],.string TT1] w (ValsPost (pickE acc t) w):=fun w hA hL=>by
       have:=zFp nm acc t w Ae ne ce ys hA hL hne (by omega) (fun a ha=>by have:=(HWd.out.each a ha).1;have:=Hcle.out;have:=Hcn.out;omega);rw[hvt,HNT.out,HTT.out] at this;exact this
      have HVl:=hide hVl;have hVa:∀v:List UInt8,v.length<=1000000->∀w,TM w->Calls Tryz.prog 71 #[.string TT1,.string (txt v)] w fun e w'=>e=.returned (.tuple #[.string (txt (valV t v).1),.int .i64 (valV t v).2])/\Below w.heap.size w w':=fun v hv w hT=>by
       have:=zD3 t v (by omega) hv w hT;rw[HTT.out] at this;exact this
      have hWi:∀(v:List UInt8) (l:List (List UInt8)),v.length<=1000000->l.length<=1000000->(∀u∈l,u.length<=1000000)->∀(w:World) (B:Option Addr) (cB:Nat),Has w w.heap.size 1 B l.length (strs l)->TM w->Calls Tryz.prog 123 #[.string TT1,.slice B l.length cB,.string (txt v)] w fun e w'=>e=.returned (.bool (Tr (WithinV t l v)))/\Below w.heap.size w w':=fun v l hv hl hu w B cB hB hT=>by
       have:=zFv t v l w B l.length cB hB hl (by omega) hv hu hT;rw[HTT.out] at this;exact this
      have HVa:=hide hVa;have HWi:=hide hWi;obtain⟨gl,gc,hgv⟩:∃gl gc,gatherV t (pickE acc t) a.2=(gl,gc):=⟨_,_,rfl⟩;have hgi2:(if gc≠0 then ([],gc) else gatherE (setE acc t gl) (L.drop (i+1)))=(G,g):=by have:=hGi;simp only[hgv] at this;exact this
      have HGi:=hide hgi2;have Hpk:=hide hpk;have Hgv:=hide hgv;have Hne:=hide hne;have Hpl:Hid ((pickE acc t).length+k<=900000):=hide (by have:=hpk.1;have:=Hcle.out;have:=Hcn.out;omega);clear hv0 hkp hne hpk hVl hVa hWi hgv hGi hgi2 hvt hmk;go_wp2_with (go_at_call 118;fail);refine (HTy.out _).mono ?_;rintro e w4 ⟨rfl,hb4⟩;have HC4:=hide (HCr.out.grow hb4);have f1:=(He.out w4 HC4.out.base).2;have b0:=HC4.out.box.cells 0 _ rfl;have b1:=HC4.out.box.cells 1 _ rfl;clear hb4 HTy HCr e0 e1;go_wp2_with (go_at_call 66;fail);refine (HVl.out _ HC4.out.reads.1 HC4.out.reads.2.1).mono ?_;rintro e w5 hpost;obtain⟨v5,rfl,hown5,hb5⟩:=hpost.out;have HC5:=hide (HC4.out.grow hb5);have Hso:=hide hown5;have H45:=hide hb5;have g1:=(He.out w5 HC5.out.base).2;clear hpost hown5 hb5 HVl f1 b0 b1;go_wp2
      go_loopg [12,65] k (fun r2 s12 s65 wx=>∃(j:Nat) (l:List (List UInt8)),j+r2=k/\s65=.int .i64 (j:Int)/\Hid (gatherV t l (a.2.drop j)=(gl,gc))/\Hid (l.length=(pickE acc t).length+j/\∀u∈l,u.length<=1000000)/\Hid (wx.ownsRow w4.heap.size 9 1 s12 l.length (strs l))/\Hid (Below w4.heap.size w4 wx))
      case atStart=>exact⟨0,pickE acc t,by omega,rfl,hide (by rw[List.drop_zero];exact Hgv.out),hide ⟨rfl,Hpk.out.2⟩,Hso,H45⟩
      case round=>
       obtain⟨j,l,hjg,rfl,hgv,hll,hro,hbr⟩:=hrel;clear Hgv Hso H45 HC5 g1;have HCw:=hide (HC4.out.grow hbr.out);have hl9:l.length<=900000:=by have:=hll.out.1;have:=Hpl.out;omega
       obtain⟨B5,c5,rfl,hc5,hP5⟩:=zCm hro.out;have hm5:=zBl hro.out;have hH5:Has wr wr.heap.size 1 B5 l.length (strs l):=hP5.has fun b hb=>hb.2
       cases gk with
       | zero=>
        obtain rfl:j=k:=by omega
        have hjz:¬((j:Int)<(j:Int)):=(by omega);have hge:=hgv.out;rw[List.drop_eq_nil_of_le (by rw[Hk.out];exact Nat.le_refl _)] at hge;unfold gatherV at hge;obtain⟨rfl,rfl⟩:=Prod.mk.inj hge;have hGn:=HGi.out;rw[if_neg (by simp)] at hGn;have hQ:HasP wr (Qb q h wr) 1 B5 l.length (strs l):=HC4.out.own (P:=fun _=>True) (cl:=c5) (Nat.le_refl _) hbr.out hP5;have Hset:=hide (rset_any (Qb q h wr) nm acc t l wr (fun b hb=>hb.1) Ae ne ce ys HCw.out.reads.1 HCw.out.attrs Hne.out B5 c5 hQ hc5 hm5 (by omega));rw[HNT.out,HTT.out] at Hset;have HWn:Hid (WideA (setE acc t l) (cntE (L.take (i+1))) (i+1)):=hide (HWd.out.set (by have:=Hcn.out;omega) (by have:=hll.out.1;have:=Hpk.out.1;have:=Hcn.out;omega) hll.out.2);have HGn:=hide hGn;have b0:=HCw.out.box.cells 0 _ rfl;have b1:=HCw.out.box.cells 1 _ rfl;obtain⟨ln,hln⟩:∃x,l.length=x:=⟨_,rfl⟩;rw[hln] at Hset ⊢;clear hge hGn hQ hln hgv hll hro hP5 hH5 hc5 hm5 HGi HC4 hbr HVa HWi Hpk Hpl;go_wp2_with (go_at_call 128;fail);refine Hset.out.mono ?_;rintro e w7 hpost;obtain⟨A7,c7,ys7,rfl,hc7,hm7,hh7,he7,hb7⟩:=hpost.out;have HC8:=hide (HCw.out.put hb7 hc7 hm7 hh7 he7);have hC7:=HCw.out.grow hb7;have z0:=hC7.box.cells 0 _ rfl;have z1:=hC7.box.cells 1 _ rfl;have hf:=hC7.box.fz;obtain⟨n7,hn7⟩:∃x,(setE acc t l).length=x:=⟨_,rfl⟩;rw[hn7] at HC8 ⊢;clear hpost hc7 hm7 hh7 he7 hb7 hC7 hn7 Hset HCw b0 b1;go_upto_region 26 with fail;clear z0 z1 hf;obtain⟨w8,hw8⟩:∃x,(w7.setCell ⟨h,0,none⟩ (.string NT)).setCell ⟨h,1,none⟩ (.slice A7 n7 c7)=x:=⟨_,rfl⟩;rw[hw8] at HC8 ⊢;clear hw8;go_wp2
        go_roundg r
        case measure=>omega
        case rel=>exact⟨i+1,A7,n7,c7,ys7,setE acc t l,by omega,by go_num,HGn,HC8,HWn⟩
       | succ r2=>
        have hj:j<k:=(by omega);have hjz:(j:Int)<(k:Int):=(by omega);obtain⟨v,hv⟩:∃v,a.2[j]?=some v:=⟨_,List.getElem?_eq_getElem (by rw[Hk.out];exact hj)⟩;have hvd:a.2.drop j=v::a.2.drop (j+1):=by obtain⟨h1,h2⟩:=List.getElem?_eq_some_iff.1 hv;rw[List.drop_eq_getElem_cons h1,h2]
        have hge:=hgv.out;rw[hvd] at hge;unfold gatherV at hge;obtain⟨gv,ov,hVe,hgv2,hatv⟩:=HVv.out.texts (fun h=>by rw[h] at hv;simp at hv);subst hVe;have x0:=(HCw.out.base.cell (p:=⟨gv,ov+j,none⟩) hgv2).trans (hatv j v hv);have x1:=(He.out wr HCw.out.base).2;have hv9:=Hva.out v (List.mem_of_getElem? hv);have Hcall:=hide (HVa.out v hv9 wr (HT.out.below HCw.out.base));have HwC:=hide (HWi.out v l hv9 (by omega) hll.out.2);have hmk:=Hmk.out;obtain⟨TV,hTV⟩:∃x,txt v=x:=⟨_,rfl⟩;rw[hTV] at x0 Hcall HwC;have HTV:=hide hTV;have Hll:=hide hl9;obtain⟨vv,hvv⟩:∃x,txt (valV t v).1=x:=⟨_,rfl⟩;rw[hvv] at Hcall;have HP5:=hide hP5;have HH5:=hide hH5;have Hc5:=hide (And.intro hc5 hm5);clear hvv hTV hgv hvd hatv hgv2 hP5 hH5 hc5 hm5 HVa HWi;by_cases hy0:(valV t v).2=0
        ·rw [if_neg (by simp[hy0])] at hge;rw[hy0] at Hcall;by_cases hw:WithinV t l v
         ·rw [if_pos hw] at hge;obtain⟨rfl,rfl⟩:=Prod.mk.inj hge;have hGn:=HGi.out;rw[if_pos (by decide)] at hGn;obtain⟨rfl,rfl⟩:=Prod.mk.inj hGn;rw[if_pos (by decide)] at hmk;have HRm:=hide hmk;have HwT:Hid (∀(w:World) (B:Option Addr) (cB:Nat),Has w w.heap.size 1 B l.length (strs l)->TM w->Calls Tryz.prog 123 #[.string TT1,.slice B l.length cB,.string TV] w fun e w'=>e=.returned (.bool true)/\Below w.heap.size w w'):=hide (by
           have:=HwC.out
           rw[zGz hw] at this
           exact this)
          clear hge hGn hw hy0 hmk HwC HGi hro hv hll Hpk Hpl Hmk HA HL Hts Hvs Hcnt HWd Hva Hk Hcn Hcle HVv Hne Hc5 HP5 HTV He;go_wp2_with (go_at_call 71;fail);refine Hcall.out.mono ?_;rintro e w6 ⟨rfl,hb6⟩;have HC6:=hide (HCw.out.grow hb6);have HH6:=hide ((HH5.out.below hb6).upto hb6.size);clear hb6 Hcall x0 x1 HCw HH5;go_wp2_with (go_at_call 123;fail);refine (HwT.out _ _ _ HH6.out (HT.out.below HC6.out.base)).mono ?_;rintro e w7 ⟨rfl,hb7⟩;have HC7:=hide (HC6.out.grow hb7);clear hb7 HwT HH6 HC6;have z0:=HC7.out.res.cells 0 _ rfl;have z1:=HC7.out.res.cells 1 _ rfl;have hf:=HC7.out.res.fz;have HBe:=hide HC7.out.base;clear HT HC7;go_wp2
          (try simp only[Exit.inBlock,Exit.then])
          refine bodyPost_ret (v:=.tuple #[.agg #[.string ⟨#[]⟩,.slice none 0 0],.int .i64 20]) ?_ rfl ?_
          ·rw [results_cell_tmp rfl];go_simp
          exact hide (by rw[HRm.out];exact zAz rfl ((HBe.out.setCell (p:=⟨q,0,none⟩) (by rw[Hq.out];exact Nat.le_refl _) _).setCell (p:=⟨q,1,none⟩) (by rw[Hq.out];exact Nat.le_refl _) _))
         ·rw [if_neg hw] at hge;have Hge:=hide hge;have HwT:Hid (∀(w:World) (B:Option Addr) (cB:Nat),Has w w.heap.size 1 B l.length (strs l)->TM w->Calls Tryz.prog 123 #[.string TT1,.slice B l.length cB,.string TV] w fun e w'=>e=.returned (.bool false)/\Below w.heap.size w w'):=hide (by
           have:=HwC.out
           rw[zK4 hw] at this
           exact this)
          have Hstr:Hid (strs l++[.string TV]=strs (l++[v])):=hide (by simp[strs,HTV.out]);have Hll2:Hid ((l++[v]).length=(pickE acc t).length+(j+1)/\∀u∈l++[v],u.length<=1000000):=hide ⟨by rw[List.length_append,hll.out.1];simp;omega,fun u hu=>by
           rcases List.mem_append.1 hu with hu | hu
           ·exact hll.out.2 u hu
           ·obtain rfl:=List.mem_singleton.1 hu
            exact hv9⟩
          have Hl1:Hid ((l++[v]).length=l.length+1):=hide (by simp);clear hge hw hy0 hmk HwC hv hll Hc5 HP5;go_wp2_with (go_at_call 71;fail);refine Hcall.out.mono ?_;rintro e w6 ⟨rfl,hb6⟩;have HH6:=hide ((HH5.out.below hb6).upto hb6.size);have Hro6:=hide (zAe hro.out hb6);have HB6:=hTz hbr hb6;have HT6:=hide (HT.out.below (HCw.out.base.trans (hb6.mono HCw.out.base.size)));clear hb6 Hcall x0 x1 HCw HH5 hro hbr;go_wp2_with (go_at_call 123;fail);refine (HwT.out _ _ _ HH6.out HT6.out).mono ?_;rintro e w7 ⟨rfl,hb7⟩;have HB7:=hTz HB6 hb7;have hor7:=(zAe Hro6.out hb7).alloc (.cells #[.string TV] 9);have hone:=litS w7 TV;have hH:=Has.own hone;have hbc:=below1 w7 (.cells #[.string TV] 9);have HB8:=hTz HB7 hbc;have hs8:w4.heap.size<=(w7.alloc (.cells #[.string TV] 9)).heap.size:=HB8.out.size;have h1c:∀u∈[Value.string TV],u.oneCell'=true:=by simp[Value.oneCell']
          obtain⟨ln,hln⟩:∃x,l.length=x:=⟨_,rfl⟩;have hl9':ln<=900000:=by rw[<-hln];exact hl9
          rw[hln] at hor7 ⊢;have Hln:=hide hln;clear hb7 HwT HH6 HT6 HB6 Hro6 hone hbc HB7 hln hl9;go_wp2_with (at_builtin;go_must (refine appE _ 43 9 _ 1 16 Tryz.underlying43 infoS rfl (by omega) (by omega) rfl (.tmp 90) (.tmp 92) rfl w4.heap.size _ ln (strs l) rfl hor7 _ _ 1 1 [.string TV] rfl hH h1c (by omega) hs8 ?_));intro v9 w9 hor9 hb9 _;rw[Hstr.out] at hor9;have Hor9:Hid (w9.ownsRow w4.heap.size 9 1 v9 (l++[v]).length (strs (l++[v]))):=hide (by rw[Hl1.out,Hln.out];exact hor9);have HB9:=hide (HB8.out.trans hb9);clear hor7 hH hs8 h1c hor9 hb9 HB8 Hstr Hl1;go_wp2
          go_roundg r2
          case measure=>omega
          case rel=>exact⟨j+1,l++[v],by omega,by go_num,Hge,Hll2,Hor9,HB9⟩
        ·rw [if_pos hy0] at hge;obtain⟨rfl,rfl⟩:=Prod.mk.inj hge;have hGn:=HGi.out;rw[if_pos (by decide)] at hGn;obtain⟨rfl,rfl⟩:=Prod.mk.inj hGn;rw[if_pos (by decide)] at hmk;have HRm:=hide hmk;obtain⟨y,hy⟩:∃y,(valV t v).2=y:=⟨_,rfl⟩;rw[hy] at Hcall hy0;have yb:(y==0)=false:=beq_false_of_ne hy0;have yn:(y !=0)=true:=by unfold bne;rw[yb];rfl
         clear hge hGn hy hmk HwC HGi hro hv hll Hpk Hpl Hmk HA HL Hts Hvs Hcnt HWd Hva Hk Hcn Hcle HVv Hne Hc5 HP5 HTV He HH5 hy0;go_wp2_with (go_at_call 71;fail);refine Hcall.out.mono ?_;rintro e w6 ⟨rfl,hb6⟩;have HC6:=hide (HCw.out.grow hb6);clear hb6 Hcall x0 x1 HCw;have z0:=HC6.out.res.cells 0 _ rfl;have z1:=HC6.out.res.cells 1 _ rfl;have hf:=HC6.out.res.fz;have HBe:=hide HC6.out.base;clear HT HC6;go_wp2
         (try simp only[Exit.inBlock,Exit.then])
         refine bodyPost_ret (v:=.tuple #[.agg #[.string ⟨#[]⟩,.slice none 0 0],.int .i64 21]) ?_ rfl ?_
         ·rw [results_cell_tmp rfl];go_simp
         exact hide (by rw[HRm.out];exact zAz rfl ((HBe.out.setCell (p:=⟨q,0,none⟩) (by rw[Hq.out];exact Nat.le_refl _) _).setCell (p:=⟨q,1,none⟩) (by rw[Hq.out];exact Nat.le_refl _) _))
end Go.Proofs.YtajkmiialgiikaaGreatDoor
