/- The reference's Modify: any changes of any entry come to the entry, or its code. By an AI agent. -/
import Derived.Test.YtadlmhclpaifoaaGreatDoorDW
import Derived.Test.YtadlmhclpaifoaaGreatDoorDR1
import Derived.Test.YtadlmhclpaifoaaGreatDoorEN
import Derived.Test.YtadlmhclpaifoaaGreatDoorDU
set_option linter.unusedSimpArgs false
set_option linter.unusedVariables false
set_option maxRecDepth 100000
set_option maxHeartbeats 64000000
namespace Go.Proofs.YtadlmhclpaifoaaGreatDoor
open Go Go.RowKit
theorem zI9 (t:List UInt8):∀(vs l:List (List UInt8)),(dropsV t l vs).1.length<=l.length
 | [],l=>by unfold dropsV;exact Nat.le_refl _
 | v::vs,l=>by
  unfold dropsV;split
  ·simp
  ·exact Nat.le_trans (zI9 t vs _) (zKe t v l false).1
theorem zN9 {t:List UInt8} {x op:Int} {l vs:List (List UInt8)} (h:(changeV t x op l vs).2=0):(changeV t x op l vs).1.length<=l.length+vs.length:=by
 unfold changeV at h ⊢;split
 ·rename_i h0;rw[if_pos h0] at h;unfold addV at h ⊢;split
  ·simp
  ·rename_i hv;rw[if_neg hv] at h;have:=zIe (gl:=(gatherV t l vs).1) (Prod.ext rfl h);rw[this,List.length_append];exact Nat.le_refl _
 ·rename_i h0;split
  ·unfold removeV;split
   ·simp
   ·split
    ·simp
    ·exact Nat.le_trans (zI9 t vs l) (by omega)
  ·split
   ·unfold replaceV;split<;>simp
   ·unfold incV;split
    ·simp
    ·split
     ·simp
     ·split
      ·simp
      ·simp
theorem zL7 {L:List EA} (h:OkE L) (t:List UInt8):∀v∈pickE L t,v.length<=200:=fun v hv=>zHk ((h.pick t).1 v hv)
structure HCh (w:World) (g o:Nat) (op:Int) (TA:ByteArray) (V:Option Addr) (k cv:Nat):Prop where
 e0:∀W,Below w.heap.size w W->W.cell? ⟨g,o,none⟩=some (.int .i64 op)
 e1:∀W,Below w.heap.size w W->W.cell? ⟨g,o+1,none⟩=some (.string TA)
 e2:∀W,Below w.heap.size w W->W.cell? ⟨g,o+2,none⟩=some (.slice V k cv)
theorem zNs (nm:List UInt8) (L:List EA) (cs:List CH) (w:World) (A:Option Addr) (n c:Nat) (xs:List Value) (hA:Has w w.heap.size 2 A n xs) (hL:EAs w w.heap.size xs L) (hc:L.length<=c) (hm:c<=maxLen) (C:Option Addr) (m k:Nat) (ys:List Value) (hcv:CV w C m ys cs) (hE:FitE nm L) {kk:Nat} (hC:FitC kk cs) (hkk:kk<=90000) (hT:TM w):
  Calls Tryz.prog 18 #[.agg #[.string (txt nm),.slice A n c],.slice C m k] w (RMadePost (modifyE nm L cs).1 (modifyE nm L cs).2.1 (modifyE nm L cs).2.2 w):=by
 have hml:=hcv.has.chs_n hcv.chs;have hm9:m<=90000:=by rw[hml];exact Nat.le_trans hC.len hkk
 have hb1:Below w.heap.size w ((w.alloc (.cells #[.string (txt nm),.slice A n c] 26)).alloc (.cells #[.string ⟨#[]⟩,.slice none 0 0] 26)):=((Below.refl _ w).alloc (Nat.le_refl _) _).alloc (by simp) _;have hX0:Blk (w.alloc (.cells #[.string (txt nm),.slice A n c] 26)) w.heap.size [.string (txt nm),.slice A n c]:=Blk.new w [.string (txt nm),.slice A n c] 26;have hX:Blk ((w.alloc (.cells #[.string (txt nm),.slice A n c] 26)).alloc (.cells #[.string ⟨#[]⟩,.slice none 0 0] 26)) w.heap.size [.string (txt nm),.slice A n c]:=hX0.grow (below1 _ _);have hY:Blk ((w.alloc (.cells #[.string (txt nm),.slice A n c] 26)).alloc (.cells #[.string ⟨#[]⟩,.slice none 0 0] 26)) (w.alloc (.cells #[.string (txt nm),.slice A n c] 26)).heap.size [.string ⟨#[]⟩,.slice none 0 0]:=Blk.new (w.alloc (.cells #[.string (txt nm),.slice A n c] 26)) [.string ⟨#[]⟩,.slice none 0 0] 26;rw[show (w.alloc (.cells #[.string (txt nm),.slice A n c] 26)).heap.size=w.heap.size+1 by simp] at hY;obtain⟨w1,hw1⟩:∃w1,(w.alloc (.cells #[.string (txt nm),.slice A n c] 26)).alloc (.cells #[.string ⟨#[]⟩,.slice none 0 0] 26)=w1:=⟨_,rfl⟩;rw[hw1] at hb1 hX hY;have HF:=hide (zGa nm L w1 A n c xs ((hA.below hb1).upto hb1.size) (hL.grow hb1) (by rw[hA.eas_n hL];exact hE.len) hE.nm (fun a ha=>⟨by have:=hE.typ a ha;omega,hE.val a ha⟩) (hT.below hb1));have hM1:MkC w w1 (w.heap.size+1) w.heap.size (txt nm) A n c xs L:=⟨hb1,⟨by omega,by omega,by omega⟩,hY,hX,⟨by rw[hA.eas_n hL];exact hc,hm⟩,
  HasP.move (w:=w) (P:=fun b=>b<w.heap.size) hA (fun p hp=>hb1.cell hp) fun b hb=>⟨by have:=hb1.size;omega,by omega,by omega⟩,hL.easP.move (fun p hp=>hb1.cell hp) fun b hb=>⟨by have:=hb1.size;omega,by omega,by omega⟩⟩
 have HM1:=hide hM1;have HT:=hide hT;have Hw1:=hide hw1;have Hml:=hide hml;have Hcv:=hide hcv;have HfE:=hide hE;have HfC:=hide hC;clear hb1 hX0 hX hY hw1 hM1 hA hL hcv hE hC hT hml;obtain⟨RM,hRM⟩:∃RM,modifyE nm L cs=RM:=⟨_,rfl⟩;rw[hRM];unfold modifyE at hRM
 suffices H:Calls Tryz.prog 18 #[.agg #[.string (txt nm),.slice A n c],.slice C m k] w fun e w'=>Hid (RMadePost RM.1 RM.2.1 RM.2.2 w e w') from H.mono fun e w' h=>h.out
 obtain⟨NT,hNT⟩:∃S,txt nm=S:=⟨_,rfl⟩;have HNT:=hide hNT;rw[hNT] at HF HM1 Hw1;rw[hNT];clear hNT;by_cases hf:FormedE nm L
 ·rw [if_neg (fun q=>q hf)] at hRM;rw[zAn hf] at HF;obtain⟨GG,hGG⟩:∃GG,changesL L cs=GG:=⟨_,rfl⟩;rw[hGG] at hRM;obtain⟨G,g⟩:=GG;have HG:=hide hGG;have Hmk:Hid ((if g≠0 then (([],[],g):List UInt8 × List EA × Int) else if endE nm G 67≠0 then ([],[],endE nm G 67) else (nm,G,0))=RM):=hide hRM;have HO1:=hide (zCt hf.loose.attrs);have HW1:Hid (WideA L 20 14):=hide ⟨hf.loose.attrs.le,fun a ha=>⟨(hf.loose.attrs.each a ha).hi,fun u hu=>by have:=zHk ((hf.loose.attrs.each a ha).ok u hu);omega⟩⟩;clear hRM hGG hf;go_enter Tryz.func18,Tryz.ntmps18;go_upto_region 1 with fail;rw[Hw1.out];obtain⟨hB,hq0⟩:∃q,w.heap.size=q:=⟨_,rfl⟩;have Hq0:Hid (w.heap.size<=hB+1):=hide (by omega);rw[hq0] at HM1;(try rw[hq0]);clear hq0;obtain⟨q,hq⟩:∃q,hB+1=q:=⟨_,rfl⟩;rw[hq] at HM1 Hq0;(try rw[hq]);have Hq:=Hq0;clear hq Hq0;have x0:=HM1.out.box.cells 0 _ rfl;have x1:=HM1.out.box.cells 1 _ rfl;go_wp2_with (go_at_call 21;fail);refine HF.out.mono ?_;rintro e w2 ⟨rfl,hb2⟩;have HM2:=hide (HM1.out.grow hb2);clear hb2 HF HM1 x0 x1 Hw1;go_wp2
  go_loopg [21] m (fun r s21 wx=>∃(i:Nat) (Ae:Option Addr) (ne ce:Nat) (ys:List Value) (acc:List EA),i+r=m/\s21=.int .i64 (i:Int)/\Hid (changesL acc (cs.drop i)=(G,g))/\Hid (MkC w wx q hB NT Ae ne ce ys acc)/\Hid (WideA acc (20+cntC (cs.take i)) (14+i))/\Hid (OkE acc))
  case atStart=>exact⟨0,A,n,c,xs,L,by omega,rfl,hide (by rw[List.drop_zero];exact HG.out),HM2,hide (by simpa[cntC] using HW1.out),HO1⟩
  case round=>
   obtain⟨i,Ae,ne,ce,ys,acc,hig,rfl,hG,HCr,HWd,HOk⟩:=hrel;clear HG HM2 HW1 HO1;cases gk with
   | zero=>
    obtain rfl:i=m:=by omega
    have hiz:¬((i:Int)<(i:Int)):=(by omega);have hGe:=hG.out;rw[List.drop_eq_nil_of_le (by rw[<-Hml.out];exact Nat.le_refl _),changesL] at hGe;obtain⟨rfl,rfl⟩:=Prod.mk.inj hGe;have hcn:cntC (cs.take i)<=kk:=Nat.le_trans (zJq cs i) HfC.out.cnt;have hw9:∀a∈acc,a.2.length<=1000000/\∀u∈a.2,u.length<=1000000:=fun a ha=>⟨Nat.le_trans (HWd.out.each a ha).1 (by omega),(HWd.out.each a ha).2⟩
    have hne:ne<=1000000:=(by rw[HCr.out.reads.2.2];exact Nat.le_trans HWd.out.len (by have:=HfC.out.len;have:=Hml.out;omega));have hnl:nm.length<=1000000:=HfE.out.nm;have hmk:=Hmk.out;rw[if_neg (by simp)] at hmk;have hMy:∀w,Has w w.heap.size 2 Ae ne ys->EAs w w.heap.size ys acc->Calls Tryz.prog 35 #[.agg #[.string NT,.slice Ae ne ce]] w fun e w'=>e=.returned (.bool (Tr (∃a∈acc,20<a.2.length)))/\Below w.heap.size w w':=fun w hA hL=>zUm NT acc w Ae ne ce ys hA hL (by omega) (fun a ha=>by have:=(hw9 a ha).1;omega)
    have hVl:∀w,Has w w.heap.size 2 Ae ne ys->EAs w w.heap.size ys acc->Calls Tryz.prog 22 #[.agg #[.string NT,.slice Ae ne ce],.string ⟨#[111,98,106,101,99,116,67,108,97,115,115]⟩] w (ValsPost (pickE acc clsT) w):=fun w hA hL=>by
     have:=zD2 nm acc clsT w Ae ne ce ys hA hL hne (by decide) (fun a ha=>(hw9 a ha).1);rw[zM9,HNT.out] at this;exact this
    have hNm:∀w,Has w w.heap.size 2 Ae ne ys->EAs w w.heap.size ys acc->TM w->Calls Tryz.prog 36 #[.agg #[.string NT,.slice Ae ne ce]] w fun e w'=>e=.returned (.bool (Tr (NamedR nm acc)))/\Below w.heap.size w w':=fun w hA hL hT=>by
     have:=zI8 nm acc w Ae ne ce ys hA hL hne hnl hw9 hT;rw[HNT.out] at this;exact this
    have hCp:∀w,Has w w.heap.size 2 Ae ne ys->EAs w w.heap.size ys acc->Calls Tryz.prog 16 #[.agg #[.string NT,.slice Ae ne ce]] w (EntPost (nm,acc) w):=fun w hA hL=>by
     have:=zIr nm acc w Ae ne ce ys hA hL hne (fun a ha=>(hw9 a ha).1);rw[HNT.out] at this;exact this
    have b0:=HCr.out.box.cells 0 _ rfl;have b1:=HCr.out.box.cells 1 _ rfl;by_cases hm:∃a∈acc,20<a.2.length
    ·have hE:endE nm acc 67=19:=by unfold endE;rw[if_pos hm]
     rw[hE,if_pos (by decide)] at hmk;rw[zAn hm] at hMy;have HRm:=hide hmk.symm;have HMy:=hide hMy;clear hMy hVl hNm hCp hm hE hmk hw9 hne hnl hGe hcn hG Hmk Hcv HfE HfC HWd HOk Hml;go_wp2_with (go_at_call 35;fail);refine (HMy.out _ HCr.out.reads.1 HCr.out.reads.2.1).mono ?_;rintro e w4 ⟨rfl,hb4⟩;have HC4:=hide (HCr.out.grow hb4);clear hb4 HMy HCr b0 b1;have z0:=HC4.out.res.cells 0 _ rfl;have z1:=HC4.out.res.cells 1 _ rfl;have hf:=HC4.out.res.fz;have HBe:=hide HC4.out.base;clear HT HC4;go_wp2
     (try simp only[Exit.inBlock,Exit.then])
     refine bodyPost_ret (v:=.tuple #[.agg #[.string ⟨#[]⟩,.slice none 0 0],.int .i64 19]) ?_ rfl ?_
     ·rw [results_cell_tmp rfl];go_simp
     exact hide (by rw[HRm.out];exact zBf rfl ((HBe.out.setCell (p:=⟨q,0,none⟩) Hq.out _).setCell (p:=⟨q,1,none⟩) Hq.out _))
    ·rw [zAq hm] at hMy;by_cases hk:pickE acc clsT=[]
     ·have hE:endE nm acc 67=65:=by unfold endE;rw[if_neg hm,if_pos hk]
      rw[hE,if_pos (by decide)] at hmk;rw[hk] at hVl;have HRm:=hide hmk.symm;have HMy:=hide hMy;have HVl:=hide hVl;clear hMy hVl hNm hCp hm hE hmk hw9 hne hnl hGe hcn hG Hmk Hcv HfE HfC HWd HOk Hml hk;go_wp2_with (go_at_call 35;fail);refine (HMy.out _ HCr.out.reads.1 HCr.out.reads.2.1).mono ?_;rintro e w4 ⟨rfl,hb4⟩;have HC4:=hide (HCr.out.grow hb4);clear hb4 HMy HCr b0 b1;have b0:=HC4.out.box.cells 0 _ rfl;have b1:=HC4.out.box.cells 1 _ rfl;go_wp2_with (go_at_call 22;fail);refine (HVl.out _ HC4.out.reads.1 HC4.out.reads.2.1).mono ?_;rintro e w5 hpost;obtain⟨v5,rfl,hown5,hb5⟩:=hpost.out;obtain⟨A5,c5,rfl,_,_⟩:=zAh hown5;have HC5:=hide (HC4.out.grow hb5);clear hpost hown5 hb5 HVl HC4 b0 b1;simp only[List.length_nil];have z0:=HC5.out.res.cells 0 _ rfl;have z1:=HC5.out.res.cells 1 _ rfl;have hf:=HC5.out.res.fz;have HBe:=hide HC5.out.base;clear HT HC5;go_wp2
      (try simp only[Exit.inBlock,Exit.then])
      refine bodyPost_ret (v:=.tuple #[.agg #[.string ⟨#[]⟩,.slice none 0 0],.int .i64 65]) ?_ rfl ?_
      ·rw [results_cell_tmp rfl];go_simp
      exact hide (by rw[HRm.out];exact zBf rfl ((HBe.out.setCell (p:=⟨q,0,none⟩) Hq.out _).setCell (p:=⟨q,1,none⟩) Hq.out _))
     ·obtain ⟨kc,hkc⟩:∃kc,(pickE acc clsT).length=kc+1:=⟨(pickE acc clsT).length-1,by have:=List.length_pos_iff.2 hk;omega⟩;have hkz:(((kc+1:Nat):Int)==0)=false:=beq_false_of_ne (by omega);have hkz2:¬(((kc+1:Nat):Int))=0:=by omega
      have Hkc:=hide hkc;by_cases hr:NamedR nm acc
      ·have hE:endE nm acc 67=0:=by unfold endE;rw[if_neg hm,if_neg hk,if_pos hr]
       rw[hE,if_neg (by simp)] at hmk;rw[zAn hr] at hNm;have HRm:=hide hmk.symm;have HMy:=hide hMy;have HVl:=hide hVl;have HNm:=hide hNm;have HCp:=hide hCp;clear hMy hVl hNm hCp hm hE hmk hw9 hne hnl hGe hcn hG Hmk Hcv HfE HfC HWd HOk Hml hk hr hkc;go_wp2_with (go_at_call 35;fail);refine (HMy.out _ HCr.out.reads.1 HCr.out.reads.2.1).mono ?_;rintro e w4 ⟨rfl,hb4⟩;have HC4:=hide (HCr.out.grow hb4);clear hb4 HMy HCr b0 b1;have b0:=HC4.out.box.cells 0 _ rfl;have b1:=HC4.out.box.cells 1 _ rfl;go_wp2_with (go_at_call 22;fail);refine (HVl.out _ HC4.out.reads.1 HC4.out.reads.2.1).mono ?_;rintro e w5 hpost;obtain⟨v5,rfl,hown5,hb5⟩:=hpost.out;obtain⟨A5,c5,rfl,_,_⟩:=zAh hown5;have HC5:=hide (HC4.out.grow hb5);clear hpost hown5 hb5 HVl HC4 b0 b1;rw[Hkc.out];have b0:=HC5.out.box.cells 0 _ rfl;have b1:=HC5.out.box.cells 1 _ rfl;go_wp2_with (go_at_call 36;fail);refine (HNm.out _ HC5.out.reads.1 HC5.out.reads.2.1 (HT.out.below HC5.out.base)).mono ?_;rintro e w6 ⟨rfl,hb6⟩;have HC6:=hide (HC5.out.grow hb6);clear hb6 HNm HC5 b0 b1;have b0:=HC6.out.box.cells 0 _ rfl;have b1:=HC6.out.box.cells 1 _ rfl;go_wp2_with (go_at_call 16;fail);refine (HCp.out _ HC6.out.reads.1 HC6.out.reads.2.1).mono ?_;rintro e w7 hpost;obtain⟨A7,c7,ys7,rfl,hc7,hm7,hh7,he7,hb7⟩:=hpost.out;have HC7:=hide (HC6.out.grow hb7);have HN7:=hide (And.intro hc7 (And.intro hm7 (And.intro hh7 he7)));have Hlt:=hide (HC6.out.res.lt);rw[HNT.out];simp only at HN7 ⊢;obtain⟨k7,hk7⟩:∃k,(acc).length=k:=⟨_,rfl⟩;have Hk7:=hide hk7;rw[hk7];clear hpost hc7 hm7 hh7 he7 hb7 HC6 b0 b1 HCp hk7;have z0:=HC7.out.res.cells 0 _ rfl;have z1:=HC7.out.res.cells 1 _ rfl;have hf:=HC7.out.res.fz;go_wp2
       (try simp only[Exit.inBlock,Exit.then])
       refine bodyPost_ret (v:=.tuple #[.agg #[.string NT,.slice A7 k7 c7],.int .i64 0]) ?_ rfl ?_
       ·rw [results_cell_tmp rfl];go_simp
       have hszz:((w7.setCell ⟨q,0,none⟩ (.string NT)).setCell ⟨q,1,none⟩ (.slice A7 k7 c7)).heap.size=w7.heap.size:=(by simp[World.setCell]);have far:∀p:Addr,NewB w6.heap.size w7.heap.size p.block->((w7.setCell ⟨q,0,none⟩ (.string NT)).setCell ⟨q,1,none⟩ (.slice A7 k7 c7)).cell? p=w7.cell? p:=fun p hp=>by
        have hne:q≠p.block:=(by have:=hp.1;have:=Hlt.out;omega);rw[World.cell?_setCell_far _ _ _ _ hne,World.cell?_setCell_far _ _ _ _ hne]
       obtain⟨hc7,hm7,hh7,he7⟩:=HN7.out;have e1:=(hh7.move (P':=fun b=>b<w7.heap.size) far fun b hb=>hb.2).has (B:=w7.heap.size) fun b hb=>hb
       have e2:=(he7.move (P':=fun b=>b<w7.heap.size) far fun b hb=>hb.2).eas (B:=w7.heap.size) fun b hb=>hb
       refine hide ?_;rw[HRm.out];exact⟨⟨A7,c7,ys7,by rw[HNT.out,Hk7.out],hc7,hm7,by rw[hszz];exact e1,by rw[hszz];exact e2,(HC7.out.base.setCell (p:=⟨q,0,none⟩) Hq.out _).setCell (p:=⟨q,1,none⟩) Hq.out _⟩⟩
      ·have hE:endE nm acc 67=67:=by unfold endE;rw[if_neg hm,if_neg hk,if_neg hr]
       rw[hE,if_pos (by decide)] at hmk;rw[zAq hr] at hNm;have HRm:=hide hmk.symm;have HMy:=hide hMy;have HVl:=hide hVl;have HNm:=hide hNm;clear hMy hVl hNm hCp hm hE hmk hw9 hne hnl hGe hcn hG Hmk Hcv HfE HfC HWd HOk Hml hk hr hkc;go_wp2_with (go_at_call 35;fail);refine (HMy.out _ HCr.out.reads.1 HCr.out.reads.2.1).mono ?_;rintro e w4 ⟨rfl,hb4⟩;have HC4:=hide (HCr.out.grow hb4);clear hb4 HMy HCr b0 b1;have b0:=HC4.out.box.cells 0 _ rfl;have b1:=HC4.out.box.cells 1 _ rfl;go_wp2_with (go_at_call 22;fail);refine (HVl.out _ HC4.out.reads.1 HC4.out.reads.2.1).mono ?_;rintro e w5 hpost;obtain⟨v5,rfl,hown5,hb5⟩:=hpost.out;obtain⟨A5,c5,rfl,_,_⟩:=zAh hown5;have HC5:=hide (HC4.out.grow hb5);clear hpost hown5 hb5 HVl HC4 b0 b1;rw[Hkc.out];have b0:=HC5.out.box.cells 0 _ rfl;have b1:=HC5.out.box.cells 1 _ rfl;go_wp2_with (go_at_call 36;fail);refine (HNm.out _ HC5.out.reads.1 HC5.out.reads.2.1 (HT.out.below HC5.out.base)).mono ?_;rintro e w6 ⟨rfl,hb6⟩;have HC6:=hide (HC5.out.grow hb6);clear hb6 HNm HC5 b0 b1;have z0:=HC6.out.res.cells 0 _ rfl;have z1:=HC6.out.res.cells 1 _ rfl;have hf:=HC6.out.res.fz;have HBe:=hide HC6.out.base;clear HT HC6;go_wp2
       (try simp only[Exit.inBlock,Exit.then])
       refine bodyPost_ret (v:=.tuple #[.agg #[.string ⟨#[]⟩,.slice none 0 0],.int .i64 67]) ?_ rfl ?_
       ·rw [results_cell_tmp rfl];go_simp
       exact hide (by rw[HRm.out];exact zBf rfl ((HBe.out.setCell (p:=⟨q,0,none⟩) Hq.out _).setCell (p:=⟨q,1,none⟩) Hq.out _))
   | succ r=>
    have hi:i<m:=(by omega);have hiz:(i:Int)<(m:Int):=(by omega);obtain⟨a,ha⟩:∃a,cs[i]?=some a:=⟨_,List.getElem?_eq_getElem (by rw[<-Hml.out];exact hi)⟩;have ham:=List.mem_of_getElem? ha;have hdrop:cs.drop i=a::cs.drop (i+1):=by obtain⟨h1,h2⟩:=List.getElem?_eq_some_iff.1 ha;rw[List.drop_eq_getElem_cons h1,h2]
    have hGi:=hG.out;rw[hdrop,zA8] at hGi;obtain⟨ga,o,hCe,hga,hat⟩:=Hcv.out.has.ch Hcv.out.chs (fun h=>by rw[h] at ha;simp at ha);subst hCe;obtain⟨V,cv,hat⟩:=hat i a ha;have hcnt:=zKo ha;obtain⟨kv,hkv⟩:∃k,a.2.2.length=k:=⟨_,rfl⟩;obtain⟨TA,hTA⟩:∃TA,txt a.2.1=TA:=⟨_,rfl⟩;obtain⟨op,hop⟩:∃op,a.1=op:=⟨_,rfl⟩;have He:Hid (HCh w ga (o+i*3) op TA V kv cv):=hide ⟨fun W hW=>by rw[<-hop];exact (hW.cell (p:=⟨ga,o+i*3,none⟩) hga).trans hat.e0,fun W hW=>by rw[<-hTA];exact (hW.cell (p:=⟨ga,o+i*3+1,none⟩) hga).trans hat.e1,fun W hW=>by rw[<-hkv];exact (hW.cell (p:=⟨ga,o+i*3+2,none⟩) hga).trans hat.e2⟩;have HVv:Hid (Has w w.heap.size 1 V kv (strs a.2.2)):=hide (by rw[<-hkv];exact hat.has);have Hcm:Hid (kv<=cv/\cv<=maxLen):=hide (by rw[<-hkv];exact⟨hat.cap,hat.most⟩);have hTy:=fun w=>zCh (txt a.2.1) (by rw[zAg];have:=HfC.out.typ a ham;omega) w
    simp only[zAc] at hTy;rw[hTA] at hTy;have HTA:=hide hTA;have Hva:=hide (HfC.out.val a ham);have Hk:=hide hkv;have hcle:cntC (cs.take (i+1))<=kk:=Nat.le_trans (zJq cs (i+1)) HfC.out.cnt;rw[hkv] at hcnt;have hk9:kv<=90000:=by omega
    have Hcn:=hide hcnt;have Hcle:=hide hcle;have hmk:=Hmk.out;have e0:=He.out.e0 wr HCr.out.base;have e1:=He.out.e1 wr HCr.out.base;have e2:=He.out.e2 wr HCr.out.base;have f2:wr.cell? ⟨ga,o+i*3+1+1,none⟩=some (.slice V kv cv):=e2;have hbx:=below1 wr (.cells #[.int .i64 op,.string TA,.slice V kv cv] 43);have hXc:=BoxC.new wr op TA V kv cv 43;have hlt:wr.heap.size<(wr.alloc (.cells #[.int .i64 op,.string TA,.slice V kv cv] 43)).heap.size:=hXc.lt;obtain⟨wb,hwb⟩:∃x,wr.alloc (.cells #[.int .i64 op,.string TA,.slice V kv cv] 43)=x:=⟨_,rfl⟩;rw[hwb] at hbx hXc hlt;have HCb:=hide (HCr.out.grow hbx);have HXc:=hide hXc;have Hwb:=hide hwb;clear hat ham ha hdrop hG hTA hcnt hcle hkv hbx hXc hwb hlt HCr;go_upto_region 7 with fail;rw[Hwb.out];obtain⟨qc,hqc⟩:∃x,wr.heap.size=x:=⟨_,rfl⟩;rw[hqc] at HXc;(try rw[hqc]);clear hqc Hwb e0 e1 e2 f2 He;have y1:=HXc.out.c1;by_cases ht0:(typ a.2.1).2=0
    ·unfold changeL at hGi;rw[hop,if_pos ht0,if_pos (by decide)] at hGi;obtain⟨rfl,rfl⟩:=Prod.mk.inj hGi;rw[if_pos (by decide)] at hmk;have hti:(typ a.2.1).1=[]:=(zEe a.2.1).1 ht0;rw[hti] at hTy;have q2:((txt []).toList==[])=true:=by rw[toeq];rfl
     have HTy:=hide hTy;have HRm:=hide hmk.symm;generalize txt []=X0 at *;generalize (typ a.2.1).2=ty at *;clear hTy hGi ht0 hti hop hmk Hmk Hcv HfE HfC HWd HOk Hva Hk Hcn Hcle HVv Hcm HTA;go_wp2_with (go_at_call 31;fail);refine (HTy.out _).mono ?_;rintro e w4 ⟨rfl,hb4⟩;have HC4:=hide (HCb.out.grow hb4);have HX4:=hide (HXc.out.grow hb4);clear hb4 HTy HCb HXc y1;have y0:=HX4.out.c0;have z0:=HC4.out.res.cells 0 _ rfl;have z1:=HC4.out.res.cells 1 _ rfl;have hf:=HC4.out.res.fz;have HBe:=hide HC4.out.base;clear HT HC4;go_wp2
     (try simp only[Exit.inBlock,Exit.then])
     refine bodyPost_ret (v:=.tuple #[.agg #[.string ⟨#[]⟩,.slice none 0 0],.int .i64 17]) ?_ rfl ?_
     ·rw [results_cell_tmp rfl];go_simp
     exact hide (by rw[HRm.out];exact zBf rfl ((HBe.out.setCell (p:=⟨q,0,none⟩) Hq.out _).setCell (p:=⟨q,1,none⟩) Hq.out _))
    ·obtain ⟨htt,htn⟩:=zCl ht0;have hvt:=zNy ht0 acc;have hops:=hop;obtain⟨t,ht⟩:∃t,(typ a.2.1).1=t:=⟨_,rfl⟩;have htl:t.length<=20:=by rw[<-ht];exact zBv a.2.1
     rw[ht] at hTy htn hvt;obtain⟨ty,hty⟩:∃ty,(typ a.2.1).2=ty:=⟨_,rfl⟩;rw[hty] at hTy;have htx:(typ t).2=ty:=by rw[<-ht,htt,hty]
     have q2:((txt t).toList==[])=false:=(by rw[toeq];simpa using htn);obtain⟨TT1,hTT⟩:∃x,txt t=x:=⟨_,rfl⟩;have HTT:=hide hTT;rw[hTT] at hTy q2;have HTy:=hide hTy;clear hTy hTT htt;by_cases hopn:op<0\/3<op
     ·have hz:(changeL acc a.1 a.2)=([],2):=by unfold changeL;rw[if_neg ht0,hop,if_pos hopn]
      rw[hz,if_pos (by decide)] at hGi;obtain⟨rfl,rfl⟩:=Prod.mk.inj hGi;rw[if_pos (by decide)] at hmk;have HRm:=hide hmk.symm;clear hGi hz ht0 hop hops ht hty htx hvt htn hmk Hmk Hcv HfE HfC HWd HOk Hva Hk Hcn Hcle HVv Hcm HTA;by_cases hlo:op<0
      ·clear hopn;go_wp2_with (go_at_call 31;fail);refine (HTy.out _).mono ?_;rintro e w4 ⟨rfl,hb4⟩;have HC4:=hide (HCb.out.grow hb4);have HX4:=hide (HXc.out.grow hb4);clear hb4 HTy HCb HXc y1;have y0:=HX4.out.c0;have z0:=HC4.out.res.cells 0 _ rfl;have z1:=HC4.out.res.cells 1 _ rfl;have hf:=HC4.out.res.fz;have HBe:=hide HC4.out.base;clear HT HC4;go_wp2
       (try simp only[Exit.inBlock,Exit.then])
       refine bodyPost_ret (v:=.tuple #[.agg #[.string ⟨#[]⟩,.slice none 0 0],.int .i64 2]) ?_ rfl ?_
       ·rw [results_cell_tmp rfl];go_simp
       exact hide (by rw[HRm.out];exact zBf rfl ((HBe.out.setCell (p:=⟨q,0,none⟩) Hq.out _).setCell (p:=⟨q,1,none⟩) Hq.out _))
      ·have hhi:3<op:=by omega
       clear hopn;go_wp2_with (go_at_call 31;fail);refine (HTy.out _).mono ?_;rintro e w4 ⟨rfl,hb4⟩;have HC4:=hide (HCb.out.grow hb4);have HX4:=hide (HXc.out.grow hb4);clear hb4 HTy HCb HXc y1;have y0:=HX4.out.c0;have z0:=HC4.out.res.cells 0 _ rfl;have z1:=HC4.out.res.cells 1 _ rfl;have hf:=HC4.out.res.fz;have HBe:=hide HC4.out.base;clear HT HC4;go_wp2
       (try simp only[Exit.inBlock,Exit.then])
       refine bodyPost_ret (v:=.tuple #[.agg #[.string ⟨#[]⟩,.slice none 0 0],.int .i64 2]) ?_ rfl ?_
       ·rw [results_cell_tmp rfl];go_simp
       exact hide (by rw[HRm.out];exact zBf rfl ((HBe.out.setCell (p:=⟨q,0,none⟩) Hq.out _).setCell (p:=⟨q,1,none⟩) Hq.out _))
     ·have hlo:¬op<0:=fun h=>hopn (.inl h)
      have hhi:¬3<op:=fun h=>hopn (.inr h)
      have HGi:=hide hGi;clear hGi hmk;have HVa:Hid (∀v:List UInt8,v.length<=1000000->∀w,TM w->Calls Tryz.prog 32 #[.string TT1,.string (txt v)] w fun e w'=>e=.returned (.tuple #[.string (txt (valV t v).1),.int .i64 (valV t v).2])/\Below w.heap.size w w'):=hide fun v hv w hT=>by
       have:=zEn t v (by omega) hv w hT;rw[HTT.out] at this;exact this
      go_wp2_with (go_at_call 31;fail);refine (HTy.out _).mono ?_;rintro e w4 ⟨rfl,hb4⟩;have HC4:=hide (HCb.out.grow hb4);have HX4:=hide (HXc.out.grow hb4);clear hb4 HTy HCb HXc y1;have y0:=HX4.out.c0;have y1:=HX4.out.c1;have y2:=HX4.out.c2;have y3:w4.cell? ⟨qc,1+1,none⟩=some (.slice V kv cv):=y2;go_wp2
      go_loopg [51] kv (fun r2 s51 wx=>∃j:Nat,j+r2=kv/\s51=.int .i64 (j:Int)/\Hid (∀u∈a.2.2.take j,(valV t u).2=0)/\Hid (Below w4.heap.size w4 wx))
      case atStart=>exact⟨0,by omega,rfl,hide (fun u hu=>by simp at hu),hide (Below.refl _ _)⟩
      case round=>
       obtain⟨j,hjg,rfl,hval,hbr⟩:=hrel;have HCw:=hide (HC4.out.grow hbr.out);have HXw:=hide (HX4.out.grow hbr.out);clear y0 y1 y2 y3;cases gk with
       | zero=>
        obtain rfl:j=kv:=by omega
        have hjz:¬((j:Int)<(j:Int)):=(by omega);have hall:∀v∈a.2.2,(valV t v).2=0:=fun v hv=>hval.out v (by rw[List.take_of_length_le (by rw[Hk.out];exact Nat.le_refl _)];exact hv)
        have hrel:=zQh (L:=acc) (op:=a.1) (a:=a.2) HOk.out ht0 (by rw[hop];exact hopn) (by rw[ht];exact hall);have hok2:=zK5 (L:=acc) (op:=a.1) (a:=a.2) HOk.out;rw[ht,hty,hop] at hrel;rw[hop] at hok2;have hGj:=HGi.out;rw[hop] at hGj;have hpk:=HOk.out.pick t;have hpl:=HWd.out.pick t;have hps:=zL7 HOk.out t;have hlen:=zN9 (t:=t) (x:=ty) (op:=op) (l:=pickE acc t) (vs:=a.2.2);have hne9:ne<=1000000:=by rw[HC4.out.reads.2.2];exact Nat.le_trans HWd.out.len (by have:=HfC.out.len;have:=Hml.out;omega)
        have HVl:Hid (∀w,Has w w.heap.size 2 Ae ne ys->EAs w w.heap.size ys acc->Calls Tryz.prog 22 #[.agg #[.string NT,.slice Ae ne ce],.string TT1] w (ValsPost (pickE acc t) w)):=hide (fun w hA hL=>by
         have:=zD2 nm acc t w Ae ne ce ys hA hL hne9 (by omega) (fun a ha=>by have:=(HWd.out.each a ha).1;have:=Hcle.out;have:=Hcn.out;omega)
         rw[hvt,HNT.out,HTT.out] at this
         exact this)
        have hsum:(pickE acc t).length+a.2.2.length<=1000000:=by have:=hpl.1;have:=Hcle.out;have:=Hcn.out;have:=Hk.out;omega
        obtain⟨RV,hRV⟩:∃RV,changeV t ty op (pickE acc t) a.2.2=RV:=⟨_,rfl⟩;have HChg:Hid (∀(wd w5:World) (lv:Value),Below wd.heap.size wd w5->w5.ownsRow wd.heap.size 9 1 lv (pickE acc t).length (strs (pickE acc t))->Below w.heap.size w wd->Calls Tryz.prog 43 #[.agg #[.int .i64 op,.string TA,.slice V j cv],.string TT1,.int .i64 ty,lv] w5 (RChgPost RV wd.heap.size w5)):=hide (fun wd w5 lv hb5 hown hbw=>by
         have hVd:Has w5 wd.heap.size 1 V j (strs a.2.2):=((HVv.out.below hbw).upto hbw.size).below hb5
         have:=zMp a.2.1 t ty op htx hopn (pickE acc t) a.2.2 w5 wd.heap.size hb5.size V j cv hVd Hcm.out.1 Hcm.out.2 lv hown hall hpk.1 hpk.2 hsum (by omega) (fun v hv=>Hva.out.2 v hv) (fun v hv=>by have:=hps v hv;omega) (fun w' hw'=>HT.out.below (hbw.trans ((hb5.trans hw').mono hbw.size)))
         rw[HTA.out,HTT.out,hRV] at this
         exact this)
        rw[hRV] at hrel hlen;obtain⟨R1,rc⟩:=RV;simp only at hrel hlen;have Hrel:=hide hrel;have Hlen:=hide hlen;have Hok2:=hide hok2;have HGj:=hide hGj;have Hht:=hide htn;have Hpl:=hide hpl;clear hrel hlen hok2 hGj hall hpk hpl hps hRV hsum hval HGi hop hops ht hty htx hvt htn ht0 HVa hopn Hcm HVv Hva HC4 HX4 hbr;go_wp2_with fail;refine zAj wr.heap.size (by kernel_rfl) ?_;have hdr:Below wr.heap.size wr wr.drew:=(Below.refl _ _).drew;have HW0:=hide hdr;have HCd:=hide (HCw.out.grow hdr);have HXd:=hide (HXw.out.grow hdr);clear hdr;generalize wr.drew=wd at *;refine zAa 0 (some 70) (v:=?vb0) rfl rfl (by kernel_rfl) rfl (by rfl) (fun W hW=>?yb0) ?_
        case yb0=>have k0:=(HXw.out.grow (HW0.out.trans hW)).c0;have k1:=(HXw.out.grow (HW0.out.trans hW)).c1;have k2:=(HXw.out.grow (HW0.out.trans hW)).c2;go_simp<;>with_reducible rfl
        (try simp only[pUz]);refine yTk 1 (some 71) ?_;(try simp only[pUz]);refine yTk 2 (some 72) ?_;(try simp only[pUz]);refine zAa 3 (some 73) (v:=?vb3) rfl rfl (by kernel_rfl) rfl (by rfl) (fun W hW=>?yb3) ?_
        case yb3=>have k0:=(HCw.out.grow (HW0.out.trans hW)).box.cells 0 _ rfl;have k1:=(HCw.out.grow (HW0.out.trans hW)).box.cells 1 _ rfl;go_simp<;>with_reducible rfl
        (try simp only[pUz]);refine yTk 4 (some 74) ?_;(try simp only[pUz]);refine zAb 5 rfl (by kernel_rfl) (fun K hK=>?_);go_simp;refine (HVl.out _ HCd.out.reads.1 HCd.out.reads.2.1).mono ?_;rintro e w5 hpost;obtain⟨v5,rfl,hown5,hb5⟩:=hpost.out;refine hK.out _ _ (hb5.mono HW0.out.size) ?_;have Hown:=hide hown5;have HW5:=hide hb5;clear hK K hpost hown5 hb5 HVl;(try simp only[pUz]);refine zAb 6 rfl (by kernel_rfl) (fun K hK=>?_);go_simp;refine (HChg.out wd w5 v5 HW5.out Hown.out HCd.out.base).mono ?_;rintro e w6 hpost;obtain⟨v6,rfl,hown6,hb6⟩:=hpost.out;refine hK.out _ _ (hb6.mono HW0.out.size) ?_;have Hown6:=hide hown6;have HW6:=hide (HW5.out.trans hb6);clear hK K hpost hown6 hb6 HChg Hown HW5;(try simp only[pUz]);refine yTk 7 (some 69) ?_;(try simp only[pUz]);refine yTk 8 (some 77) ?_;(try simp only[pUz]);refine yTk 9 (some 78) ?_;(try simp only[pUz]);refine yTk 10 (some 13) ?_;(try simp only[pUz]);refine yTk 11 (some 14) ?_;(try simp only[pUz]);refine zAi (by kernel_rfl) ?_ _;have HC6:=hide (HCd.out.grow HW6.out);have hNP:=zCv Hown6.out;obtain⟨B6,c6,rfl,hc6,hP6⟩:=hNP;have hm6:=zCo Hown6.out;by_cases hrc:rc=0
        ·subst hrc;have hr0:(changeL acc op a.2).2=0:=Hrel.out.1;have hGn:=HGj.out;rw[if_neg (by simp[hr0]),Hrel.out.2 hr0] at hGn;have hokn:=Hok2.out hr0;rw[Hrel.out.2 hr0] at hokn;have hR9:R1.length<=20+cntC (cs.take (i+1)):=by have h1:=Hlen.out rfl;have h2:=Hpl.out.1;have h3:=Hcn.out;have h4:=Hk.out;omega
         have hRu:∀u∈R1,u.length<=1000000:=fun u hu=>by
          have h1:=zL7 hokn t;rw[zA5,if_pos rfl] at h1;have:=h1 u hu;omega
         have hQ:HasP w6 (Qb q hB w6) 1 B6 R1.length (strs R1):=HCd.out.own (P:=fun _=>True) (cl:=c6) (Nat.le_refl _) HW6.out hP6;have Hset:=hide (rset_any (Qb q hB w6) nm acc t R1 w6 (fun b hb=>hb.1) Ae ne ce ys HC6.out.reads.1 HC6.out.attrs hne9 B6 c6 hQ hc6 hm6 (by have:=Hcle.out;omega));rw[HNT.out,HTT.out] at Hset;have HWn:Hid (WideA (setE acc t R1) (20+cntC (cs.take (i+1))) (14+(i+1))):=hide (HWd.out.set (by have:=Hcn.out;omega) hR9 hRu);have HGn:=hide hGn;have HOn:=hide hokn;have b0:=HC6.out.box.cells 0 _ rfl;have b1:=HC6.out.box.cells 1 _ rfl;obtain⟨ln,hln⟩:∃x,R1.length=x:=⟨_,rfl⟩;rw[hln] at Hset ⊢;clear hr0 hGn hokn hR9 hRu hQ hln hP6 hc6 hm6 Hown6 HW6 HCd HXd HW0 HCw HXw Hrel Hlen Hok2 HGj Hht Hpl;go_wp2_with (go_at_call 34;fail);refine Hset.out.mono ?_;rintro e w7 hpost;obtain⟨A7,c7,ys7,rfl,hc7,hm7,hh7,he7,hb7⟩:=hpost.out;have HC8:=hide (HC6.out.put hb7 hc7 hm7 hh7 he7);have hC7:=HC6.out.grow hb7;have z0:=hC7.box.cells 0 _ rfl;have z1:=hC7.box.cells 1 _ rfl;have hf:=hC7.box.fz;obtain⟨n7,hn7⟩:∃x,(setE acc t R1).length=x:=⟨_,rfl⟩;rw[hn7] at HC8 ⊢;clear hpost hc7 hm7 hh7 he7 hb7 hC7 hn7 Hset HC6 b0 b1;go_upto_region 23 with fail;clear z0 z1 hf;obtain⟨w8,hw8⟩:∃x,(w7.setCell ⟨hB,0,none⟩ (.string NT)).setCell ⟨hB,1,none⟩ (.slice A7 n7 c7)=x:=⟨_,rfl⟩;rw[hw8] at HC8 ⊢;clear hw8;go_wp2
         go_roundg r
         case measure=>omega
         case rel=>exact⟨i+1,A7,n7,c7,ys7,setE acc t R1,by omega,by go_num,HGn,HC8,HWn,HOn⟩
        ·have q8:(rc==0)=false:=beq_false_of_ne hrc;have q9:(rc !=0)=true:=by unfold bne;rw[q8];rfl
         have hr1:(changeL acc op a.2).2=rc:=Hrel.out.1;have hGn:=HGj.out;rw[if_pos (by rw[hr1];exact hrc),hr1] at hGn;obtain⟨rfl,rfl⟩:=Prod.mk.inj hGn;have hmk:=Hmk.out;rw[if_pos hrc] at hmk;have HRm:=hide hmk.symm;clear hr1 hGn hmk hP6 hc6 hm6 Hown6 HW6 HCd HXd HW0 HCw HXw Hrel Hlen Hok2 HGj Hht Hpl Hmk Hcv HfE HfC HWd HOk Hk Hcn Hcle HTA hrc;have z0:=HC6.out.res.cells 0 _ rfl;have z1:=HC6.out.res.cells 1 _ rfl;have hf:=HC6.out.res.fz;have HBe:=hide HC6.out.base;clear HT HC6;go_wp2
         (try simp only[Exit.inBlock,Exit.then])
         refine bodyPost_ret (v:=.tuple #[.agg #[.string ⟨#[]⟩,.slice none 0 0],.int .i64 rc]) ?_ rfl ?_
         ·rw [results_cell_tmp rfl];go_simp
         exact hide (by rw[HRm.out];exact zBf rfl ((HBe.out.setCell (p:=⟨q,0,none⟩) Hq.out _).setCell (p:=⟨q,1,none⟩) Hq.out _))
       | succ r2=>
        have hj:j<kv:=(by omega);have hjz:(j:Int)<(kv:Int):=(by omega);obtain⟨v,hv⟩:∃v,a.2.2[j]?=some v:=⟨_,List.getElem?_eq_getElem (by rw[Hk.out];exact hj)⟩;obtain⟨gv,ov,hVe,hgv2,hatv⟩:=HVv.out.texts (fun h=>by rw[h] at hv;simp at hv);subst hVe;have x0:=(HCw.out.base.cell (p:=⟨gv,ov+j,none⟩) hgv2).trans (hatv j v hv);have hv9:=Hva.out.2 v (List.mem_of_getElem? hv);have Hcall:=hide (HVa.out v hv9 wr (HT.out.below HCw.out.base));have y2:=HXw.out.c2;have y3:wr.cell? ⟨qc,1+1,none⟩=_:=y2;obtain⟨TV,hTV⟩:∃x,txt v=x:=⟨_,rfl⟩;rw[hTV] at x0 Hcall;obtain⟨vv,hvv⟩:∃x,txt (valV t v).1=x:=⟨_,rfl⟩;rw[hvv] at Hcall;by_cases hy0:(valV t v).2=0
        ·rw [hy0] at Hcall;have Hval2:Hid (∀u∈a.2.2.take (j+1),(valV t u).2=0):=hide (fun u hu=>by
          rw[List.take_add_one,hv] at hu
          rcases List.mem_append.1 hu with hu | hu
          ·exact hval.out u hu
          ·obtain rfl:=List.mem_singleton.1 (by simpa using hu)
           exact hy0)
         clear hvv hTV hgv2 hatv hv hval hy0 HCw HXw;go_wp2_with (go_at_call 32;fail);refine Hcall.out.mono ?_;rintro e w6 ⟨rfl,hb6⟩;have Hbr6:=hTz hbr hb6;clear hb6 Hcall x0 y2 y3 hbr;go_wp2
         go_roundg r2
         case measure=>omega
         case rel=>exact⟨j+1,by omega,by go_num,Hval2,Hbr6⟩
        ·have hz:(changeL acc a.1 a.2)=([],21):=by
          unfold changeL;rw[if_neg ht0,hop,if_neg hopn,if_pos (fun q=>hy0 (by rw[<-ht];exact q v (List.mem_of_getElem? hv)))]
         have hGj:=HGi.out;rw[hz,if_pos (by decide)] at hGj;obtain⟨rfl,rfl⟩:=Prod.mk.inj hGj;have hmk:=Hmk.out;rw[if_pos (by decide)] at hmk;have HRm:=hide hmk.symm;obtain⟨y,hy⟩:∃y,(valV t v).2=y:=⟨_,rfl⟩;rw[hy] at Hcall hy0;have yb:(y==0)=false:=beq_false_of_ne hy0;have yn:(y !=0)=true:=by unfold bne;rw[yb];rfl
         clear hvv hTV hgv2 hatv hv hval hy0 hy hGj hz ht0 hop hops ht hty htx hvt htn hmk Hmk Hcv HfE HfC HWd HOk Hva Hk Hcn Hcle HVv Hcm HTA HGi hbr HXw HC4 HX4;go_wp2_with (go_at_call 32;fail);refine Hcall.out.mono ?_;rintro e w6 ⟨rfl,hb6⟩;have HC6:=hide (HCw.out.grow hb6);clear hb6 Hcall x0 y2 y3 HCw;have z0:=HC6.out.res.cells 0 _ rfl;have z1:=HC6.out.res.cells 1 _ rfl;have hf:=HC6.out.res.fz;have HBe:=hide HC6.out.base;clear HT HC6;go_wp2
         (try simp only[Exit.inBlock,Exit.then])
         refine bodyPost_ret (v:=.tuple #[.agg #[.string ⟨#[]⟩,.slice none 0 0],.int .i64 21]) ?_ rfl ?_
         ·rw [results_cell_tmp rfl];go_simp
         exact hide (by rw[HRm.out];exact zBf rfl ((HBe.out.setCell (p:=⟨q,0,none⟩) Hq.out _).setCell (p:=⟨q,1,none⟩) Hq.out _))
 ·rw [if_pos hf] at hRM;rw[zAq hf] at HF;have HRm:=hide hRM.symm;clear hf hRM Hml Hcv HfE HfC;go_enter Tryz.func18,Tryz.ntmps18;go_upto_region 1 with fail;rw[Hw1.out];obtain⟨hB,hq0⟩:∃q,w.heap.size=q:=⟨_,rfl⟩;have Hq0:Hid (w.heap.size<=hB+1):=hide (by omega);rw[hq0] at HM1;(try rw[hq0]);clear hq0;obtain⟨q,hq⟩:∃q,hB+1=q:=⟨_,rfl⟩;rw[hq] at HM1 Hq0;(try rw[hq]);have Hq:=Hq0;clear hq Hq0;have x0:=HM1.out.box.cells 0 _ rfl;have x1:=HM1.out.box.cells 1 _ rfl;go_wp2_with (go_at_call 21;fail);refine HF.out.mono ?_;rintro e w2 ⟨rfl,hb2⟩;have HM2:=hide (HM1.out.grow hb2);clear hb2 HF HM1 x0 x1 Hw1;have z0:=HM2.out.res.cells 0 _ rfl;have z1:=HM2.out.res.cells 1 _ rfl;have hf:=HM2.out.res.fz;have HBe:=hide HM2.out.base;clear HT HM2;go_wp2
  (try simp only[Exit.inBlock,Exit.then])
  refine bodyPost_ret (v:=.tuple #[.agg #[.string ⟨#[]⟩,.slice none 0 0],.int .i64 1]) ?_ rfl ?_
  ·rw [results_cell_tmp rfl];go_simp
  exact hide (by rw[HRm.out];exact zBf rfl ((HBe.out.setCell (p:=⟨q,0,none⟩) Hq.out _).setCell (p:=⟨q,1,none⟩) Hq.out _))
end Go.Proofs.YtadlmhclpaifoaaGreatDoor
