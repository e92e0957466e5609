/- The program's Rename. By an AI agent. -/
import Derived.Test.YtnccdnfkhohobaaGreatDoorDTakeP
import Derived.Test.YtnccdnfkhohobaaGreatDoorDU
import Derived.Test.YtnccdnfkhohobaaGreatDoorDP
import Derived.Test.YtnccdnfkhohobaaGreatDoorDZ
set_option linter.unusedSimpArgs false
set_option linter.unusedVariables false
set_option maxRecDepth 100000
set_option maxHeartbeats 64000000
namespace Go.Proofs.YtnccdnfkhohobaaGreatDoor
open Go Go.RowKit Go.Maps
theorem zKs (nm:List UInt8) (L:List EA) (tn:List UInt8) (del:Bool) (w:World) (A:Option Addr) (n c:Nat) (xs:List Value) (hA:Has w w.heap.size 2 A n xs) (hL:EAs w w.heap.size xs L) (hE:FitE nm L) (hto:tn.length<=1000000) (hT:TM w):
  Calls Tryz.prog 6 #[.agg #[.string (txt nm),.slice A n c],.string (txt tn),.bool del] w (MadePost (renE nm L tn del).1 (renE nm L tn del).2.1 (renE nm L tn del).2.2 w):=by
 have hn:n<=1000000:=by rw[hA.eas_n hL];exact hE.len
 have hX:=Two2.new w (txt nm) A n c 24;have hb1:Below w.heap.size w ((w.alloc (.cells #[.string (txt nm),.slice A n c] 24)).alloc (.cells #[.string ⟨#[]⟩,.slice none 0 0] 24)):=((Below.refl _ w).alloc (Nat.le_refl _) _).alloc (by simp) _;obtain⟨w1,hw1⟩:∃w1,(w.alloc (.cells #[.string (txt nm),.slice A n c] 24)).alloc (.cells #[.string ⟨#[]⟩,.slice none 0 0] 24)=w1:=⟨_,rfl⟩;rw[hw1] at hX hb1;have HF:=hide (zCx nm L w1 A n c xs ((hA.below hb1).upto hb1.size) (hL.grow hb1) hn hE.nm hE.val (hT.below hb1));have HX:=hide hX;have HB1:=hide hb1;have Hw1:=hide hw1;have HA:=hide hA;have HL:=hide hL;have HT:=hide hT;have HE:=hide hE;have Hn:=hide hn;have Hto:=hide hto;have x0:=hX.b0.c0;have x1:=hX.b0.c1;have r0:=hX.b1.c0;have r1:=hX.b1.c1;have rf:=hX.fz;obtain⟨RM,hRM⟩:∃RM,renE nm L tn del=RM:=⟨_,rfl⟩;rw[hRM];unfold renE at hRM;have HNn:=hide (fun w hT=>zFs tn hto w hT);clear hA hL hT hE hn hX hb1 hw1 hto;obtain⟨S,hS⟩:∃S,txt nm=S:=⟨_,rfl⟩;have HS:=hide hS;rw[hS] at HF HX Hw1 x0;rw[hS];clear hS;obtain⟨TO,hTO⟩:∃S,txt tn=S:=⟨_,rfl⟩;have HTO:=hide hTO;rw[hTO] at HNn;rw[hTO];clear hTO;by_cases hf:FormedE nm L
 ·rw [if_neg (fun q=>q hf)] at hRM;rw[zAm hf] at HF;by_cases h1:(normT tn).2≠0\/(normT tn).1=[]
  ·rw [if_pos h1] at hRM;obtain⟨TO9,hTO9⟩:∃S,txt (normT tn).1=S:=⟨_,rfl⟩;rw[hTO9] at HNn;clear hTO9;subst hRM;have hnb:nnB tn=false:=by
    unfold nnB;by_cases h2:(normT tn).2=0
    ·rcases h1 with h1 | h1
     ·exact absurd h2 h1
     ·rw [h2,h1];rfl
    ·rw [show ((normT tn).2==0)=false from beq_false_of_ne h2];rfl
   rw[hnb] at HNn;clear hnb hf h1;go_enter Tryz.func6,Tryz.ntmps6;go_upto_region 1 with fail;rw[Hw1.out];obtain⟨q,hq⟩:∃q,w.heap.size=q:=⟨_,rfl⟩;rw[hq] at HX x0 x1 r0 r1 rf;(try rw[hq]);have Hq:=hide hq;clear hq;go_wp2_with (go_at_call 9;fail);refine HF.out.mono ?_;rintro e w2 ⟨rfl,hb2⟩;have HX2:=hide (HX.out.grow hb2);have HB2:=hTz HB1 hb2;clear hb2 HF x0 x1 r0 r1 rf HX;have HN2:=hide (HNn.out w2 (HT.out.below HB2.out));clear HNn;go_wp2_with (go_at_call 12;fail);refine HN2.out.mono ?_;rintro e w3 ⟨rfl,hb3⟩;have HX3:=hide (HX2.out.grow hb3);have HB3:=hTz HB2 hb3;clear hb3 HN2 HX2 HB2;have z0:=HX3.out.b1.c0;have z1:=HX3.out.b1.c1;have zf:=HX3.out.fz;clear HX3;go_wp2
   (try simp only[Exit.inBlock,Exit.then])
   refine bodyPost_ret (v:=.tuple #[.agg #[.string ⟨#[]⟩,.slice none 0 0],.int .i64 34]) ?_ rfl ?_
   ·rw [results_cell_tmp rfl];go_simp
   exact zBy rfl ((HB3.out.setCell (p:=⟨q+1,0,none⟩) (by rw[<-Hq.out];exact Nat.le_succ _) _).setCell (p:=⟨q+1,1,none⟩) (by rw[<-Hq.out];exact Nat.le_succ _) _)
  ·rw [if_neg h1] at hRM;have h0:(normT tn).2=0:=Classical.byContradiction fun q=>h1 (.inl q)
   have hna:=zA3 h0;have hn9:normT (normT tn).1=((normT tn).1,0):=hna.1.trans (Prod.ext rfl h0);have hne9:(normT tn).1≠[]:=fun q=>h1 (.inr q)
   have Hn1:=hide hna.2;obtain⟨to9,hto9⟩:∃x,(normT tn).1=x:=⟨_,rfl⟩;have HT9:=hide hto9;rw[hto9] at HNn hRM hn9 hne9 Hn1;have hne9':¬(normT tn).1=[]:=by rw[hto9];exact hne9
   obtain⟨TO9,hTO9⟩:∃S,txt to9=S:=⟨_,rfl⟩;have HTO9:=hide hTO9;rw[hTO9] at HNn;clear hTO9 hna hto9;have Hn9:=hide (And.intro hn9 hne9);have Hmk:=hide hRM;have Hgat:=hide (zH8 hf.loose.attrs);have Hcn:Hid (cntE L<=280):=hide (by
    have:=zCs (fun a:EA=>a.2.length) L 20 fun a ha=>(hf.loose.attrs.each a ha).hi
    have:=hf.loose.attrs.le
    unfold cntE
    omega)
   have hnb:nnB tn=true:=by unfold nnB;rw[h0];simpa using hne9'
   rw[hnb] at HNn;clear hn9 hne9 hne9' hRM hf hnb h0 h1;go_enter Tryz.func6,Tryz.ntmps6;go_upto_region 1 with fail;rw[Hw1.out];obtain⟨q,hq⟩:∃q,w.heap.size=q:=⟨_,rfl⟩;rw[hq] at HX x0 x1 r0 r1 rf;(try rw[hq]);have Hq:=hide hq;clear hq;go_wp2_with (go_at_call 9;fail);refine HF.out.mono ?_;rintro e w2 ⟨rfl,hb2⟩;have HX2:=hide (HX.out.grow hb2);have HB2:=hTz HB1 hb2;clear hb2 HF x0 x1 r0 r1 rf HX;have HN2:=hide (HNn.out w2 (HT.out.below HB2.out));clear HNn;go_wp2_with (go_at_call 12;fail);refine HN2.out.mono ?_;rintro e w3 ⟨rfl,hb3⟩;have HX3:=hide (HX2.out.grow hb3);have HB3:=hTz HB2 hb3;clear hb3 HN2 HX2 HB2;have z1:=HX3.out.b0.c1;have HD:=hide (zKi L L w3 A n c xs ((HA.out.below HB3.out).upto HB3.out.size) ((HL.out.below HB3.out).upto HB3.out.size) (HT.out.below HB3.out) Hn.out HE.out.typ (fun a ha=>(HE.out.val a ha).2) (by have:=Hcn.out;omega) Hgat.out);go_wp2_with (go_at_call 13;fail);refine HD.out.mono ?_;rintro e w4 hpost;obtain⟨d,rfl,hD4,hb4⟩:=hpost.out;have HD4:=hide hD4;have HB4:=hTz HB3 hb4;have HX4:=hide (HX3.out.grow hb4);have HB34:=hide hb4;clear hpost hD4 hb4 HD z1;have HTk:=hide (zJi w4 HD4.out tn Hto.out (fun w' hw'=>HT.out.below (HB3.out.trans ((HB34.out.trans hw').mono HB3.out.size))) (by have:=Hcn.out;omega));rw[HTO.out] at HTk;go_wp2_with (go_at_call 14;fail);refine HTk.out.mono ?_;rintro e w5 hp;obtain rfl:=hp.end_;obtain⟨nx5,hn5,hD5⟩:=hp.draft;have HB35:=hide (HB34.out.trans hp.below);have HB5:=hide (HB3.out.trans (HB35.out.mono HB3.out.size));have HX5:=hide (HX3.out.grow HB35.out);have HD5:=hide hD5;clear hp HTk hD5 HD4 HB4 HX4 HB34;cases del with
   | true=>
    have HLv:=hide (zHm w5 HD5.out nm to9 HE.out.nm (by have:=Hn1.out;omega) (fun w' hw'=>HT.out.below (HB3.out.trans ((HB35.out.trans hw').mono HB3.out.size))));rw[HS.out,HTO9.out] at HLv;have z0:=HX5.out.b0.c0;go_wp2_with (go_at_call 15;fail);refine HLv.out.mono ?_;rintro e w6 hp;obtain rfl:=hp.end_;obtain⟨nx6,hn6,hD6⟩:=hp.draft;have HB36:=hide (HB35.out.trans hp.below);have HB6:=hide (HB3.out.trans (HB36.out.mono HB3.out.size));have HX6:=hide (HX3.out.grow HB36.out);have HD6:=hide (show Draft w6 w3.heap.size d nx6 (renL nm L tn true) from by unfold renL;rw[if_pos rfl,HT9.out];exact hD6);have hcn:=Hcn.out;clear hp HLv hD6 HD5 HB5 HX5 HB35 HB36 z0 HX3;have HEn:=hide (zKr w6 (HD6.out) to9 Hn9.out.1 Hn9.out.2 64 (by decide) (HT.out.below HB6.out) (by omega));rw[HTO9.out] at HEn;have HE2:Hid (Calls Tryz.prog 16 #[.pointer (some ⟨d,0,none⟩),.string TO9,.int .i64 64] w6 (MadePost RM.1 RM.2.1 RM.2.2 w6)):=hide (HEn.out.mono fun e w' hd=>by
     have hq:=Hmk.out
     by_cases h0:endE to9 (renL nm L tn true) 64=0
     ·rw [if_neg (by simp[h0])] at hq
      rw[<-hq]
      exact hd.ok h0
     ·rw [if_pos h0] at hq
      rw[<-hq]
      exact hd.bad h0)
    clear HEn HD6;obtain⟨X1,hX1⟩:∃x,RM.1=x:=⟨_,rfl⟩;obtain⟨X2,hX2⟩:∃x,RM.2.1=x:=⟨_,rfl⟩;obtain⟨X3,hX3⟩:∃x,RM.2.2=x:=⟨_,rfl⟩;rw[hX1,hX2,hX3] at HE2;have HXX:=hide (And.intro hX1 (And.intro hX2 hX3));clear hX1 hX2 hX3 Hmk;go_wp2_with (go_at_call 16;fail);refine HE2.out.mono ?_;rintro e w7 hpost;obtain⟨A7,c7,zs,rfl,hc7,hm7,hH7,hE7,hb7⟩:=hpost.out;have z0:=(HX6.out.grow hb7).b1.c0;have z1:=(HX6.out.grow hb7).b1.c1;have zf:=(HX6.out.grow hb7).fz;have Hqlt:=hide (HX6.out.b1.lt);obtain⟨kk,hkk⟩:∃kk,X2.length=kk:=⟨_,rfl⟩;have Hkk:=hide hkk;obtain⟨TX,hTX⟩:∃TX,txt X1=TX:=⟨_,rfl⟩;have HTX:=hide hTX;have HHE:=hide (And.intro hc7 (And.intro hm7 (And.intro hH7 (And.intro hE7 hb7))));rw[hkk,hTX];clear hpost hc7 hm7 hH7 hE7 hb7 hkk hTX HE2 HX6;go_wp2
    (try simp only[Exit.inBlock,Exit.then])
    refine bodyPost_ret (v:=.tuple #[.agg #[.string TX,.slice A7 kk c7],.int .i64 X3]) ?_ rfl ?_
    ·rw [results_cell_tmp rfl];go_simp
    obtain⟨hc7,hm7,hH7,hE7,hb7⟩:=HHE.out;obtain⟨e1,e2,e3⟩:=HXX.out;rw[e1,e2,e3];have hsz:((w7.setCell ⟨q+1,0,none⟩ (.string TX)).setCell ⟨q+1,1,none⟩ (.slice A7 kk c7)).heap.size=w7.heap.size:=by simp[World.setCell]
    have far:∀p:Addr,NewB w6.heap.size w7.heap.size p.block->((w7.setCell ⟨q+1,0,none⟩ (.string TX)).setCell ⟨q+1,1,none⟩ (.slice A7 kk c7)).cell? p=w7.cell? p:=fun p hp=>by
     have hne:q+1≠p.block:=(by have:=hp.1;have:=Hqlt.out;omega);rw[World.cell?_setCell_far _ _ _ _ hne,World.cell?_setCell_far _ _ _ _ hne]
    refine⟨A7,c7,zs,by rw[HTX.out,Hkk.out],hc7,hm7,hH7.move far fun b hb=>⟨Nat.le_trans HB6.out.size hb.1,by rw[hsz];exact hb.2⟩,hE7.move far fun b hb=>⟨Nat.le_trans HB6.out.size hb.1,by rw[hsz];exact hb.2⟩,?_⟩;exact ((HB6.out.trans (hb7.mono HB6.out.size)).setCell (p:=⟨q+1,0,none⟩) (by rw[<-Hq.out];exact Nat.le_succ _) _).setCell (p:=⟨q+1,1,none⟩) (by rw[<-Hq.out];exact Nat.le_succ _) _
   | false=>
    have HD6:=hide (show Draft w5 w3.heap.size d nx5 (renL nm L tn false) from by unfold renL;rw[if_neg (by simp)];exact HD5.out);have hcn:=Hcn.out;clear HD5 HB35 HX3;have HEn:=hide (zKr w5 (HD6.out) to9 Hn9.out.1 Hn9.out.2 64 (by decide) (HT.out.below HB5.out) (by omega));rw[HTO9.out] at HEn;have HE2:Hid (Calls Tryz.prog 16 #[.pointer (some ⟨d,0,none⟩),.string TO9,.int .i64 64] w5 (MadePost RM.1 RM.2.1 RM.2.2 w5)):=hide (HEn.out.mono fun e w' hd=>by
     have hq:=Hmk.out
     by_cases h0:endE to9 (renL nm L tn false) 64=0
     ·rw [if_neg (by simp[h0])] at hq
      rw[<-hq]
      exact hd.ok h0
     ·rw [if_pos h0] at hq
      rw[<-hq]
      exact hd.bad h0)
    clear HEn HD6;obtain⟨X1,hX1⟩:∃x,RM.1=x:=⟨_,rfl⟩;obtain⟨X2,hX2⟩:∃x,RM.2.1=x:=⟨_,rfl⟩;obtain⟨X3,hX3⟩:∃x,RM.2.2=x:=⟨_,rfl⟩;rw[hX1,hX2,hX3] at HE2;have HXX:=hide (And.intro hX1 (And.intro hX2 hX3));clear hX1 hX2 hX3 Hmk;go_wp2_with (go_at_call 16;fail);refine HE2.out.mono ?_;rintro e w7 hpost;obtain⟨A7,c7,zs,rfl,hc7,hm7,hH7,hE7,hb7⟩:=hpost.out;have z0:=(HX5.out.grow hb7).b1.c0;have z1:=(HX5.out.grow hb7).b1.c1;have zf:=(HX5.out.grow hb7).fz;have Hqlt:=hide (HX5.out.b1.lt);obtain⟨kk,hkk⟩:∃kk,X2.length=kk:=⟨_,rfl⟩;have Hkk:=hide hkk;obtain⟨TX,hTX⟩:∃TX,txt X1=TX:=⟨_,rfl⟩;have HTX:=hide hTX;have HHE:=hide (And.intro hc7 (And.intro hm7 (And.intro hH7 (And.intro hE7 hb7))));rw[hkk,hTX];clear hpost hc7 hm7 hH7 hE7 hb7 hkk hTX HE2 HX5;go_wp2
    (try simp only[Exit.inBlock,Exit.then])
    refine bodyPost_ret (v:=.tuple #[.agg #[.string TX,.slice A7 kk c7],.int .i64 X3]) ?_ rfl ?_
    ·rw [results_cell_tmp rfl];go_simp
    obtain⟨hc7,hm7,hH7,hE7,hb7⟩:=HHE.out;obtain⟨e1,e2,e3⟩:=HXX.out;rw[e1,e2,e3];have hsz:((w7.setCell ⟨q+1,0,none⟩ (.string TX)).setCell ⟨q+1,1,none⟩ (.slice A7 kk c7)).heap.size=w7.heap.size:=by simp[World.setCell]
    have far:∀p:Addr,NewB w5.heap.size w7.heap.size p.block->((w7.setCell ⟨q+1,0,none⟩ (.string TX)).setCell ⟨q+1,1,none⟩ (.slice A7 kk c7)).cell? p=w7.cell? p:=fun p hp=>by
     have hne:q+1≠p.block:=(by have:=hp.1;have:=Hqlt.out;omega);rw[World.cell?_setCell_far _ _ _ _ hne,World.cell?_setCell_far _ _ _ _ hne]
    refine⟨A7,c7,zs,by rw[HTX.out,Hkk.out],hc7,hm7,hH7.move far fun b hb=>⟨Nat.le_trans HB5.out.size hb.1,by rw[hsz];exact hb.2⟩,hE7.move far fun b hb=>⟨Nat.le_trans HB5.out.size hb.1,by rw[hsz];exact hb.2⟩,?_⟩;exact ((HB5.out.trans (hb7.mono HB5.out.size)).setCell (p:=⟨q+1,0,none⟩) (by rw[<-Hq.out];exact Nat.le_succ _) _).setCell (p:=⟨q+1,1,none⟩) (by rw[<-Hq.out];exact Nat.le_succ _) _
 ·rw [if_pos hf] at hRM;subst hRM;rw[zAq hf] at HF;clear hf HNn;go_enter Tryz.func6,Tryz.ntmps6;go_upto_region 1 with fail;rw[Hw1.out];obtain⟨q,hq⟩:∃q,w.heap.size=q:=⟨_,rfl⟩;rw[hq] at HX x0 x1 r0 r1 rf;(try rw[hq]);have Hq:=hide hq;clear hq;go_wp2_with (go_at_call 9;fail);refine HF.out.mono ?_;rintro e w2 ⟨rfl,hb2⟩;have HX2:=hide (HX.out.grow hb2);have HB2:=hTz HB1 hb2;clear hb2 HF x0 x1 r0 r1 rf HX;have z0:=HX2.out.b1.c0;have z1:=HX2.out.b1.c1;have zf:=HX2.out.fz;clear HX2;go_wp2
  (try simp only[Exit.inBlock,Exit.then])
  refine bodyPost_ret (v:=.tuple #[.agg #[.string ⟨#[]⟩,.slice none 0 0],.int .i64 1]) ?_ rfl ?_
  ·rw [results_cell_tmp rfl];go_simp
  exact zBy rfl ((HB2.out.setCell (p:=⟨q+1,0,none⟩) (by rw[<-Hq.out];exact Nat.le_succ _) _).setCell (p:=⟨q+1,1,none⟩) (by rw[<-Hq.out];exact Nat.le_succ _) _)
end Go.Proofs.YtnccdnfkhohobaaGreatDoor
