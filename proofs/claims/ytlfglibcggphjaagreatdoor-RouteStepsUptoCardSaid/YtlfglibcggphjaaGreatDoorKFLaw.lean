/- The statement that a path goes step by step. By an AI agent. -/
import Derived.Test.YtlfglibcggphjaaGreatDoorKFAwake
import Derived.Test.YtlfglibcggphjaaGreatDoorKFTheirs
import Derived.Test.YtlfglibcggphjaaGreatDoorGrow
import Derived.Test.YtlfglibcggphjaaGreatDoorOpenCfg
set_option linter.unusedSimpArgs false
set_option linter.unusedVariables false
set_option maxRecDepth 100000
set_option maxHeartbeats 64000000
namespace Go.Proofs.YtlfglibcggphjaaGreatDoor
open Go Go.RowKit
structure BoolIf (P:Prop) (w:World) (e:Ending) (w':World):Prop where
 out:∃b:Bool,e=.returned (.bool b)/\(b=true->P)/\Below w.heap.size w w'
theorem kfew_any (L:List (List CX)) (Top:List CT) (nm:List UInt8) (w:World) (A:Option Addr) (n c:Nat) (T:Option Addr) (m d:Nat) (hR:CfgR w A n T m L Top) (hW:CfgW L Top) (hB:CfgB L):
  Calls Tryz.prog 5 #[.agg #[.slice A n c,.slice T m d],.string (txt nm)] w (BoolIf (CfgS L/\nm.length<=3000) w):=by
 suffices H:Calls Tryz.prog 5 #[.agg #[.slice A n c,.slice T m d],.string (txt nm)] w fun e w'=>Hid (BoolIf (CfgS L/\nm.length<=3000) w e w') from H.mono fun e w' h=>h.out
 have hb1:=below1 w (.cells #[.slice A n c,.slice T m d] 25);have hX:Blk (w.alloc (.cells #[.slice A n c,.slice T m d] 25)) w.heap.size [.slice A n c,.slice T m d]:=Blk.new w [.slice A n c,.slice T m d] 25;obtain⟨w1,hw1⟩:∃w1,w.alloc (.cells #[.slice A n c,.slice T m d] 25)=w1:=⟨_,rfl⟩;rw[hw1] at hb1 hX;have HSm:=hide (zIe L Top w1 A n c T m d (hR.grow hb1) hW hB);have hsz:(txt nm).size=nm.length:=zAf nm;have x0:=hX.cells 0 _ rfl;have x1:=hX.cells 1 _ rfl;have HB:=hide hb1;have Hw1:=hide hw1;generalize txt nm=S at *;have Hsz:=hide hsz;clear hb1 hX hw1 hR hW hB hsz;go_enter Tryz.func5,Tryz.ntmps5;go_upto_region 1 with fail;rw[Hw1.out];clear Hw1;obtain⟨h,hh⟩:∃h,w.heap.size=h:=⟨_,rfl⟩;rw[hh] at x0 x1;(try rw[hh]);clear hh;go_wp2_with (go_at_call 10;fail);refine HSm.out.mono ?_;rintro e w2 hp;obtain⟨b,rfl,hb,hbl⟩:=hp.out;have HE:=hTz HB hbl;have Hb:=hide hb;clear hp hb hbl HSm HB x0 x1;cases b with
 | false=>
  go_wp2;go_ret;exact hide ⟨⟨false,rfl,fun h=>(by cases h),HE.out⟩⟩
 | true=>
  by_cases hl:(S.size:Int)<=3000
  ·go_wp2;go_ret;exact hide ⟨⟨true,rfl,fun _=>⟨Hb.out (by simp),by have:=Hsz.out;omega⟩,HE.out⟩⟩
  ·go_wp2;go_ret;exact hide ⟨⟨_,rfl,fun h=>(by have:=of_decide_eq_true h;omega),HE.out⟩⟩
theorem zIt (l:List Nat) (w:World) (A B:Option Addr) (n c m d:Nat) (hA:HasP w (fun b=>b<w.heap.size) 1 A n (intsV l)) (hB:HasP w (fun b=>b<w.heap.size) 1 B m (intsV l)) (hn:n<=3000000):
  Calls Tryz.prog 9 #[.slice A n c,.slice B m d] w fun e w'=>e=.returned (.bool true)/\Below w.heap.size w w':=by
 have h1:n=l.length:=by have:=hA.1;unfold intsV at this;rw[List.length_map] at this;omega
 have h2:m=l.length:=by have:=hB.1;unfold intsV at this;rw[List.length_map] at this;omega
 obtain rfl:m=n:=by omega
 have HA:=hide hA;have HB:=hide hB;have Hn:=hide h1;clear hA hB h1 h2;go_enter Tryz.func9,Tryz.ntmps9;go_wp2
 go_loopg [13] m (fun r s13 wx=>∃i:Nat,i+r=m/\s13=.int .i64 (i:Int)/\Hid (Below w.heap.size w wx))
 case atStart=>exact⟨0,by omega,rfl,hide (Below.refl _ _)⟩
 case round=>
  obtain⟨i,hig,rfl,hbr⟩:=hrel;cases gk with
  | zero=>
   obtain rfl:i=m:=by omega
   have hiz:¬((i:Int)<(i:Int)):=by omega
   clear HA HB Hn;go_wp2;go_ret;exact⟨rfl,hbr.out⟩
  | succ r=>
   have hi:i<m:=by omega
   have hiz:(i:Int)<(m:Int):=by omega
   obtain⟨x,hx⟩:∃x,l[i]?=some x:=⟨_,List.getElem?_eq_getElem (by rw[<-Hn.out];exact hi)⟩;obtain⟨g,o,hAe,hg,hc⟩:=zEl HA.out (fun h=>by rw[h] at hx;simp at hx);obtain⟨g',o',hBe,hg',hc'⟩:=zEl HB.out (fun h=>by rw[h] at hx;simp at hx);subst hAe hBe;have x0:=(hbr.out.cell (p:=⟨g,o+i,none⟩) hg).trans (hc i x hx);have y0:=(hbr.out.cell (p:=⟨g',o'+i,none⟩) hg').trans (hc' i x hx);clear hx hc hc' HA HB Hn;go_wp2
   go_quiet (fail)
   go_wp2
   go_roundg r
   case measure=>omega
   case rel=>exact⟨i+1,by omega,by go_num,hide (Below.drewN hbr.out _)⟩
theorem zI6 {w:World} {gp op:Nat} {L:List Nat} {n j:Nat} (h:HasP w (fun b=>b<w.heap.size) 1 (some ⟨gp,op,none⟩) n (intsV L)):HasP w (fun b=>b<w.heap.size) 1 (some ⟨gp,op+j,none⟩) (n-j) (intsV (L.drop j)):=by
 have hd:intsV (L.drop j)=(intsV L).drop j:=by unfold intsV;rw[List.map_drop]
 rw[hd];refine⟨by rw[List.length_drop];have:=h.1;omega,?_⟩;rcases h.2 with h2 | ⟨ad,e,hb,hc⟩
 ·exact .inl (by rw[h2];simp)
 ·have e2:=Option.some.inj e;subst e2;refine .inr ⟨⟨gp,op+j,none⟩,rfl,hb,fun k u hu=>?_⟩;rw[List.getElem?_drop] at hu;have:=hc (j+k) u hu;rw[show (⟨gp,op,none⟩:Addr).add (j+k)=⟨gp,op+(j+k),none⟩ by simp only[Addr.add];split<;>simp_all] at this;rw[show (⟨gp,op+j,none⟩:Addr).add k=⟨gp,op+(j+k),none⟩ by rw[<-Nat.add_assoc];simp only[Addr.add];split<;>simp_all];exact this
theorem zH9 (L:List (List CX)) (Top:List CT) (nm:List UInt8) (s:Int) (w:World) (A:Option Addr) (n c:Nat) (T:Option Addr) (m d:Nat) (hR:CfgR w A n T m L Top) (hW:CfgW L Top) (hB:CfgB L) (hT:TM w):
  Calls Tryz.prog 3 #[.agg #[.slice A n c,.slice T m d],.int .i64 s,.string (txt nm)] w fun e w'=>e=.returned (.bool true)/\Below w.heap.size w w':=by
 suffices H:Calls Tryz.prog 3 #[.agg #[.slice A n c,.slice T m d],.int .i64 s,.string (txt nm)] w fun e w'=>Hid (e=.returned (.bool true)/\Below w.heap.size w w') from H.mono fun e w' h=>h.out
 have hb1:=below1 w (.cells #[.slice A n c,.slice T m d] 25);have hX:Blk (w.alloc (.cells #[.slice A n c,.slice T m d] 25)) w.heap.size [.slice A n c,.slice T m d]:=Blk.new w [.slice A n c,.slice T m d] 25;obtain⟨w1,hw1⟩:∃w1,w.alloc (.cells #[.slice A n c,.slice T m d] 25)=w1:=⟨_,rfl⟩;rw[hw1] at hb1 hX;have HAw:=hide (fun (w:World) (hT:TM w)=>zIb w hT);have HFe:=hide (fun (w:World) (hR:CfgR w A n T m L Top)=>kfew_any L Top nm w A n c T m d hR hW hB);have HTh0:=hide (fun (hS:CfgS L) (w:World) (hR:CfgR w A n T m L Top)=>zGu L Top w A n c T m d hR hW hS);have HPa0:=hide (fun (hn:nm.length<=3000) (s:Int) (w:World) (A:Option Addr) (n c:Nat) (T:Option Addr) (m d:Nat) (hR:CfgR w A n T m L Top) (hT:TM w)=>zFw L Top nm s w A n c T m d hR hW (by omega) hT);have HNe0:=hide (fun (hn:nm.length<=3000) (s:Int) (w:World) (A:Option Addr) (n c:Nat) (T:Option Addr) (m d:Nat) (hR:CfgR w A n T m L Top) (hT:TM w)=>zFl L Top nm s w A n c T m d hR hW (by omega) hT);have HR1:=hide (hR.grow hb1);have HT1:=hide (hT.below hb1);have HX1:=hide hX;have HB1:=hide hb1;have Hw1:=hide hw1;have HW:=hide hW.len;have Hst:=hide (fun (i x y:Nat)=>zF6 (L:=L) (Top:=Top) (nm:=nm) (s:=s) (i:=i) (x:=x) (y:=y));have Hle:Hid ((pathV9 L Top nm s).1.length<=2000001):=hide (by
  unfold pathV9
  have:=hW.len
  by_cases h1:(normT nm).2=0
  ·rw [if_pos h1]
   by_cases h2:thereB L.length s=true
   ·rw [if_pos h2]
    have:=zCu (nx:=nxV L Top nm) L.length (List.replicate L.length false) s.toNat
    omega
   ·rw [if_neg h2];simp
  ·rw [if_neg h1];simp)
 obtain⟨S,hS⟩:∃S,txt nm=S:=⟨_,rfl⟩;rw[hS] at HFe HPa0 HNe0 ⊢;clear hb1 hX hw1 hR hW hB hT hS;go_enter Tryz.func3,Tryz.ntmps3;go_upto_region 1 with fail;rw[Hw1.out];clear Hw1;obtain⟨h0,hh⟩:∃h,w.heap.size=h:=⟨_,rfl⟩;have Hh:=hide hh;rw[hh] at HX1;(try rw[hh]);clear hh;go_wp2_with (go_at_call 4;fail);refine (HAw.out w1 HT1.out).mono ?_;rintro e w2 ⟨rfl,hb2⟩;have HX2:=hide (HX1.out.grow hb2);have HR2:=hide (HR1.out.grow hb2);have HT2:=hide (HT1.out.below hb2);have HB2:=hTz HB1 hb2;have x0:=HX2.out.cells 0 _ rfl;have x1:=HX2.out.cells 1 _ rfl;clear hb2 HX1 HR1 HT1 HB1;go_wp2_with (go_at_call 5;fail);refine (HFe.out w2 HR2.out).mono ?_;rintro e w3 hp3;obtain⟨b,rfl,hb,hb3⟩:=hp3.out;have HX3:=hide (HX2.out.grow hb3);have HR3:=hide (HR2.out.grow hb3);have HT3:=hide (HT2.out.below hb3);have HB3:=hTz HB2 hb3;have Hb:=hide hb;clear hp3 hb hb3 HX2 HR2 HT2 HB2 x0 x1 HFe;cases b with
 | false=>
  go_wp2_with (go_at_call 4;fail);refine (HAw.out w3 HT3.out).mono ?_;rintro e w4 ⟨rfl,hb4⟩;have HE:=hTz HB3 hb4;clear hb4 HAw HX3 HR3 HT3 HB3 Hb HTh0 HPa0 HNe0 Hst Hle HW;go_wp2;go_ret;exact hide ⟨rfl,HE.out⟩
 | true=>
  obtain⟨hcs,hnm⟩:=Hb.out rfl;have HTh:=hide (HTh0.out hcs);have HPa:=hide (HPa0.out hnm);have HNe:=hide (HNe0.out hnm);have x0:=HX3.out.cells 0 _ rfl;have x1:=HX3.out.cells 1 _ rfl;clear hcs hnm Hb HAw HTh0 HPa0 HNe0;go_wp2_with (go_at_call 7;fail);refine (HTh.out w3 HR3.out).mono ?_;rintro e w4 hp4;obtain⟨A4,c4,T4,d4,rfl,hC4,hb4⟩:=hp4.out;have HC4:=hide hC4;have HX4:=hide (HX3.out.grow hb4);have HR4:=hide (HR3.out.grow hb4);have HT4:=hide (HT3.out.below hb4);have HB4:=hTz HB3 hb4;clear hp4 hC4 hb4 HX3 HR3 HT3 HB3 x0 x1;obtain⟨⟨Q,code⟩,hQ⟩:∃R,pathV9 L Top nm s=R:=⟨_,rfl⟩;have HP1:=hide (HPa.out s w4 A4 L.length c4 T4 Top.length d4 HC4.out HT4.out);rw[hQ] at HP1 Hst Hle;clear hQ HC4;generalize L.length=nL at *;generalize Top.length=nT at *;go_wp2_with (go_at_call 6;fail);refine HP1.out.mono ?_;rintro e wP hp5;obtain⟨P,kc,rfl,hkc,hmc,hP5,hb5⟩:=hp5.out;have HP5:=hide hP5;have HX5:=hide (HX4.out.grow hb5);have HR5:=hide (HR4.out.grow hb5);have HT5:=hide (HT4.out.below hb5);have HB5:=hTz HB4 hb5;have hle:=Hle.out;simp only at hle hkc;obtain⟨kp,hkp⟩:∃k,Q.length=k:=⟨_,rfl⟩;simp only[hkp] at HP5 hle hkc ⊢;have Hkp:=hide hkp;unfold maxLen at hmc;clear hp5 hP5 hb5 HX4 HR4 HT4 HB4 HP1 Hle hkp;go_wp2
  go_loopg [9] (kp-1) (fun r s9 wx=>∃i j:Nat,j=i+1/\s9=.int .i64 (j:Int)/\(i+r+1=kp\/(kp=0/\r=0))/\Hid (Below wP.heap.size wP wx))
  case atStart=>exact⟨0,1,rfl,rfl,by omega,hide (Below.refl _ _)⟩
  case round=>
   obtain⟨i,j,hji,rfl,hir,hbr⟩:=hrel;cases gk with
   | zero=>
    have hjz:¬((j:Int)<(kp:Int)):=(by omega);have HE:=hide (HB5.out.trans (hbr.out.mono HB5.out.size));clear hbr HX5 HR5 HT5 HB5 HP5 Hst HTh HPa HNe Hkp;go_wp2;go_ret;exact hide ⟨rfl,HE.out⟩
   | succ r=>
    obtain⟨wo,rfl⟩:∃wo,wo=wr:=⟨_,rfl⟩;have hjk:j<kp:=by omega
    have hjz:(j:Int)<(kp:Int):=(by omega);have hiz:(i:Int)<(kp:Int):=(by omega);have hj1:(j:Int)-1=(i:Int):=(by omega);have hir2:i+r+2=kp:=(by omega);have hwr:IntKind.i64.wrap (i:Int)=(i:Int):=(by rw[IntKind.wrap_i64];omega);obtain⟨px,hpx⟩:∃x,Q[i]?=some x:=⟨_,List.getElem?_eq_getElem (by rw[Hkp.out];omega)⟩;obtain⟨py,hpy⟩:∃x,Q[j]?=some x:=⟨_,List.getElem?_eq_getElem (by rw[Hkp.out];omega)⟩;obtain⟨hnr,hst⟩:=Hst.out i px py hpx (by rw[<-hji];exact hpy);obtain⟨gp,op,hPe,hgp,hat⟩:=zEl HP5.out (fun h=>by rw[h] at hpx;simp at hpx);subst hPe;have Hcx:=hide (hat i px hpx);have Hcy:=hide (hat j py hpy);have HCo:=hide (HR5.out.grow hbr.out);have HTo:=hide (HT5.out.below hbr.out);have HXo:=hide (HX5.out.grow hbr.out);have HBo:=hide (HB5.out.trans (hbr.out.mono HB5.out.size));have Hgp:Hid (gp<wo.heap.size):=hide (Nat.lt_of_lt_of_le hgp hbr.out.size);have hpx2:=(hbr.out.cell (p:=⟨gp,op+i,none⟩) hgp).trans Hcx.out;have hpx:=hide hpx2;have Hnr:=hide hnr;rw[<-hji] at hst;have Hstt:=hide hst;have Hbr:=hide hbr.out;have Hgp5:=hide hgp;have Hji:=hide hji;clear hnr hst hat hpx2 hbr hgp hpy hji hir;go_upto_region 7 with fail;refine zBm none (by kernel_rfl) ?_;have hdr:Below wo.heap.size wo wo.drew:=(Below.refl _ _).drew;have HCd:=hide (HCo.out.grow hdr);have HTd:=hide (HTo.out.below hdr);have HBd:=hTz HBo hdr;have HXd:=hide (HXo.out.grow hdr);have Hbrd:=hTz Hbr hdr;have Hgd:=hide (Nat.lt_of_lt_of_le Hgp.out hdr.size);have Hyd:=hide ((hdr.cell (p:=⟨gp,op+j,none⟩) Hgp.out).trans ((Hbr.out.cell (p:=⟨gp,op+j,none⟩) Hgp5.out).trans Hcy.out));have X0:Hid (∀W,upBut none wo.drew W->W.cell? ⟨h0,0,none⟩=some (.slice A n c)/\W.cell? ⟨h0,1,none⟩=some (.slice T m d)/\W.cell? ⟨gp,op+i,none⟩=some (.int .i64 (px:Int))):=hide fun W hW=>by
     have b5:=HXo.out.grow hdr;exact⟨(hW.cell (p:=⟨h0,0,none⟩) b5.lt (by simp)).trans (b5.cells 0 _ rfl),(hW.cell (p:=⟨h0,1,none⟩) b5.lt (by simp)).trans (b5.cells 1 _ rfl),(hW.cell (p:=⟨gp,op+i,none⟩) (Nat.lt_of_lt_of_le Hgp.out hdr.size) (by simp)).trans ((hdr.cell (p:=⟨gp,op+i,none⟩) Hgp.out).trans hpx.out)⟩
    clear hdr HCo HTo HBo HXo Hbr;generalize wo.drew=wd at *;refine zAa 0 (some 38) (v:=?va0) rfl rfl (by kernel_rfl) rfl (by rfl) (fun W hW=>?ya0) ?_
    case ya0=>obtain⟨k0,k1,_⟩:=X0.out W hW;go_simp<;>with_reducible rfl
    (try simp only[pUz]);refine yTk 2 (some 40) ?_;(try simp only[pUz]);refine yTk 3 (some 41) ?_;(try simp only[pUz]);refine yTk 4 (some 42) ?_;(try simp only[pUz]);refine yTk 5 (some 43) ?_;(try simp only[pUz]);refine zAa 6 (some 44) (v:=?va6) rfl rfl (by kernel_rfl) rfl (by rfl) (fun W hW=>?ya6) ?_
    case ya6=>have k0:=(X0.out W hW).2.2;go_simp<;>with_reducible rfl
    (try simp only[pUz]);refine yTk 7 (some 45) ?_;(try simp only[pUz]);refine zAq 1 rfl (by kernel_rfl) (fun K hK=>?_);go_simp;refine (HTh.out wd HCd.out).mono ?_;rintro e4 w4 hp4;obtain⟨A4,c4,T4,d4,rfl,hC4,hb4⟩:=hp4.out;refine hK.out _ _ (zA4 none hb4) ?_;have HC4:=hide hC4;have HB4:=hide hb4;have HT4:=hide (HTd.out.below hb4);clear hK K hp4 hC4 hb4;(try simp only[pUz]);refine zAq 8 rfl (by kernel_rfl) (fun K hK=>?_);go_simp;have HNr:=HNe.out (px:Int) w4 A4 _ c4 T4 _ d4 HC4.out HT4.out;refine HNr.mono ?_;rintro e5 w5 hp5;obtain⟨rfl,hb5⟩:=hp5.out;refine hK.out _ _ (zA4 none hb5) ?_;have HB5:=hTz HB4 hb5;rw[Hnr.out];clear hK K hp5 hb5 HNr HC4 HT4 HB4;(try simp only[pUz]);refine yTk 9 (some 37) ?_;(try simp only[pUz]);refine yTk 10 (some 47) ?_;(try simp only[pUz]);refine yTk 11 (some 48) ?_;(try simp only[pUz]);refine yTk 12 (some 10) ?_;(try simp only[pUz]);refine yTk 13 (some 11) ?_;(try simp only[pUz]);refine zBe (by kernel_rfl) ?_ _;have HXq:=hide (HXd.out.grow HB5.out);have HCq:=hide (HCd.out.grow HB5.out);have HTq:=hide (HTd.out.below HB5.out);have HBq:=hide (HBd.out.trans (HB5.out.mono HBd.out.size));have Hbq:=hide (Hbrd.out.trans (HB5.out.mono Hbrd.out.size));have Hgq:=hide (Nat.lt_of_lt_of_le Hgd.out HB5.out.size);have hpy:=hide ((HB5.out.cell (p:=⟨gp,op+j,none⟩) Hgd.out).trans Hyd.out);have c5:=hpy.out;clear HXd HCd HTd HBd Hbrd Hgd Hyd HB5 X0;go_upto_region 10 with fail;clear c5;obtain⟨⟨Q5,cd5⟩,hq5⟩:∃R,pathV9 L Top nm (py:Int)=R:=⟨_,rfl⟩;have HPy:=hide (HPa.out (py:Int));rw[hq5] at HPy Hstt;clear hq5;refine zBm none (by kernel_rfl) ?_;have hdr:Below w5.heap.size w5 w5.drew:=(Below.refl _ _).drew;have HCd:=hide (HCq.out.grow hdr);have HTd:=hide (HTq.out.below hdr);have HBd:=hTz HBq hdr;have HXd:=hide (HXq.out.grow hdr);have Hbrd:=hTz Hbq hdr;have Hgd:=hide (Nat.lt_of_lt_of_le Hgq.out hdr.size);skip;have X0:Hid (∀W,upBut none w5.drew W->W.cell? ⟨h0,0,none⟩=some (.slice A n c)/\W.cell? ⟨h0,1,none⟩=some (.slice T m d)/\W.cell? ⟨gp,op+j,none⟩=some (.int .i64 (py:Int))):=hide fun W hW=>by
     have b5:=HXq.out.grow hdr;exact⟨(hW.cell (p:=⟨h0,0,none⟩) b5.lt (by simp)).trans (b5.cells 0 _ rfl),(hW.cell (p:=⟨h0,1,none⟩) b5.lt (by simp)).trans (b5.cells 1 _ rfl),(hW.cell (p:=⟨gp,op+j,none⟩) (Nat.lt_of_lt_of_le Hgq.out hdr.size) (by simp)).trans ((hdr.cell (p:=⟨gp,op+j,none⟩) Hgq.out).trans hpy.out)⟩
    clear hdr HCq HTq HBq HXq Hbq;generalize w5.drew=wd at *;refine zAa 0 (some 60) (v:=?vb0) rfl rfl (by kernel_rfl) rfl (by rfl) (fun W hW=>?yb0) ?_
    case yb0=>obtain⟨k0,k1,_⟩:=X0.out W hW;go_simp<;>with_reducible rfl
    (try simp only[pUz]);refine yTk 2 (some 62) ?_;(try simp only[pUz]);refine yTk 3 (some 63) ?_;(try simp only[pUz]);refine yTk 4 (some 64) ?_;(try simp only[pUz]);refine zAa 5 (some 65) (v:=?vb5) rfl rfl (by kernel_rfl) rfl (by rfl) (fun W hW=>?yb5) ?_
    case yb5=>have k0:=(X0.out W hW).2.2;go_simp<;>with_reducible rfl
    (try simp only[pUz]);refine yTk 6 (some 66) ?_;(try simp only[pUz]);refine zAq 1 rfl (by kernel_rfl) (fun K hK=>?_);go_simp;refine (HTh.out wd HCd.out).mono ?_;rintro e4 w6 hp4;obtain⟨A6,c6,T6,d6,rfl,hC4,hb4⟩:=hp4.out;refine hK.out _ _ (zA4 none hb4) ?_;have HC4:=hide hC4;have HB4:=hide hb4;have HT4:=hide (HTd.out.below hb4);clear hK K hp4 hC4 hb4;(try simp only[pUz]);refine zAq 7 rfl (by kernel_rfl) (fun K hK=>?_);go_simp;have HPr:=HPy.out w6 A6 _ c6 T6 _ d6 HC4.out HT4.out;refine HPr.mono ?_;rintro e5 w7 hp5;obtain⟨P7,k5,rfl,hk5,hm5,hP7,hb5⟩:=hp5.out;refine hK.out _ _ (zA4 none hb5) ?_;have HB7:=hTz HB4 hb5;have HP7:=hide hP7;unfold maxLen at hm5;simp only at hk5;clear hK K hp5 hb5 hP7 HPr HC4 HT4 HB4;(try simp only[pUz]);refine yTk 8 (some 59) ?_;(try simp only[pUz]);refine yTk 9 (some 68) ?_;(try simp only[pUz]);refine yTk 10 (some 69) ?_;(try simp only[pUz]);refine yTk 11 (some 12) ?_;(try simp only[pUz]);refine yTk 12 (some 13) ?_;(try simp only[pUz]);refine zBe (by kernel_rfl) ?_ _;have HBe:=hide (HBd.out.trans (HB7.out.mono HBd.out.size));have Hbe:=hide (Hbrd.out.trans (HB7.out.mono Hbrd.out.size));obtain⟨n5,hn5⟩:∃k,Q5.length=k:=⟨_,rfl⟩;simp only[hn5] at HP7 ⊢;have Hn5:=hide hn5;clear hn5;by_cases h54:code=54
    ·subst h54;clear HXd HCd HTd HBd Hbrd HB7 X0 HP7 Hn5 Hgd;go_wp2
     go_roundg r
     case measure=>omega
     case rel=>exact⟨i+1,j+1,by rw[Hji.out],by go_num,by omega,Hbe⟩
    ·have he:=Hstt.out h54;injection he with he1 he2
     have hcc:(code==54)=false:=beq_false_of_ne h54;subst he2;have HQ7:Hid (HasP w7 (fun b=>b<w7.heap.size) 1 (some ⟨gp,op+j,none⟩) (kp-j) (intsV Q5)):=hide (by
      rw[he1]
      exact zI6 (HP5.out.grow Hbe.out))
     have HSm:Hid (∀c d,Calls Tryz.prog 9 #[.slice P7 n5 c,.slice (some ⟨gp,op+j,none⟩) (kp-j) d] w7 fun e w'=>e=.returned (.bool true)/\Below w7.heap.size w7 w'):=hide (fun c d=>zIt Q5 w7 P7 _ n5 c (kp-j) d HP7.out HQ7.out (by
      have h1:=Hn5.out
      rw[he1,List.length_drop,Hkp.out] at h1
      omega))
     have hjc:j<=kp:=(by omega);have hkm:(kp:Int)-(j:Int)=((kp-j:Nat):Int):=(by omega);clear HXd HCd HTd HBd Hbrd HB7 X0 HP7 Hn5 Hgd he1 HQ7;go_wp2_with (go_at_call 9;fail);refine (HSm.out _ _).mono ?_;rintro e w8 ⟨rfl,hb8⟩;have Hbf:=hTz Hbe hb8;clear hb8 HSm;go_wp2
     go_roundg r
     case measure=>omega
     case rel=>exact⟨i+1,j+1,by rw[Hji.out],by go_num,by omega,Hbf⟩
theorem zIv (L:List (List CX)) (Top:List CT) (S:ByteArray) (s:Int) (w:World) (A:Option Addr) (n c:Nat) (T:Option Addr) (m d:Nat) (hR:CfgR w A n T m L Top) (hW:CfgW L Top) (hB:CfgB L) (hT:TM w):
  Calls Tryz.prog 3 #[.agg #[.slice A n c,.slice T m d],.int .i64 s,.string S] w fun e w'=>e=.returned (.bool true)/\Below w.heap.size w w':=by
 have:=zH9 L Top S.data.toList s w A n c T m d hR hW hB hT
 rwa [Opens.self_txtE] at this
end Go.Proofs.YtlfglibcggphjaaGreatDoor
