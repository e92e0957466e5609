/- Is a config of a size that is looked at: the reference's Small, and few. By an AI agent. -/
import Derived.Test.YtlfglibcggphjaaGreatDoorKFHeld
import Derived.Test.YtlfglibcggphjaaGreatDoorEY
set_option linter.unusedSimpArgs false
set_option linter.unusedVariables false
set_option maxRecDepth 100000
set_option maxHeartbeats 64000000
namespace Go.Proofs.YtlfglibcggphjaaGreatDoor
open Go Go.RowKit
def CfgB (L:List (List CX)):Prop:=∀X∈L,∀x∈X,x.2.1.length<=1048576/\∀e∈x.2.1,BulkN e
def CfgS (L:List (List CX)):Prop:=∀X∈L,∀x∈X,nW x.2.1<=3000
def CxsS (X:List CX):Prop:=∀x∈X,nW x.2.1<=3000
structure SmallPost (L:List (List CX)) (w:World) (e:Ending) (w':World):Prop where
 out:∃b:Bool,e=.returned (.bool b)/\(b=true->CfgS L)/\Below w.heap.size w w'
theorem zJy {L:List (List CX)} {i:Nat} {X:List CX} (h:L[i]?=some X) (hs:CfgS (L.take i)) (hX:CxsS X):CfgS (L.take (i+1)):=by
 rw[List.take_add_one,h];intro Y hY;rcases List.mem_append.1 hY with hY | hY
 ·exact hs Y hY
 ·simp at hY;subst hY;exact hX
theorem zJa {L:List CX} {i:Nat} {X:CX} (h:L[i]?=some X) (hs:CxsS (L.take i)) (hX:nW X.2.1<=3000):CxsS (L.take (i+1)):=by
 rw[List.take_add_one,h];intro Y hY;rcases List.mem_append.1 hY with hY | hY
 ·exact hs Y hY
 ·simp at hY;subst hY;exact hX
theorem zIe (L:List (List CX)) (Top:List CT) (w:World) (A:Option Addr) (n c:Nat) (T:Option Addr) (m d:Nat) (hR:CfgR w A n T m L Top) (hW:CfgW L Top) (hB:CfgB L):
  Calls Tryz.prog 10 #[.agg #[.slice A n c,.slice T m d]] w (SmallPost L w):=by
 suffices H:Calls Tryz.prog 10 #[.agg #[.slice A n c,.slice T m d]] w fun e w'=>Hid (SmallPost L w e w') from H.mono fun e w' h=>h.out
 have hb1:=below1 w (.cells #[.slice A n c,.slice T m d] 25);have hX:Blk (w.alloc (.cells #[.slice A n c,.slice T m d] 25)) w.heap.size [.slice A n c,.slice T m d]:=Blk.new w [.slice A n c,.slice T m d] 25;obtain⟨w1,hw1⟩:∃w1,w.alloc (.cells #[.slice A n c,.slice T m d] 25)=w1:=⟨_,rfl⟩;rw[hw1] at hb1 hX;obtain⟨xs,r1,r2,r3⟩:=hR.out;have hnl:=r1.sv_n r2;have hml:=r3.cuts_n;have hn6:n<=2000000:=by rw[hnl];exact hW.len
 have hm6:m<=2000000:=by rw[hml];exact hW.top.1
 have HR:=hide (hR.grow hb1);have HX:=hide hX;have HB:=hide hb1;have Hw1:=hide hw1;have HW:=hide hW;have HBk:=hide hB;have Hnl:=hide hnl;have x0:=hX.cells 0 _ rfl;have x1:=hX.cells 1 _ rfl;clear hb1 hX hw1 hR hW hB r1 r2 r3 hnl hml;go_enter Tryz.func10,Tryz.ntmps10;go_upto_region 1 with fail;rw[Hw1.out];clear Hw1;obtain⟨h,hh⟩:∃h,w.heap.size=h:=⟨_,rfl⟩;rw[hh] at HX x0 x1;(try rw[hh]);have Hh:=hide hh;clear hh;go_wp2;clear x0 x1
 go_loopg [3,13] n (fun r s3 s13 wx=>∃(i x:Nat),i+r=n/\s13=.int .i64 (i:Int)/\s3=.int .i64 (x:Int)/\x<=2000000/\Hid (Below w1.heap.size w1 wx)/\Hid (CfgS (L.take i)))
 case atStart=>exact⟨0,m,by omega,rfl,rfl,hm6,hide (Below.refl _ _),hide (fun X hX=>by simp at hX)⟩
 case round=>
  obtain⟨i,x,hig,rfl,rfl,hx6,hbr,hsm⟩:=hrel;cases gk with
  | zero=>
   obtain rfl:i=n:=by omega
   have hiz:¬((i:Int)<(i:Int)):=by omega
   have hall:Hid (CfgS L):=hide (by
    have:=hsm.out
    rwa [List.take_of_length_le (by rw[<-Hnl.out];exact Nat.le_refl _)] at this)
   have HE:=hide (HB.out.trans (hbr.out.mono HB.out.size));clear hsm hbr HR HX HB HW HBk Hnl Hh;by_cases hx1:(x:Int)<=1000
   ·go_wp2;go_ret;exact hide ⟨⟨_,rfl,fun _=>hall.out,HE.out⟩⟩
   ·go_wp2;go_ret;exact hide ⟨⟨_,rfl,fun _=>hall.out,HE.out⟩⟩
  | succ r=>
   obtain⟨wo,rfl⟩:∃wo,wo=wr:=⟨_,rfl⟩;have hi:i<n:=by omega
   have hiz:(i:Int)<(n:Int):=by omega
   obtain⟨X,hXi⟩:∃X,L[i]?=some X:=⟨_,List.getElem?_eq_getElem (by rw[<-Hnl.out];exact hi)⟩;have hXm:=List.mem_of_getElem? hXi;obtain⟨zs,r1,r2,r3⟩:=(HR.out.grow hbr.out).out;obtain⟨g,o,hAe,hg,hat⟩:=r1.sv r2 (fun h=>by rw[h] at hXi;simp at hXi);subst hAe;obtain⟨C,cc,ys,s0,h3,h4⟩:=hat i X hXi;have hXw:=HW.out.each X hXm;have HXw:=hide hXw.2;have HXb:=hide (HBk.out X hXm);have H3:=hide (And.intro h3 h4);have x0:=(HX.out.grow hbr.out).cells 0 _ rfl;have Hnx:=hide (zJy hXi hsm.out);have hkx6:X.length<=2000000:=hXw.1;obtain⟨kx,hkx⟩:∃z,X.length=z:=⟨_,rfl⟩;rw[hkx] at s0 H3 hkx6;have Hkx:=hide hkx;have Hg:=hide hg;have HX9:=hide (HX.out.grow hbr.out);clear hXm r1 r2 r3 hat h3 h4 hXw hXi hsm hkx hg;go_wp2
   go_loopg [3,25] kx (fun r2 s3 s25 wy=>∃(j y:Nat),j+r2=kx/\s25=.int .i64 (j:Int)/\s3=.int .i64 (y:Int)/\y<=2000001/\Hid (Below wo.heap.size wo wy)/\Hid (CxsS (X.take j)))
   case atStart=>exact⟨0,x+1,by omega,rfl,by go_num,by omega,hide (Below.refl _ _),hide (fun X hX=>by simp at hX)⟩
   case round=>
    obtain⟨j,y,hjg,rfl,rfl,hy6,hbr2,hsm2⟩:=hrel;have HY0:=hide x0;have HS0:=hide s0;clear x0 s0;cases gk with
    | zero=>
     obtain rfl:j=kx:=by omega
     have hjz:¬((j:Int)<(j:Int)):=by omega
     have hall:Hid (CfgS (L.take (i+1))):=hide (Hnx.out (by
      have:=hsm2.out
      rwa [List.take_of_length_le (by rw[Hkx.out];exact Nat.le_refl _)] at this))
     have HB2:=hide (hbr.out.trans (hbr2.out.mono hbr.out.size));have HE:=hide (HB.out.trans (HB2.out.mono HB.out.size));clear hsm2 hbr2 hbr HXw HXb H3 Hnx Hkx Hg HY0 HS0 HX9;by_cases hy1:(1000:Int)<(y:Int)
     ·go_wp2;go_ret;exact hide ⟨⟨false,rfl,fun h=>(by cases h),HE.out⟩⟩
     ·go_wp2
      go_roundg r
      case measure=>omega
      case rel=>exact⟨i+1,y,by omega,by go_num,rfl,by omega,HB2,hall⟩
    | succ r2=>
     obtain⟨wp,rfl⟩:∃wp,wp=wr:=⟨_,rfl⟩;have hj:j<kx:=by omega
     have hjz:(j:Int)<(kx:Int):=(by omega);have hB2:=hbr2.out;have x0:=(hB2.cell (p:=⟨h,0,none⟩) HX9.out.lt).trans HY0.out;have s0:=(hB2.cell (p:=⟨g,o+i,none⟩) Hg.out).trans HS0.out;obtain⟨z,hz⟩:∃z,X[j]?=some z:=⟨_,List.getElem?_eq_getElem (by rw[Hkx.out];exact hj)⟩;have hzm:=List.mem_of_getElem? hz;have h3:=H3.out.1.grow hB2;have h4:=H3.out.2.grow hB2;obtain⟨g2,o2,hCe,hg2,hat2⟩:=h3.cx h4 (fun h=>by rw[h] at hz;simp at hz);subst hCe;obtain⟨V,cv,us,Sb,ds,hat2⟩:=hat2 j z hz;have c0:=hat2.c0;have c1:=hat2.c1;have c2:=hat2.c2;have hzw:=HXw.out z hzm;have hzb:=HXb.out z hzm;obtain⟨XS,hXS⟩:∃S,txt z.1=S:=⟨_,rfl⟩;obtain⟨ke,hke⟩:∃q,z.2.1.length=q:=⟨_,rfl⟩;obtain⟨ks,hks⟩:∃q,z.2.2.length=q:=⟨_,rfl⟩;have he1:=hat2.ents.1;have he2:=hat2.ents.2;rw[hXS] at c0;rw[hke] at c1 he1;rw[hks] at c2;have hke6:ke<=1048576:=by rw[<-hke];exact hzb.1
     have hks6:ks<=2000000:=(by rw[<-hks];exact hzw.2.1);have hbx:=below1 wp (.cells #[.string XS,.slice V ke cv,.slice Sb ks ds] 59);have hBx:Blk (wp.alloc (.cells #[.string XS,.slice V ke cv,.slice Sb ks ds] 59)) wp.heap.size [.string XS,.slice V ke cv,.slice Sb ks ds]:=Blk.new wp [.string XS,.slice V ke cv,.slice Sb ks ds] 59;obtain⟨wz,hwz⟩:∃q,wp.alloc (.cells #[.string XS,.slice V ke cv,.slice Sb ks ds] 59)=q:=⟨_,rfl⟩;rw[hwz] at hbx hBx;have HSm:Hid (Calls Tryz.prog 18 #[.slice V ke cv] wz fun e w'=>e=.returned (.bool (decide (nW z.2.1<=3000)))/\w'=wz):=hide (zGe z.2.1 wz V ke cv us (((he1.has (B:=wp.heap.size) fun b hb=>hb).below hbx).upto hbx.size) ((he2.ens (B:=wp.heap.size) fun b hb=>hb).grow hbx) hke6 hzb.2);have y0:=hBx.cells 0 _ rfl;have y1:=hBx.cells 1 _ rfl;have y2:=hBx.cells 2 _ rfl;have Hwz:=hide hwz;have HB3:=hide (hB2.trans (hbx.mono hB2.size));have Hnx2:=hide (zJa hz hsm2.out);have HE:=hide (HB.out.trans ((hbr.out.trans ((hB2.trans (hbx.mono hB2.size)).mono hbr.out.size)).mono HB.out.size));clear hB2 hz hzm h3 h4 hg2 hat2 hzw hzb hXS hke hks he1 he2 hbx hBx hwz hsm2 hbr2;go_upto_region 10 with fail;rw[Hwz.out];clear c0 c1 c2 Hwz;obtain⟨h5,hh5⟩:∃h,wp.heap.size=h:=⟨_,rfl⟩;rw[hh5] at y0 y1 y2;(try rw[hh5]);clear hh5;by_cases hy1:(1000:Int)<(y:Int)+1+(ks:Int)+(ke:Int)
     ·clear HSm Hnx2 HB3 Hnx HXw HXb H3 hbr;go_wp2;go_ret;exact hide ⟨⟨false,rfl,fun h=>(by cases h),HE.out⟩⟩
     ·go_wp2_with (go_at_call 18;fail);refine HSm.out.mono ?_;rintro e w5 ⟨rfl,hw5⟩;obtain rfl:=hw5.symm;obtain⟨sb,hsb⟩:∃b,decide (nW z.2.1<=3000)=b:=⟨_,rfl⟩;rw[hsb];have Hsb:=hide hsb;clear hw5 HSm hsb;cases sb with
      | false=>
       clear Hnx2 HB3 Hnx HXw HXb H3 hbr;go_wp2;go_ret;exact hide ⟨⟨false,rfl,fun h=>(by cases h),HE.out⟩⟩
      | true=>
       have hall:=hide (Hnx2.out (of_decide_eq_true Hsb.out));have hs0:=HS0;have hx0:=HY0;have s0:=HS0.out;have x0:=HY0.out;clear Hnx2 HE y0 y1 y2;go_wp2
       go_roundg r2
       case measure=>omega
       case rel=>exact⟨j+1,y+1+ks+ke,by omega,by go_num,by go_num,by omega,HB3,hall⟩
end Go.Proofs.YtlfglibcggphjaaGreatDoor
