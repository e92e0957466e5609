/- Which of a list a name is under, that with the most parts: the program's lowest. By an AI agent. -/
import Derived.Test.YtlfglibcggphjaaGreatDoorKFW
import Derived.Test.YtlfglibcggphjaaGreatDoorMI
set_option linter.unusedSimpArgs false
set_option linter.unusedVariables false
set_option maxRecDepth 100000
set_option maxHeartbeats 64000000
namespace Go.Proofs.YtlfglibcggphjaaGreatDoor
open Go Go.RowKit
noncomputable def lowK (nm:List UInt8):List (List UInt8)->Nat->Nat × Int->Nat × Int
 | [],_,r=>r
 | x::L,i,r=>lowK nm L (i+1) (if r.2<(depthV x:Int)/\underV nm x=true then (i,(depthV x:Int)) else r)
noncomputable def lowV (nm:List UInt8) (L:List (List UInt8)):Nat × Bool:=if nm=[] then (0,false) else ((lowK nm L 0 (0,-1)).1,decide (0<=(lowK nm L 0 (0,-1)).2))
theorem zKd (nm:List UInt8):∀(L:List (List UInt8)) (i:Nat) (r:Nat × Int),(0<=r.2->r.1<i)->0<=(lowK nm L i r).2->(lowK nm L i r).1<i+L.length
 | [],i,r,h,h2=>by
  unfold lowK at h2 ⊢;exact h h2
 | x::L,i,r,h,h2=>by
  unfold lowK at h2 ⊢;have:=zKd nm L (i+1) _ (fun h3=>by
   split
   ·exact Nat.lt_succ_self i
   ·rename_i hc
    rw[if_neg hc] at h3
    exact Nat.lt_succ_of_lt (h h3)) h2
  simp only[List.length_cons];omega
theorem zGk {nm:List UInt8} {L:List (List UInt8)} (h:(lowV nm L).2=true):(lowV nm L).1<L.length:=by
 unfold lowV at h ⊢;split
 ·rename_i hn;rw[if_pos hn] at h;cases h
 ·rename_i hn;rw[if_neg hn] at h;have:=zKd nm L 0 (0,-1) (fun h=>by simp at h) (of_decide_eq_true h);omega
theorem zFi {nm:List UInt8} {L:List (List UInt8)} {i:Nat} {x:List UInt8} (h:L[i]?=some x) (r:Nat × Int):lowK nm (L.drop i) i r=lowK nm (L.drop (i+1)) (i+1) (if r.2<(depthV x:Int)/\underV nm x=true then (i,(depthV x:Int)) else r):=by
 obtain⟨h1,h2⟩:=List.getElem?_eq_some_iff.1 h;rw[List.drop_eq_getElem_cons h1,h2];rfl
def cxNames (L:List CX):List (List UInt8):=L.map (·.1)
def ctNames (L:List CT):List (List UInt8):=L.map (·.1)
theorem zJ2 (S:ByteArray) (u1 u2:Value) (w:World) (h1:u1.oneCell'=true) (h2:u2.oneCell'=true):
  Calls Tryz.prog 24 #[.agg #[.string S,u1,u2]] w fun e w'=>e=.returned (.string S)/\Below w.heap.size w w':=by
 have hb1:=below1 w (.cells #[.string S,u1,u2] 45);have hX:Blk (w.alloc (.cells #[.string S,u1,u2] 45)) w.heap.size [.string S,u1,u2]:=Blk.new w [.string S,u1,u2] 45;obtain⟨w1,hw1⟩:∃w1,w.alloc (.cells #[.string S,u1,u2] 45)=w1:=⟨_,rfl⟩;rw[hw1] at hb1 hX;have x0:=hX.cells 0 _ rfl;have HB:=hide hb1;have Hw1:=hide hw1;clear hb1 hX hw1;go_enter Tryz.func24,Tryz.ntmps24;go_upto_region 1 with fail;rw[Hw1.out];clear Hw1;obtain⟨h,hh⟩:∃h,w.heap.size=h:=⟨_,rfl⟩;rw[hh] at x0;(try rw[hh]);have HBh:Hid (Below h w w1):=hide (by rw[<-hh];exact HB.out);clear hh;go_wp2;go_ret;exact⟨rfl,by first | exact HB.out | exact HBh.out⟩
theorem zI7 (S:ByteArray) (u1:Value) (w:World) (h1:u1.oneCell'=true):
  Calls Tryz.prog 29 #[.agg #[.string S,u1]] w fun e w'=>e=.returned (.string S)/\Below w.heap.size w w':=by
 have hb1:=below1 w (.cells #[.string S,u1] 47);have hX:Blk (w.alloc (.cells #[.string S,u1] 47)) w.heap.size [.string S,u1]:=Blk.new w [.string S,u1] 47;obtain⟨w1,hw1⟩:∃w1,w.alloc (.cells #[.string S,u1] 47)=w1:=⟨_,rfl⟩;rw[hw1] at hb1 hX;have x0:=hX.cells 0 _ rfl;have HB:=hide hb1;have Hw1:=hide hw1;clear hb1 hX hw1;go_enter Tryz.func29,Tryz.ntmps29;go_upto_region 1 with fail;rw[Hw1.out];clear Hw1;obtain⟨h,hh⟩:∃h,w.heap.size=h:=⟨_,rfl⟩;rw[hh] at x0;(try rw[hh]);have HBh:Hid (Below h w w1):=hide (by rw[<-hh];exact HB.out);clear hh;go_wp2;go_ret;exact⟨rfl,by first | exact HB.out | exact HBh.out⟩
structure LowPost (r:Nat × Bool) (w:World) (e:Ending) (w':World):Prop where
 out:e=.returned (.tuple #[.int .i64 (r.1:Int),.bool r.2])/\Below w.heap.size w w'
theorem zI9 (nm:List UInt8) (L:List CX) (w:World) (A:Option Addr) (n c:Nat) (xs:List Value) (hA:HasP w (fun b=>b<w.heap.size) 3 A n xs) (hL:CXsP w (fun b=>b<w.heap.size) xs L) (hn:n<=2000000) (hnm:nm.length<=1000000) (hw:∀x∈L,x.1.length<=1048576) (hT:TM w):
  Calls Tryz.prog 23 #[.slice A n c,.string (txt nm),.func (.func 24) #[] #[]] w (LowPost (lowV nm (cxNames L)) w):=by
 suffices H:Calls Tryz.prog 23 #[.slice A n c,.string (txt nm),.func (.func 24) #[] #[]] w fun e w'=>Hid (LowPost (lowV nm (cxNames L)) w e w') from H.mono fun e w' h=>h.out
 have eg:∀args w,(callFunc 24 args).run Tryz.prog w=.ok (.enter 24 args) w:=enters_of Tryz.func24 (by kernel_rfl) rfl;have hnl:=hA.cx_n hL;by_cases h0:nm=[]
 ·subst h0;have q1:((txt ([]:List UInt8)).toList==[])=true:=by rw[toeq];rfl
  have HE:Hid (LowPost (lowV [] (cxNames L)) w (.returned (.tuple #[.int .i64 0,.bool false])) w):=hide ⟨by unfold lowV;rw[if_pos rfl];exact⟨rfl,Below.refl _ _⟩⟩;generalize txt []=S at *;clear hA hL hw hT eg hnm hnl;go_enter Tryz.func23,Tryz.ntmps23;go_wp2;go_ret2;exact HE
 have q1:((txt nm).toList==[])=false:=by rw[toeq];simpa using h0
 obtain⟨R,hR⟩:∃R,lowK nm (cxNames L) 0 (0,-1)=R:=⟨_,rfl⟩;have HRv:Hid (lowV nm (cxNames L)=(R.1,decide (0<=R.2))):=hide (by unfold lowV;rw[if_neg h0,hR]);have HUn:=hide (fun (x:List UInt8) (hx:x.length<=1048576) (w:World) (hT:TM w)=>zC8 nm x (by omega) hx w hT);have HDe:=hide (fun (x:List UInt8) (hx:x.length<=1048576) (w:World) (hT:TM w)=>zDx x hx w hT);have HA:=hide hA;have HL:=hide hL;have Hn:=hide hnl;have HW:=hide hw;have HT:=hide hT;have HR0:=hide hR;obtain⟨NS,hNS⟩:∃S,txt nm=S:=⟨_,rfl⟩;rw[hNS] at HUn q1 ⊢;clear hA hL hnl hw hT hNS hnm hR h0;go_enter Tryz.func23,Tryz.ntmps23;go_wp2;clear q1
 go_loopg [8,9,18] n (fun r s8 s9 s18 wx=>∃(i a:Nat) (m:Int),i+r=n/\s18=.int .i64 (i:Int)/\s8=.int .i64 (a:Int)/\s9=.int .i64 m/\Hid (lowK nm ((cxNames L).drop i) i (a,m)=R)/\Hid (Below w.heap.size w wx))
 case atStart=>exact⟨0,0,-1,by omega,rfl,rfl,rfl,hide (by rw[List.drop_zero];exact HR0.out),hide (Below.refl _ _)⟩
 case round=>
  obtain⟨i,a,m,hig,rfl,rfl,rfl,hpre,hbr⟩:=hrel;clear HR0;cases gk with
  | zero=>
   obtain rfl:i=n:=by omega
   have hiz:¬((i:Int)<(i:Int)):=by omega
   have hp:=hpre.out;rw[List.drop_eq_nil_of_le (by unfold cxNames;rw[List.length_map,<-Hn.out];exact Nat.le_refl _)] at hp;have hR1:R=(a,m):=hp.symm;have HE:Hid (LowPost (lowV nm (cxNames L)) w (.returned (.tuple #[.int .i64 (a:Int),.bool (decide (0<=m))])) wr):=hide ⟨by rw[HRv.out,hR1];exact⟨rfl,hbr.out⟩⟩;clear hp hpre hR1 hbr HUn HDe HA HL Hn HW HT HRv eg;go_wp2;go_ret2;exact HE
  | succ r=>
   obtain⟨wo,rfl⟩:∃wo,wo=wr:=⟨_,rfl⟩;have hi:i<n:=by omega
   have hiz:(i:Int)<(n:Int):=by omega
   obtain⟨x,hx⟩:∃x,L[i]?=some x:=⟨_,List.getElem?_eq_getElem (by rw[<-Hn.out];exact hi)⟩;have hxw:=HW.out x (List.mem_of_getElem? hx);obtain⟨g,o,hAe,hg,hat⟩:=HA.out.cx HL.out (fun h=>by rw[h] at hx;simp at hx);subst hAe;obtain⟨V,cv,ys,Sb,d,hat⟩:=hat i x hx;have c0:=(hbr.out.cell (p:=⟨g,o+i*3,none⟩) hg).trans hat.c0;have c1:=(hbr.out.cell (p:=⟨g,o+i*3+1,none⟩) hg).trans hat.c1;have c2:=(hbr.out.cell (p:=⟨g,o+i*3+2,none⟩) hg).trans hat.c2;have hnx:(cxNames L)[i]?=some x.1:=by unfold cxNames;rw[List.getElem?_map,hx];rfl
   have hdr:=zFi (nm:=nm) hnx (a,m);rw[hpre.out] at hdr;obtain⟨dv,hdv⟩:∃z,depthV x.1=z:=⟨_,rfl⟩;obtain⟨uv,huv⟩:∃z,underV nm x.1=z:=⟨_,rfl⟩;obtain⟨XS,hXS⟩:∃S,txt x.1=S:=⟨_,rfl⟩;have HU1:=hide (fun (w:World) (hT:TM w)=>HUn.out x.1 hxw w hT);have HD1:=hide (fun (w:World) (hT:TM w)=>HDe.out x.1 hxw w hT);rw[huv,hXS] at HU1;rw[hdv,hXS] at HD1;rw[hdv,huv] at hdr;rw[hXS] at c0;have Hdr:=hide hdr;obtain⟨e1,he1⟩:∃z,x.2.1.length=z:=⟨_,rfl⟩;obtain⟨e2,he2⟩:∃z,x.2.2.length=z:=⟨_,rfl⟩;rw[he1] at c1;rw[he2] at c2;have hbx:=below1 wo (.cells #[.string XS,.slice V e1 cv,.slice Sb e2 d] 45);have hBx:Blk (wo.alloc (.cells #[.string XS,.slice V e1 cv,.slice Sb e2 d] 45)) wo.heap.size [.string XS,.slice V e1 cv,.slice Sb e2 d]:=Blk.new wo [.string XS,.slice V e1 cv,.slice Sb e2 d] 45;obtain⟨w3,hw3⟩:∃z,wo.alloc (.cells #[.string XS,.slice V e1 cv,.slice Sb e2 d] 45)=z:=⟨_,rfl⟩;rw[hw3] at hbx hBx;have HB3:=hTz hbr hbx;have y0:=hBx.cells 0 _ rfl;have y1:=hBx.cells 1 _ rfl;have y2:=hBx.cells 2 _ rfl;have Hw3:=hide hw3;clear hdr hpre hx hxw hg hat hnx hdv huv hXS he1 he2 hbx hBx hw3 hbr HA HL Hn HW HUn HDe HRv;go_upto_region 7 with fail;rw[Hw3.out];clear c0 c1 c2 Hw3;obtain⟨h5,hh5⟩:∃h,wo.heap.size=h:=⟨_,rfl⟩;rw[hh5] at y0 y1 y2;(try rw[hh5]);clear hh5;go_wp2_with (go_at_fn 24;fail);refine (zJ2 XS _ _ w3 rfl rfl).mono ?_;rintro e w4 ⟨rfl,hb4⟩;have HB4:=hTz HB3 hb4;clear hb4 HB3 y0 y1 y2;go_wp2_with (go_at_call 30;fail);refine (HD1.out w4 (HT.out.below HB4.out)).mono ?_;rintro e w5 ⟨rfl,hb5⟩;have HB5:=hTz HB4 hb5;clear hb5 HB4 HD1;by_cases hm:m<(dv:Int)
   ·go_wp2_with (go_at_call 31;fail);refine (HU1.out w5 (HT.out.below HB5.out)).mono ?_;rintro e w6 ⟨rfl,hb6⟩;have HB6:=hTz HB5 hb6;clear hb6 HB5 HU1;cases uv with
    | true=>
     have Hn2:Hid (lowK nm ((cxNames L).drop (i+1)) (i+1) (i,(dv:Int))=R):=hide (by
      have:=Hdr.out
      rw[if_pos ⟨hm,rfl⟩] at this
      exact this.symm)
     clear Hdr;go_wp2
     go_roundg r
     case measure=>omega
     case rel=>exact⟨i+1,i,dv,by omega,by go_num,rfl,rfl,Hn2,HB6⟩
    | false=>
     have Hn2:Hid (lowK nm ((cxNames L).drop (i+1)) (i+1) (a,m)=R):=hide (by
      have:=Hdr.out
      rw[if_neg (fun h=>by cases h.2)] at this
      exact this.symm)
     clear Hdr;go_wp2
     go_roundg r
     case measure=>omega
     case rel=>exact⟨i+1,a,m,by omega,by go_num,rfl,rfl,Hn2,HB6⟩
   ·have Hn2:Hid (lowK nm ((cxNames L).drop (i+1)) (i+1) (a,m)=R):=hide (by
     have:=Hdr.out
     rw[if_neg (fun h=>hm h.1)] at this
     exact this.symm)
    clear Hdr HU1;go_wp2
    go_roundg r
    case measure=>omega
    case rel=>exact⟨i+1,a,m,by omega,by go_num,rfl,rfl,Hn2,HB5⟩
theorem zIz (nm:List UInt8) (L:List CT) (w:World) (A:Option Addr) (n c:Nat) (hA:HasP w (fun b=>b<w.heap.size) 2 A n (cutsV L)) (hn:n<=2000000) (hnm:nm.length<=1000000) (hw:∀x∈L,x.1.length<=1048576) (hT:TM w):
  Calls Tryz.prog 28 #[.slice A n c,.string (txt nm),.func (.func 29) #[] #[]] w (LowPost (lowV nm (ctNames L)) w):=by
 suffices H:Calls Tryz.prog 28 #[.slice A n c,.string (txt nm),.func (.func 29) #[] #[]] w fun e w'=>Hid (LowPost (lowV nm (ctNames L)) w e w') from H.mono fun e w' h=>h.out
 have eg:∀args w,(callFunc 29 args).run Tryz.prog w=.ok (.enter 29 args) w:=enters_of Tryz.func29 (by kernel_rfl) rfl;have hnl:=hA.cuts_n;by_cases h0:nm=[]
 ·subst h0;have q1:((txt ([]:List UInt8)).toList==[])=true:=by rw[toeq];rfl
  have HE:Hid (LowPost (lowV [] (ctNames L)) w (.returned (.tuple #[.int .i64 0,.bool false])) w):=hide ⟨by unfold lowV;rw[if_pos rfl];exact⟨rfl,Below.refl _ _⟩⟩;generalize txt []=S at *;clear hA hw hT eg hnm hnl;go_enter Tryz.func28,Tryz.ntmps28;go_wp2;go_ret2;exact HE
 have q1:((txt nm).toList==[])=false:=by rw[toeq];simpa using h0
 obtain⟨R,hR⟩:∃R,lowK nm (ctNames L) 0 (0,-1)=R:=⟨_,rfl⟩;have HRv:Hid (lowV nm (ctNames L)=(R.1,decide (0<=R.2))):=hide (by unfold lowV;rw[if_neg h0,hR]);have HUn:=hide (fun (x:List UInt8) (hx:x.length<=1048576) (w:World) (hT:TM w)=>zC8 nm x (by omega) hx w hT);have HDe:=hide (fun (x:List UInt8) (hx:x.length<=1048576) (w:World) (hT:TM w)=>zDx x hx w hT);have HA:=hide hA;have Hn:=hide hnl;have HW:=hide hw;have HT:=hide hT;have HR0:=hide hR;obtain⟨NS,hNS⟩:∃S,txt nm=S:=⟨_,rfl⟩;rw[hNS] at HUn q1 ⊢;clear hA hnl hw hT hNS hnm hR h0;go_enter Tryz.func28,Tryz.ntmps28;go_wp2;clear q1
 go_loopg [8,9,18] n (fun r s8 s9 s18 wx=>∃(i a:Nat) (m:Int),i+r=n/\s18=.int .i64 (i:Int)/\s8=.int .i64 (a:Int)/\s9=.int .i64 m/\Hid (lowK nm ((ctNames L).drop i) i (a,m)=R)/\Hid (Below w.heap.size w wx))
 case atStart=>exact⟨0,0,-1,by omega,rfl,rfl,rfl,hide (by rw[List.drop_zero];exact HR0.out),hide (Below.refl _ _)⟩
 case round=>
  obtain⟨i,a,m,hig,rfl,rfl,rfl,hpre,hbr⟩:=hrel;clear HR0;cases gk with
  | zero=>
   obtain rfl:i=n:=by omega
   have hiz:¬((i:Int)<(i:Int)):=by omega
   have hp:=hpre.out;rw[List.drop_eq_nil_of_le (by unfold ctNames;rw[List.length_map,<-Hn.out];exact Nat.le_refl _)] at hp;have hR1:R=(a,m):=hp.symm;have HE:Hid (LowPost (lowV nm (ctNames L)) w (.returned (.tuple #[.int .i64 (a:Int),.bool (decide (0<=m))])) wr):=hide ⟨by rw[HRv.out,hR1];exact⟨rfl,hbr.out⟩⟩;clear hp hpre hR1 hbr HUn HDe HA Hn HW HT HRv eg;go_wp2;go_ret2;exact HE
  | succ r=>
   obtain⟨wo,rfl⟩:∃wo,wo=wr:=⟨_,rfl⟩;have hi:i<n:=by omega
   have hiz:(i:Int)<(n:Int):=by omega
   obtain⟨x,hx⟩:∃x,L[i]?=some x:=⟨_,List.getElem?_eq_getElem (by rw[<-Hn.out];exact hi)⟩;have hxw:=HW.out x (List.mem_of_getElem? hx);obtain⟨g,o,hAe,hg,hat⟩:=HA.out.cuts (fun h=>by rw[h] at hx;simp at hx);subst hAe;have hat:=hat i x hx;have c0:=(hbr.out.cell (p:=⟨g,o+i*2,none⟩) hg).trans hat.1;have c1:=(hbr.out.cell (p:=⟨g,o+i*2+1,none⟩) hg).trans hat.2;have hnx:(ctNames L)[i]?=some x.1:=by unfold ctNames;rw[List.getElem?_map,hx];rfl
   have hdr:=zFi (nm:=nm) hnx (a,m);rw[hpre.out] at hdr;obtain⟨dv,hdv⟩:∃z,depthV x.1=z:=⟨_,rfl⟩;obtain⟨uv,huv⟩:∃z,underV nm x.1=z:=⟨_,rfl⟩;obtain⟨XS,hXS⟩:∃S,txt x.1=S:=⟨_,rfl⟩;have HU1:=hide (fun (w:World) (hT:TM w)=>HUn.out x.1 hxw w hT);have HD1:=hide (fun (w:World) (hT:TM w)=>HDe.out x.1 hxw w hT);rw[huv,hXS] at HU1;rw[hdv,hXS] at HD1;rw[hdv,huv] at hdr;rw[hXS] at c0;have Hdr:=hide hdr;obtain⟨e1,he1⟩:∃z,x.2=z:=⟨_,rfl⟩;rw[he1] at c1;have hbx:=below1 wo (.cells #[.string XS,.int .i64 e1] 47);have hBx:Blk (wo.alloc (.cells #[.string XS,.int .i64 e1] 47)) wo.heap.size [.string XS,.int .i64 e1]:=Blk.new wo [.string XS,.int .i64 e1] 47;obtain⟨w3,hw3⟩:∃z,wo.alloc (.cells #[.string XS,.int .i64 e1] 47)=z:=⟨_,rfl⟩;rw[hw3] at hbx hBx;have HB3:=hTz hbr hbx;have y0:=hBx.cells 0 _ rfl;have y1:=hBx.cells 1 _ rfl;have Hw3:=hide hw3;clear hdr hpre hx hxw hg hat hnx hdv huv hXS he1 hbx hBx hw3 hbr HA Hn HW HUn HDe HRv;go_upto_region 7 with fail;rw[Hw3.out];clear c0 c1 Hw3;obtain⟨h5,hh5⟩:∃h,wo.heap.size=h:=⟨_,rfl⟩;rw[hh5] at y0 y1;(try rw[hh5]);clear hh5;go_wp2_with (go_at_fn 29;fail);refine (zI7 XS _ w3 rfl).mono ?_;rintro e w4 ⟨rfl,hb4⟩;have HB4:=hTz HB3 hb4;clear hb4 HB3 y0 y1;go_wp2_with (go_at_call 30;fail);refine (HD1.out w4 (HT.out.below HB4.out)).mono ?_;rintro e w5 ⟨rfl,hb5⟩;have HB5:=hTz HB4 hb5;clear hb5 HB4 HD1;by_cases hm:m<(dv:Int)
   ·go_wp2_with (go_at_call 31;fail);refine (HU1.out w5 (HT.out.below HB5.out)).mono ?_;rintro e w6 ⟨rfl,hb6⟩;have HB6:=hTz HB5 hb6;clear hb6 HB5 HU1;cases uv with
    | true=>
     have Hn2:Hid (lowK nm ((ctNames L).drop (i+1)) (i+1) (i,(dv:Int))=R):=hide (by
      have:=Hdr.out
      rw[if_pos ⟨hm,rfl⟩] at this
      exact this.symm)
     clear Hdr;go_wp2
     go_roundg r
     case measure=>omega
     case rel=>exact⟨i+1,i,dv,by omega,by go_num,rfl,rfl,Hn2,HB6⟩
    | false=>
     have Hn2:Hid (lowK nm ((ctNames L).drop (i+1)) (i+1) (a,m)=R):=hide (by
      have:=Hdr.out
      rw[if_neg (fun h=>by cases h.2)] at this
      exact this.symm)
     clear Hdr;go_wp2
     go_roundg r
     case measure=>omega
     case rel=>exact⟨i+1,a,m,by omega,by go_num,rfl,rfl,Hn2,HB6⟩
   ·have Hn2:Hid (lowK nm ((ctNames L).drop (i+1)) (i+1) (a,m)=R):=hide (by
     have:=Hdr.out
     rw[if_neg (fun h=>hm h.1)] at this
     exact this.symm)
    clear Hdr HU1;go_wp2
    go_roundg r
    case measure=>omega
    case rel=>exact⟨i+1,a,m,by omega,by go_num,rfl,rfl,Hn2,HB5⟩
end Go.Proofs.YtlfglibcggphjaaGreatDoor
