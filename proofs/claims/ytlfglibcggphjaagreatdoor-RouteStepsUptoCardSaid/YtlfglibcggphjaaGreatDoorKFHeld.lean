/- Where a name is held, and who is nearer: the program's Held and Nearer. By an AI agent. -/
import Derived.Test.YtlfglibcggphjaaGreatDoorKFNear
set_option linter.unusedSimpArgs false
set_option linter.unusedVariables false
set_option maxRecDepth 100000
set_option maxHeartbeats 32000000
namespace Go.Proofs.YtlfglibcggphjaaGreatDoor
open Go Go.RowKit
noncomputable def heldX (X:List CX) (t:List UInt8):Nat × Bool:=
 if (lowV t (cxNames X)).2=true then (if (lowV t (ctNames (X.getD (lowV t (cxNames X)).1 ([],[],[])).2.2)).2=true then (0,false) else ((lowV t (cxNames X)).1,true)) else (0,false)
noncomputable def heldV (L:List (List CX)) (s:Int) (nm:List UInt8):Nat × Bool:=
 if (normT nm).2=0/\thereB L.length s=true then heldX (L.getD s.toNat []) (normT nm).1 else (0,false)
noncomputable def nearX (X:List CX) (Top:List CT) (s:Int) (t:List UInt8):Int × Bool:=
 if (lowV t (cxNames X)).2=true then srvV t (X.getD (lowV t (cxNames X)).1 ([],[],[])).2.2 else if s=0 then srvV t Top else (0,true)
noncomputable def nearV (L:List (List CX)) (Top:List CT) (s:Int) (nm:List UInt8):Int × Bool:=
 if (normT nm).2=0/\thereB L.length s=true then nearX (L.getD s.toNat []) Top s (normT nm).1 else (0,false)
theorem zI5 (L:List (List CX)) (Top:List CT) (nm:List UInt8) (s:Int) (w:World) (A:Option Addr) (n c:Nat) (T:Option Addr) (m d:Nat) (hR:CfgR w A n T m L Top) (hW:CfgW L Top) (hnm:nm.length<=1000000) (hT:TM w):
  Calls Tryz.prog 13 #[.agg #[.slice A n c,.slice T m d],.int .i64 s,.string (txt nm)] w (LowPost (heldV L s nm) w):=by
 suffices H:Calls Tryz.prog 13 #[.agg #[.slice A n c,.slice T m d],.int .i64 s,.string (txt nm)] w fun e w'=>Hid (LowPost (heldV L s nm) w e w') from H.mono fun e w' h=>h.out
 have hb1:=below1 w (.cells #[.slice A n c,.slice T m d] 34);have hX:Blk (w.alloc (.cells #[.slice A n c,.slice T m d] 34)) w.heap.size [.slice A n c,.slice T m d]:=Blk.new w [.slice A n c,.slice T m d] 34;obtain⟨w1,hw1⟩:∃w1,w.alloc (.cells #[.slice A n c,.slice T m d] 34)=w1:=⟨_,rfl⟩;rw[hw1] at hb1 hX;have HN:=hide (zA9 nm (by omega) w1 (hT.below hb1));obtain⟨t,ht⟩:∃t,(normT nm).1=t:=⟨_,rfl⟩;obtain⟨y,hy⟩:∃y,(normT nm).2=y:=⟨_,rfl⟩;obtain⟨TS,hTS⟩:∃TS,txt t=TS:=⟨_,rfl⟩;rw[ht,hy,hTS] at HN;have Ha:Hid (y=0->t.length<=1000):=hide (fun h=>by
  have:=(zDq (l:=nm) (by rw[hy];exact h)).2
  rwa [ht] at this)
 obtain⟨xs,r1,r2,r3⟩:=hR.out;have hnl:=r1.sv_n r2;have HV:Hid (heldV L s nm=if y=0/\thereB n s=true then heldX (L.getD s.toNat []) t else (0,false)):=hide (by unfold heldV;rw[ht,hy,hnl]);have HR:=hide (hR.grow hb1);have HW:=hide hW;have HT:=hide (hT.below hb1);have HX:=hide hX;have HB:=hide hb1;have Hw1:=hide hw1;have HTS:=hide hTS;have hn6:n<=2000000:=by rw[hnl];exact hW.len
 have HTh:=hide (fun w=>zB9 w A n c T m d s hn6);have Hnl:=hide hnl;clear hb1 hX hw1 ht hy hTS hR hW hT hnm r1 r2 r3 hnl;generalize txt nm=S at *;go_enter Tryz.func13,Tryz.ntmps13;go_upto_region 1 with fail;rw[Hw1.out];clear Hw1;obtain⟨h,hh⟩:∃h,w.heap.size=h:=⟨_,rfl⟩;rw[hh] at HX;(try rw[hh]);have Hh:=hide hh;clear hh;go_wp2_with (go_at_call 11;fail);refine HN.out.mono ?_;rintro e w2 ⟨rfl,hb2⟩;have HX2:=hide (HX.out.grow hb2);have x0:=HX2.out.cells 0 _ rfl;have x1:=HX2.out.cells 1 _ rfl;have HR2:=hide (HR.out.grow hb2);have HT2:=hide (HT.out.below hb2);have HB2:Hid (Below w.heap.size w w2):=hide (HB.out.trans (hb2.mono HB.out.size));clear hb2 HN HX HR HT HB;by_cases hy0:y=0
 ·have hl:=Ha.out hy0;subst hy0;go_wp2_with (go_at_call 12;fail);refine (HTh.out w2).mono ?_;rintro e w3 ⟨rfl,hb3⟩;have x0:=(HX2.out.grow hb3).cells 0 _ rfl;have HR3:=hide (HR2.out.grow hb3);have HT3:=hide (HT2.out.below hb3);have HB3:Hid (Below w.heap.size w w3):=hide (HB2.out.trans (hb3.mono HB2.out.size));have HX3:=hide (HX2.out.grow hb3);obtain⟨tb,htb⟩:∃b,thereB n s=b:=⟨_,rfl⟩;rw[htb] at HV ⊢;clear hb3 HX2 HR2 HT2 HB2 HTh x1;cases tb with
  | false=>
   have HE:Hid (LowPost (heldV L s nm) w (.returned (.tuple #[.int .i64 0,.bool false])) w3):=hide ⟨by rw[HV.out,if_neg (fun h=>by cases h.2)];exact⟨rfl,HB3.out⟩⟩;clear HV HR3 HT3 HB3 HX3 Hh HW HTS Ha Hnl htb;go_wp2;go_ret2;exact HE
  | true=>
   have hs:0<=s/\s<(n:Int):=of_decide_eq_true htb;obtain⟨k,rfl⟩:=Int.eq_ofNat_of_zero_le hs.1;have hkn:k<n:=by omega
   have hkz:(k:Int)<(n:Int):=hs.2;obtain⟨X,hXk⟩:∃X,L[k]?=some X:=⟨_,List.getElem?_eq_getElem (by rw[<-Hnl.out];exact hkn)⟩;have hV:heldV L (k:Int) nm=heldX X t:=by rw[HV.out,if_pos (by simp),Int.toNat_natCast,List.getD_eq_getElem?_getD,hXk];rfl
   obtain⟨zs,r1,r2,r3⟩:=HR3.out.out;obtain⟨g,o,hAe,hg,hat⟩:=r1.sv r2 (fun h=>by rw[h] at hXk;simp at hXk);subst hAe;obtain⟨C,cc,ys,c0,h3,h4⟩:=hat k X hXk;have hXw:=HW.out.each X (List.mem_of_getElem? hXk);have HLo:Hid (Calls Tryz.prog 16 #[.slice C X.length cc,.string TS] w3 (LowPost (lowV t (cxNames X)) w3)):=hide (by
    have:=zCa t X w3 C X.length cc ys h3 h4 hXw.1 (by omega) (fun x hx=>(hXw.2 x hx).1) HT3.out
    rwa [HTS.out] at this)
   have HVv:=hide hV;have H34:=hide (And.intro h3 h4);have HXw:=hide hXw.2;obtain⟨⟨a,b⟩,hab⟩:∃R,lowV t (cxNames X)=R:=⟨_,rfl⟩;have hlt:=zGk (nm:=t) (L:=cxNames X);rw[hab] at HLo hlt;have Hlt:=hide hlt;have Hab:=hide hab;obtain⟨kx,hkx⟩:∃z,X.length=z:=⟨_,rfl⟩;rw[hkx] at c0 HLo H34;have Hkx:=hide hkx;have hl6:t.length<=1000000:=by omega
   clear HV HR3 r1 r2 r3 hat hg hXw h3 h4 hV hlt hab hkx hXk hs htb hkn Hnl HW Ha;go_wp2_with (go_at_call 16;fail);refine HLo.out.mono ?_;rintro e w4 hp4;obtain⟨rfl,hb4⟩:=hp4.out;have HB4:Hid (Below w.heap.size w w4):=hide (HB3.out.trans (hb4.mono HB3.out.size));have H34b:=hide (And.intro (H34.out.1.grow hb4) (H34.out.2.grow hb4));have HT4:=hide (HT3.out.below hb4);have Hsz4:Hid (h<w4.heap.size):=hide (Nat.lt_of_lt_of_le HX3.out.lt hb4.size);clear hp4 hb4 HLo HB3 H34 HT3 HX3 x0 c0;cases b with
   | false=>
    have HE:Hid (LowPost (heldV L (k:Int) nm) w (.returned (.tuple #[.int .i64 0,.bool false])) w4):=hide ⟨by
     rw[HVv.out]
     unfold heldX
     rw[Hab.out,if_neg (by simp)]
     exact⟨rfl,HB4.out⟩⟩
    clear HVv HB4 H34b HT4 Hlt Hab Hkx Hh HXw HTS;go_wp2;go_ret2;exact HE
   | true=>
    have hax:a<kx:=(by have:=Hlt.out rfl;unfold cxNames at this;rw[List.length_map,Hkx.out] at this;exact this);have haz:(a:Int)<(kx:Int):=by omega
    obtain⟨x,hx⟩:∃x,X[a]?=some x:=⟨_,List.getElem?_eq_getElem (by rw[Hkx.out];exact hax)⟩;obtain⟨g2,o2,hCe,hg2,hat2⟩:=H34b.out.1.cx H34b.out.2 (fun h=>by rw[h] at hx;simp at hx);subst hCe;obtain⟨V,cv,us,Sb,ds,hat2⟩:=hat2 a x hx;have c2:=hat2.c2;have hxw:=HXw.out x (List.mem_of_getElem? hx);have HLc:Hid (Calls Tryz.prog 21 #[.slice Sb x.2.2.length ds,.string TS] w4 (LowPost (lowV t (ctNames x.2.2)) w4)):=hide (by
     have:=zCc t x.2.2 w4 Sb x.2.2.length ds hat2.subs hxw.2.1 hl6 hxw.2.2 HT4.out
     rwa [HTS.out] at this)
    have HVw:Hid (heldV L (k:Int) nm=if (lowV t (ctNames x.2.2)).2=true then (0,false) else (a,true)):=hide (by
     rw[HVv.out]
     unfold heldX
     rw[Hab.out,if_pos rfl,List.getD_eq_getElem?_getD,hx]
     rfl)
    obtain⟨⟨a2,b2⟩,hab2⟩:∃R,lowV t (ctNames x.2.2)=R:=⟨_,rfl⟩;rw[hab2] at HLc HVw;obtain⟨ks,hks⟩:∃z,x.2.2.length=z:=⟨_,rfl⟩;rw[hks] at c2 HLc;clear HVv H34b HT4 Hlt Hab Hkx HXw hat2 hg2 hxw hab2 hks hx HTS hax;go_wp2_with (go_at_call 21;fail);refine HLc.out.mono ?_;rintro e w5 hp5;obtain⟨rfl,hb5⟩:=hp5.out;have HB5:Hid (Below w.heap.size w w5):=hide (HB4.out.trans (hb5.mono HB4.out.size));clear hp5 hb5 HLc HB4 c2;cases b2 with
    | true=>
     have HE:Hid (LowPost (heldV L (k:Int) nm) w (.returned (.tuple #[.int .i64 0,.bool false])) w5):=hide ⟨by
      rw[HVw.out,if_pos rfl]
      exact⟨rfl,HB5.out⟩⟩
     clear HVw HB5 Hh;go_wp2;go_ret2;exact HE
    | false=>
     have HE:Hid (LowPost (heldV L (k:Int) nm) w (.returned (.tuple #[.int .i64 (a:Int),.bool true])) w5):=hide ⟨by
      rw[HVw.out,if_neg (by simp)]
      exact⟨rfl,HB5.out⟩⟩
     clear HVw HB5 Hh;go_wp2;go_ret2;exact HE
 ·have q1:(y==0)=false:=beq_false_of_ne hy0;have HE:Hid (LowPost (heldV L s nm) w (.returned (.tuple #[.int .i64 0,.bool false])) w2):=hide ⟨by rw[HV.out,if_neg (fun h=>hy0 h.1)];exact⟨rfl,HB2.out⟩⟩;clear HV HR2 HT2 HB2 HX2 Hh HW HTS Ha Hnl HTh;go_wp2;go_ret2;exact HE
theorem zFl (L:List (List CX)) (Top:List CT) (nm:List UInt8) (s:Int) (w:World) (A:Option Addr) (n c:Nat) (T:Option Addr) (m d:Nat) (hR:CfgR w A n T m L Top) (hW:CfgW L Top) (hnm:nm.length<=1000000) (hT:TM w):
  Calls Tryz.prog 8 #[.agg #[.slice A n c,.slice T m d],.int .i64 s,.string (txt nm)] w (SrvPost (nearV L Top s nm) w):=by
 suffices H:Calls Tryz.prog 8 #[.agg #[.slice A n c,.slice T m d],.int .i64 s,.string (txt nm)] w fun e w'=>Hid (SrvPost (nearV L Top s nm) w e w') from H.mono fun e w' h=>h.out
 have hb1:=below1 w (.cells #[.slice A n c,.slice T m d] 34);have hX:Blk (w.alloc (.cells #[.slice A n c,.slice T m d] 34)) w.heap.size [.slice A n c,.slice T m d]:=Blk.new w [.slice A n c,.slice T m d] 34;obtain⟨w1,hw1⟩:∃w1,w.alloc (.cells #[.slice A n c,.slice T m d] 34)=w1:=⟨_,rfl⟩;rw[hw1] at hb1 hX;have HN:=hide (zA9 nm (by omega) w1 (hT.below hb1));obtain⟨t,ht⟩:∃t,(normT nm).1=t:=⟨_,rfl⟩;obtain⟨y,hy⟩:∃y,(normT nm).2=y:=⟨_,rfl⟩;obtain⟨TS,hTS⟩:∃TS,txt t=TS:=⟨_,rfl⟩;rw[ht,hy,hTS] at HN;have Ha:Hid (y=0->t.length<=1000):=hide (fun h=>by
  have:=(zDq (l:=nm) (by rw[hy];exact h)).2
  rwa [ht] at this)
 obtain⟨xs,r1,r2,r3⟩:=hR.out;have hnl:=r1.sv_n r2;have HV:Hid (nearV L Top s nm=if y=0/\thereB n s=true then nearX (L.getD s.toNat []) Top s t else (0,false)):=hide (by unfold nearV;rw[ht,hy,hnl]);have HR:=hide (hR.grow hb1);have HW:=hide hW;have HT:=hide (hT.below hb1);have HX:=hide hX;have HB:=hide hb1;have Hw1:=hide hw1;have HTS:=hide hTS;have hn6:n<=2000000:=by rw[hnl];exact hW.len
 have HTh:=hide (fun w=>zB9 w A n c T m d s hn6);have Hnl:=hide hnl;clear hb1 hX hw1 ht hy hTS hR hW hT hnm r1 r2 r3 hnl;generalize txt nm=S at *;go_enter Tryz.func8,Tryz.ntmps8;go_upto_region 1 with fail;rw[Hw1.out];clear Hw1;obtain⟨h,hh⟩:∃h,w.heap.size=h:=⟨_,rfl⟩;rw[hh] at HX;(try rw[hh]);have Hh:=hide hh;clear hh;go_wp2_with (go_at_call 11;fail);refine HN.out.mono ?_;rintro e w2 ⟨rfl,hb2⟩;have HX2:=hide (HX.out.grow hb2);have x0:=HX2.out.cells 0 _ rfl;have x1:=HX2.out.cells 1 _ rfl;have HR2:=hide (HR.out.grow hb2);have HT2:=hide (HT.out.below hb2);have HB2:Hid (Below w.heap.size w w2):=hide (HB.out.trans (hb2.mono HB.out.size));clear hb2 HN HX HR HT HB;by_cases hy0:y=0
 ·have hl:=Ha.out hy0;subst hy0;go_wp2_with (go_at_call 12;fail);refine (HTh.out w2).mono ?_;rintro e w3 ⟨rfl,hb3⟩;have x0:=(HX2.out.grow hb3).cells 0 _ rfl;have HR3:=hide (HR2.out.grow hb3);have HT3:=hide (HT2.out.below hb3);have HB3:Hid (Below w.heap.size w w3):=hide (HB2.out.trans (hb3.mono HB2.out.size));have HX3:=hide (HX2.out.grow hb3);obtain⟨tb,htb⟩:∃b,thereB n s=b:=⟨_,rfl⟩;rw[htb] at HV ⊢;clear hb3 HX2 HR2 HT2 HB2 HTh x1;cases tb with
  | false=>
   have HE:Hid (SrvPost (nearV L Top s nm) w (.returned (.tuple #[.int .i64 0,.bool false])) w3):=hide ⟨by rw[HV.out,if_neg (fun h=>by cases h.2)];exact⟨rfl,HB3.out⟩⟩;clear HV HR3 HT3 HB3 HX3 Hh HW HTS Ha Hnl htb;go_wp2;go_ret2;exact HE
  | true=>
   have hs:0<=s/\s<(n:Int):=of_decide_eq_true htb;obtain⟨k,rfl⟩:=Int.eq_ofNat_of_zero_le hs.1;have hkn:k<n:=by omega
   have hkz:(k:Int)<(n:Int):=hs.2;obtain⟨X,hXk⟩:∃X,L[k]?=some X:=⟨_,List.getElem?_eq_getElem (by rw[<-Hnl.out];exact hkn)⟩;have hV:nearV L Top (k:Int) nm=nearX X Top (k:Int) t:=by rw[HV.out,if_pos (by simp),Int.toNat_natCast,List.getD_eq_getElem?_getD,hXk];rfl
   obtain⟨zs,r1,r2,r3⟩:=HR3.out.out;obtain⟨g,o,hAe,hg,hat⟩:=r1.sv r2 (fun h=>by rw[h] at hXk;simp at hXk);subst hAe;obtain⟨C,cc,ys,c0,h3,h4⟩:=hat k X hXk;have hXw:=HW.out.each X (List.mem_of_getElem? hXk);have HLo:Hid (Calls Tryz.prog 16 #[.slice C X.length cc,.string TS] w3 (LowPost (lowV t (cxNames X)) w3)):=hide (by
    have:=zCa t X w3 C X.length cc ys h3 h4 hXw.1 (by omega) (fun x hx=>(hXw.2 x hx).1) HT3.out
    rwa [HTS.out] at this)
   have HVv:=hide hV;have H34:=hide (And.intro h3 h4);have HXw:=hide hXw.2;have HWt:=hide HW.out.top;have HTop:=hide r3;obtain⟨⟨a,b⟩,hab⟩:∃R,lowV t (cxNames X)=R:=⟨_,rfl⟩;have hlt:=zGk (nm:=t) (L:=cxNames X);rw[hab] at HLo hlt;have Hlt:=hide hlt;have Hab:=hide hab;obtain⟨kx,hkx⟩:∃z,X.length=z:=⟨_,rfl⟩;rw[hkx] at c0 HLo H34;have Hkx:=hide hkx;have hl6:t.length<=1000000:=by omega
   clear HV HR3 r1 r2 r3 hat hg hXw h3 h4 hV hlt hab hkx hXk hs htb hkn Hnl HW Ha;go_wp2_with (go_at_call 16;fail);refine HLo.out.mono ?_;rintro e w4 hp4;obtain⟨rfl,hb4⟩:=hp4.out;have HB4:Hid (Below w.heap.size w w4):=hide (HB3.out.trans (hb4.mono HB3.out.size));have H34b:=hide (And.intro (H34.out.1.grow hb4) (H34.out.2.grow hb4));have HT4:=hide (HT3.out.below hb4);have HX4:=hide (HX3.out.grow hb4);have HTop4:=hide (HTop.out.grow hb4);have Hsz4:Hid (h<w4.heap.size):=hide (Nat.lt_of_lt_of_le HX3.out.lt hb4.size);clear hp4 hb4 HLo HB3 H34 HT3 HX3 x0 c0 HTop;cases b with
   | false=>
    by_cases hk0:k=0
    ·subst hk0;have HSv:Hid (Calls Tryz.prog 17 #[.slice T m d,.string TS] w4 (SrvPost (srvV t Top) w4)):=hide (by
      have:=zDd t Top w4 T m d HTop4.out (by have h1:=HTop4.out.cuts_n;have h2:=HWt.out.1;omega) hl6 HWt.out.2 HT4.out
      rwa [HTS.out] at this)
     have HVw:Hid (nearV L Top ((0:Nat):Int) nm=srvV t Top):=hide (by
      rw[HVv.out]
      unfold nearX
      rw[Hab.out,if_neg (by simp),if_pos (show ((0:Nat):Int)=0 from rfl)])
     have x1:=HX4.out.cells 1 _ rfl;obtain⟨⟨sv,sb⟩,hsv⟩:∃R,srvV t Top=R:=⟨_,rfl⟩;rw[hsv] at HSv HVw;clear HVv H34b HT4 Hlt Hab Hkx HXw HTS hsv HX4 HTop4 HWt;go_wp2_with (go_at_call 17;fail);refine HSv.out.mono ?_;rintro e w5 hp5;obtain⟨rfl,hb5⟩:=hp5.out;have HB5:Hid (Below w.heap.size w w5):=hide (HB4.out.trans (hb5.mono HB4.out.size));have HE:Hid (SrvPost (nearV L Top ((0:Nat):Int) nm) w (.returned (.tuple #[.int .i64 sv,.bool sb])) w5):=hide ⟨by
      rw[HVw.out]
      exact⟨rfl,HB5.out⟩⟩
     clear hp5 hb5 HSv HB4 HVw HB5 Hh;go_wp2;go_ret2;exact HE
    ·have hkz0:((k:Int)==0)=false:=beq_false_of_ne (by omega);have hkz1:¬((k:Int)=0):=by omega
     have HE:Hid (SrvPost (nearV L Top (k:Int) nm) w (.returned (.tuple #[.int .i64 0,.bool true])) w4):=hide ⟨by
      rw[HVv.out]
      unfold nearX
      rw[Hab.out,if_neg (by simp),if_neg hkz1]
      exact⟨rfl,HB4.out⟩⟩
     clear HVv HB4 H34b HT4 Hlt Hab Hkx Hh HXw HTS HX4 HTop4 HWt;go_wp2;go_ret2;exact HE
   | true=>
    have hax:a<kx:=(by have:=Hlt.out rfl;unfold cxNames at this;rw[List.length_map,Hkx.out] at this;exact this);have haz:(a:Int)<(kx:Int):=by omega
    obtain⟨x,hx⟩:∃x,X[a]?=some x:=⟨_,List.getElem?_eq_getElem (by rw[Hkx.out];exact hax)⟩;obtain⟨g2,o2,hCe,hg2,hat2⟩:=H34b.out.1.cx H34b.out.2 (fun h=>by rw[h] at hx;simp at hx);subst hCe;obtain⟨V,cv,us,Sb,ds,hat2⟩:=hat2 a x hx;have c2:=hat2.c2;have hxw:=HXw.out x (List.mem_of_getElem? hx);have HLc:Hid (Calls Tryz.prog 17 #[.slice Sb x.2.2.length ds,.string TS] w4 (SrvPost (srvV t x.2.2) w4)):=hide (by
     have:=zDd t x.2.2 w4 Sb x.2.2.length ds hat2.subs hxw.2.1 hl6 hxw.2.2 HT4.out
     rwa [HTS.out] at this)
    have HVw:Hid (nearV L Top (k:Int) nm=srvV t x.2.2):=hide (by
     rw[HVv.out]
     unfold nearX
     rw[Hab.out,if_pos rfl,List.getD_eq_getElem?_getD,hx]
     rfl)
    obtain⟨⟨sv,sb⟩,hsv⟩:∃R,srvV t x.2.2=R:=⟨_,rfl⟩;rw[hsv] at HLc HVw;obtain⟨ks,hks⟩:∃z,x.2.2.length=z:=⟨_,rfl⟩;rw[hks] at c2 HLc;clear HVv H34b HT4 Hlt Hab Hkx HXw hat2 hg2 hxw hsv hks hx HTS hax HX4 HTop4 HWt;go_wp2_with (go_at_call 17;fail);refine HLc.out.mono ?_;rintro e w5 hp5;obtain⟨rfl,hb5⟩:=hp5.out;have HB5:Hid (Below w.heap.size w w5):=hide (HB4.out.trans (hb5.mono HB4.out.size));have HE:Hid (SrvPost (nearV L Top (k:Int) nm) w (.returned (.tuple #[.int .i64 sv,.bool sb])) w5):=hide ⟨by
     rw[HVw.out]
     exact⟨rfl,HB5.out⟩⟩
    clear hp5 hb5 HLc HB4 c2 HVw HB5 Hh;go_wp2;go_ret2;exact HE
 ·have q1:(y==0)=false:=beq_false_of_ne hy0;have HE:Hid (SrvPost (nearV L Top s nm) w (.returned (.tuple #[.int .i64 0,.bool false])) w2):=hide ⟨by rw[HV.out,if_neg (fun h=>hy0 h.1)];exact⟨rfl,HB2.out⟩⟩;clear HV HR2 HT2 HB2 HX2 Hh HW HTS Ha Hnl HTh;go_wp2;go_ret2;exact HE
end Go.Proofs.YtlfglibcggphjaaGreatDoor
