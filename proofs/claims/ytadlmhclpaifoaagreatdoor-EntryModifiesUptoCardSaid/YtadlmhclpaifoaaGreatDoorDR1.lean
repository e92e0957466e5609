/- Several texts in one: DRChange3, DRel, DRChgA. By an AI agent. -/
import Derived.Test.YtadlmhclpaifoaaGreatDoorDR0
import Derived.Deep.CutRange
import Derived.Deep.CutBlock
set_option linter.unusedSimpArgs false
set_option linter.unusedVariables false
set_option maxRecDepth 100000
set_option maxHeartbeats 32000000
namespace Go.Proofs.YtadlmhclpaifoaaGreatDoor
open Go Go.RowKit
open Classical in
noncomputable def incV (t:List UInt8) (x:Int) (l vs:List (List UInt8)):List (List UInt8) × Int:=
 if ¬(x=3\/x=4)\/vs.length≠1 then ([],19) else if l=[] then ([],16)
 else if ∃v∈l,¬∃s,RaiseR x v (vs.headD []) s then ([],19) else (l.map fun v=>sumV x v (vs.headD []),0)
theorem zIt {t u:List UInt8} {x:Int} {l:List (List UInt8)} (hx:(typ t).2=x) (hok:∀v∈l,(valV t v).2=0) (hal:AloneV t l) (hall:∀v∈l,∃s,RaiseR x v u s):AloneV t (l.map fun v=>sumV x v u)/\∀s∈l.map (fun v=>sumV x v u),s.length<=1000000:=by
 have hval:∀v∈l,valV t (sumV x v u)=(sumV x v u,0):=fun v hv=>zCs hx (zEp (hall v hv))
 have hok2:∀s∈l.map (fun v=>sumV x v u),(valV t s).2=0:=by intro s hs;obtain⟨v,hv,rfl⟩:=List.mem_map.1 hs;rw[hval v hv]
 refine⟨?_,fun s hs=>?_⟩
 ·rw [zBz hok2,List.pairwise_map];refine List.Pairwise.imp_of_mem (fun {a b} ha hb hab=>?_) ((zBz hok).1 hal);rw[hval a ha,hval b hb];intro e;have e1:=zFa (zEp (hall a ha)) (by have:=zEp (hall b hb);simp only at e;rw[<-e] at this;exact this);exact hab (by rw[e1])
 ·obtain ⟨v,hv,rfl⟩:=List.mem_map.1 hs;have:=zGl t (sumV x v u);rw[hval v hv] at this;simp only at this;omega
theorem zLx (ty t:List UInt8) (x:Int) (w:World) (V:Option Addr) (n:Nat) (cv:Nat) (lv:Value) (hx:¬(x=3\/x=4)):
  Calls Tryz.prog 43 #[.agg #[.int .i64 3,.string (txt ty),.slice V n cv],.string (txt t),.int .i64 x,lv] w (RChgPost ([],19) w.heap.size w):=by
 have hb1:=below1 w (.cells #[.int .i64 3,.string (txt ty),.slice V n cv] 43);have hX:=BoxC.new w 3 (txt ty) V n cv 43;have x0:=hX.c0;have x2:=hX.c2;have HB:=hide hb1;have h3:(x !=3)=true:=by simp;omega
 have h4:(x !=4)=true:=by simp;omega
 clear hx;clear hX hb1;generalize txt ty=TY at *;generalize txt t=TN at *;go_enter Tryz.func43,Tryz.ntmps43;go_wp2;go_ret2;exact zA0 rfl HB.out
theorem zJz (ty t:List UInt8) (w:World) (V:Option Addr) (n:Nat) (cv:Nat) (lv:Value) (hn:n≠1):
  Calls Tryz.prog 43 #[.agg #[.int .i64 3,.string (txt ty),.slice V n cv],.string (txt t),.int .i64 3,lv] w (RChgPost ([],19) w.heap.size w):=by
 have hb1:=below1 w (.cells #[.int .i64 3,.string (txt ty),.slice V n cv] 43);have hX:=BoxC.new w 3 (txt ty) V n cv 43;have x0:=hX.c0;have x2:=hX.c2;have HB:=hide hb1;have h1:((n:Int)!=1)=true:=by simp;omega
 clear hn;clear hX hb1;generalize txt ty=TY at *;generalize txt t=TN at *;go_enter Tryz.func43,Tryz.ntmps43;go_wp2;go_ret2;exact zA0 rfl HB.out
theorem zH7 (ty t:List UInt8) (w:World) (V:Option Addr) (cv:Nat) (A:Option Addr) (c:Nat):
  Calls Tryz.prog 43 #[.agg #[.int .i64 3,.string (txt ty),.slice V 1 cv],.string (txt t),.int .i64 3,.slice A 0 c] w (RChgPost ([],16) w.heap.size w):=by
 have hb1:=below1 w (.cells #[.int .i64 3,.string (txt ty),.slice V 1 cv] 43);have hX:=BoxC.new w 3 (txt ty) V 1 cv 43;have x0:=hX.c0;have x2:=hX.c2;have HB:=hide hb1;clear hX hb1;generalize txt ty=TY at *;generalize txt t=TN at *;go_enter Tryz.func43,Tryz.ntmps43;go_wp2;go_ret2;exact zA0 rfl HB.out
theorem zJl (ty t:List UInt8) (w:World) (V:Option Addr) (n:Nat) (cv:Nat) (lv:Value) (hn:n≠1):
  Calls Tryz.prog 43 #[.agg #[.int .i64 3,.string (txt ty),.slice V n cv],.string (txt t),.int .i64 4,lv] w (RChgPost ([],19) w.heap.size w):=by
 have hb1:=below1 w (.cells #[.int .i64 3,.string (txt ty),.slice V n cv] 43);have hX:=BoxC.new w 3 (txt ty) V n cv 43;have x0:=hX.c0;have x2:=hX.c2;have HB:=hide hb1;have h1:((n:Int)!=1)=true:=by simp;omega
 clear hn;clear hX hb1;generalize txt ty=TY at *;generalize txt t=TN at *;go_enter Tryz.func43,Tryz.ntmps43;go_wp2;go_ret2;exact zA0 rfl HB.out
theorem zH1 (ty t:List UInt8) (w:World) (V:Option Addr) (cv:Nat) (A:Option Addr) (c:Nat):
  Calls Tryz.prog 43 #[.agg #[.int .i64 3,.string (txt ty),.slice V 1 cv],.string (txt t),.int .i64 4,.slice A 0 c] w (RChgPost ([],16) w.heap.size w):=by
 have hb1:=below1 w (.cells #[.int .i64 3,.string (txt ty),.slice V 1 cv] 43);have hX:=BoxC.new w 3 (txt ty) V 1 cv 43;have x0:=hX.c0;have x2:=hX.c2;have HB:=hide hb1;clear hX hb1;generalize txt ty=TY at *;generalize txt t=TN at *;go_enter Tryz.func43,Tryz.ntmps43;go_wp2;go_ret2;exact zA0 rfl HB.out
theorem zKg (ty t u:List UInt8) (hx:(typ t).2=3) (l:List (List UInt8)) (w:World) (V:Option Addr) (cv:Nat) (hV:Has w w.heap.size 1 V 1 (strs [u])) (A:Option Addr) (m c:Nat) (hA:Has w w.heap.size 1 A m (strs l)) (hu:(valV t u).2=0)
  (hok:∀v∈l,(valV t v).2=0) (hal:AloneV t l) (hl0:l≠[]) (hlb:l.length<=1000000) (ht:t.length<=1000000) (hT:TM w):
  Calls Tryz.prog 43 #[.agg #[.int .i64 3,.string (txt ty),.slice V 1 cv],.string (txt t),.int .i64 3,.slice A m c] w fun e w'=>Hid (
   ((∃v∈l,¬∃s,RaiseR 3 v u s)/\RChgPost ([],19) w.heap.size w e w')\/((¬∃v∈l,¬∃s,RaiseR 3 v u s)/\RChgPost (l.map (fun v=>sumV 3 v u),0) w.heap.size w e w')):=by
 have hm:m=l.length:=hA.strs_n;have hb1:=below1 w (.cells #[.int .i64 3,.string (txt ty),.slice V 1 cv] 43);have hX:=BoxC.new w 3 (txt ty) V 1 cv 43;have x0:=hX.c0;have x2:=hX.c2;have hm0:((m:Int)==0)=false:=beq_false_of_ne (by
  have:=List.length_pos_iff.2 hl0
  omega)
 obtain⟨ga,oa,hAe,hga0,hatA⟩:=hA.texts hl0;obtain⟨gv,ov,hVe,hgv0,hatV⟩:=hV.texts (by simp);have f00:=hatV 0 u rfl;rw[Nat.add_zero] at f00;have HB:=hide hb1;have HA:=hide hatA;have HT:=hide hT;have Hok:=hide hok;have Hal:=hide hal;have Hm:=hide (And.intro hm hlb);have Ht:=hide ht;have Hx:=hide hx;have Hu:=hide hu;have Hg:=hide (And.intro hga0 hgv0);have Hb1:Hid (Below w.heap.size w w):=hide (Below.refl _ _);have Hw1:Hid (w.heap.size<=w.heap.size):=hide (Nat.le_refl _);have Hf:=hide f00;subst hAe;subst hVe;clear hA hV hatA hatV hT hok hal hl0 hm hlb ht hx hu hX hb1 f00 hga0 hgv0;obtain⟨TN,hTN⟩:∃S,txt t=S:=⟨_,rfl⟩;obtain⟨UN,hUN⟩:∃S,txt u=S:=⟨_,rfl⟩;have HTN:=hide hTN;have HUN:=hide hUN;rw[hUN] at Hf;rw[hTN];clear hTN hUN;generalize txt ty=TY at *;obtain⟨SL,hSL⟩:∃SL,(l.map fun v=>sumV 3 v u)=SL:=⟨_,rfl⟩;have HSL:=hide hSL;have hsl:SL.length=m:=by rw[<-hSL,List.length_map,Hm.out.1]
 have Hsl:=hide hsl;rw[hSL];clear hSL hsl;go_enter Tryz.func43,Tryz.ntmps43;go_wp2
 go_loopg [14,101] m (fun r s14 s101 wx=>∃i:Nat,i+r=m/\s101=.int .i64 (i:Int)/\wx.ownsRow w.heap.size 9 1 s14 i (strs (SL.take i))/\Hid (∀v∈l.take i,∃s,RaiseR 3 v u s)/\Below w.heap.size w wx)
 case atStart=>exact⟨0,by omega,rfl,nil_own _ _ _ _,hide (by simp),HB.out⟩
 case round=>
  obtain⟨i,hig,rfl,hor,hall,hbr⟩:=hrel;clear x0 x2 HB;cases gk with
  | zero=>
   obtain rfl:i=m:=by omega
   have hiz:¬((i:Int)<(i:Int)):=by omega
   have htk:l.take i=l:=List.take_of_length_le (by rw[Hm.out.1];exact Nat.le_refl _);have htk2:SL.take i=SL:=List.take_of_length_le (by rw[Hsl.out];exact Nat.le_refl _);rw[htk] at hall;rw[htk2] at hor;obtain⟨h1,h2⟩:=zIt Hx.out Hok.out Hal.out hall.out;rw[HSL.out] at h1 h2;obtain⟨A2,c2,rfl,hc1,hc2,hA2⟩:=zGp hor;have HAl:=hide (zEg t SL wr A2 i c2 hA2 (by have:=Hm.out;omega) hc1 hc2 Ht.out h2 (HT.out.below hbr));rw[zAn h1,HTN.out] at HAl;have Hor:=hide hor;have Hall:=hide hall.out;clear hor hall htk htk2 h1 h2 hA2 hc1 hc2 Hf;go_wp2_with (go_at_call 74;fail);refine HAl.out.mono ?_;rintro e w2 ⟨rfl,hb2⟩;have HO2:=hide (zAd Hor.out hb2);have HB2:=hide (hbr.trans (hb2.mono hbr.size));clear hb2 HAl hbr Hor;go_wp2;go_ret2;exact hide (.inr ⟨fun ⟨v,hv,q⟩=>q (Hall.out v hv),⟨_,rfl,by have h1:=HO2.out;simp only[Hsl.out];exact h1,HB2.out⟩⟩)
  | succ r=>
   have hi:i<m:=by omega
   have hiz:(i:Int)<(m:Int):=by omega
   obtain⟨v,hv⟩:∃v,l[i]?=some v:=⟨_,List.getElem?_eq_getElem (by rw[<-Hm.out.1];exact hi)⟩;have hvm:=List.mem_of_getElem? hv;have htk:l.take (i+1)=l.take i++[v]:=by rw[List.take_add_one,hv];rfl
   have hai:i+1<=10000000:=by have:=Hm.out;omega
   have y0:=(hbr.cell (p:=⟨ga,oa+i,none⟩) Hg.out.1).trans (HA.out i v hv);have Hvm:=hide hvm;by_cases hs:∃s,RaiseR 3 v u s
   ·obtain ⟨s,hs⟩:=hs;have Hs:=hide hs;obtain⟨SS,hSS⟩:∃S,txt s=S:=⟨_,rfl⟩;have Hstep:Hid (strs (SL.take (i+1))=strs (SL.take i)++[.string SS]):=hide (by
     have h1:SL[i]?=some s:=(by rw[<-HSL.out,List.getElem?_map,hv];simp only[Option.map_some,zPh Hs.out]);rw[List.take_add_one,h1,zAy,<-hSS]
     rfl)
    have Hall:Hid (Hid (∀v∈l.take (i+1),∃s,RaiseR 3 v u s)):=hide (hide (by
     intro v2 hv2
     rw[htk] at hv2
     rcases List.mem_append.1 hv2 with hv2 | hv2
     ·exact hall.out v2 hv2
     ·simp only[List.mem_singleton] at hv2
      rw[hv2]
      exact⟨s,Hs.out⟩))
    clear hs htk hall hvm;go_upto_region 40 with fail;refine zAv (by kernel_rfl) ?_;have hdr:Below wr.heap.size wr wr.drew:=(Below.refl _ _).drew;have hga:ga<wr.drew.heap.size:=Nat.lt_of_lt_of_le Hg.out.1 hbr.size;have hgv:gv<wr.drew.heap.size:=Nat.lt_of_lt_of_le Hg.out.2 hbr.size;have e0:=(hdr.cell (p:=⟨ga,oa+i,none⟩) (Nat.lt_of_lt_of_le Hg.out.1 hbr.size)).trans y0;have f0:=(hdr.cell (p:=⟨gv,ov,none⟩) (Nat.lt_of_lt_of_le Hg.out.2 hbr.size)).trans ((hbr.cell (p:=⟨gv,ov,none⟩) Hg.out.2).trans Hf.out);have HBd:=hide (hbr.trans (hdr.mono hbr.size));have HOd:=hide (zAd hor hdr);have HW:=hide (zEb t v u 3 Hx.out (by omega) (Hok.out v Hvm.out) Hu.out wr.drew (HT.out.below HBd.out).tt);obtain⟨VN,hVN⟩:∃S,txt v=S:=⟨_,rfl⟩;rw[hVN] at e0 HW;rw[HUN.out] at HW;clear hdr y0 hbr hor hVN;generalize wr.drew=wd at *;refine yTk 0 (some 105) ?_;(try simp only[pUz]);refine yTk 1 (some 106) ?_;(try simp only[pUz]);refine yTk 2 (some 107) ?_;(try simp only[pUz]);refine yTk 3 (some 108) ?_;(try simp only[pUz]);refine zAa 4 (some 109) (v:=?va4) rfl rfl (by kernel_rfl) rfl (by rfl) (fun W hW=>?ya4) ?_
    case ya4=>have h1:=(hW.cell (p:=⟨ga,oa+i,none⟩) hga).trans e0;go_simp<;>with_reducible rfl
    (try simp only[pUz]);refine yTk 5 (some 110) ?_;(try simp only[pUz]);refine yTk 6 (some 111) ?_;(try simp only[pUz]);refine zAa 7 (some 112) (v:=?va7) rfl rfl (by kernel_rfl) rfl (by rfl) (fun W hW=>?ya7) ?_
    case ya7=>have h1:=(hW.cell (p:=⟨gv,ov,none⟩) hgv).trans f0;have h2:=(hW.cell (p:=⟨gv,ov+0,none⟩) hgv).trans f0;go_simp<;>with_reducible rfl
    (try simp only[pUz]);refine zAb 8 rfl (by kernel_rfl) (fun K hK=>?_);go_simp;refine HW.out.mono ?_;rintro e w5 hp;obtain rfl:=hp.yes s Hs.out;have hb5:=hp.below;refine hK.out _ _ hb5 ?_;have HB5:=hTz HBd hb5;have HO5:=hide (zAd HOd.out hb5);rw[hSS];clear hK K hb5 hp HBd HOd HW;(try simp only[pUz]);refine yTk 9 (some 104) ?_;(try simp only[pUz]);refine yTk 10 (some 114) ?_;(try simp only[pUz]);refine yTk 11 (some 115) ?_;(try simp only[pUz]);refine yTk 12 (some 16) ?_;(try simp only[pUz]);refine yTk 13 (some 17) ?_;(try simp only[pUz]);refine zAi (by kernel_rfl) ?_ _;have hone:=litS w5 SS;have hH:=Has.own hone;have hor4:=HO5.out.alloc (.cells #[.string SS] 9);have hbr4:=HB5.out.alloc HB5.out.size (.cells #[.string SS] 9);have hs4:w.heap.size<=_:=Nat.le_trans Hw1.out hbr4.size;have h1c:∀u∈[Value.string SS],u.oneCell'=true:=by simp[Value.oneCell']
    clear hone HO5 HB5 e0 f0 hgv hga hSS;go_wp2_with (at_builtin;go_must (refine appE _ 39 9 _ 1 16 Tryz.underlying39 infoS rfl (by omega) (by omega) rfl (.tmp 118) (.tmp 120) rfl w.heap.size _ i _ rfl hor4 _ _ 1 1 [.string SS] rfl hH h1c hai hs4 ?_));intro v6 w6 hor6 hb6 _;have hbr6:Below w.heap.size w w6:=((Hb1.out.trans (hbr4.mono Hw1.out))).trans hb6;rw[<-Hstep.out] at hor6;clear hor4 hbr4 hs4 hH hb6 h1c;go_wp2
    go_roundg r
    case measure=>omega
    case rel=>exact⟨i+1,by omega,by go_num,hor6,Hall.out,hbr6⟩
   ·have Hs:=hide hs;clear hs htk hall hvm;go_upto_region 40 with fail;refine zAv (by kernel_rfl) ?_;have hdr:Below wr.heap.size wr wr.drew:=(Below.refl _ _).drew;have hga:ga<wr.drew.heap.size:=Nat.lt_of_lt_of_le Hg.out.1 hbr.size;have hgv:gv<wr.drew.heap.size:=Nat.lt_of_lt_of_le Hg.out.2 hbr.size;have e0:=(hdr.cell (p:=⟨ga,oa+i,none⟩) (Nat.lt_of_lt_of_le Hg.out.1 hbr.size)).trans y0;have f0:=(hdr.cell (p:=⟨gv,ov,none⟩) (Nat.lt_of_lt_of_le Hg.out.2 hbr.size)).trans ((hbr.cell (p:=⟨gv,ov,none⟩) Hg.out.2).trans Hf.out);have HBd:=hide (hbr.trans (hdr.mono hbr.size));have HOd:=hide (zAd hor hdr);have HW:=hide (zEb t v u 3 Hx.out (by omega) (Hok.out v Hvm.out) Hu.out wr.drew (HT.out.below HBd.out).tt);obtain⟨VN,hVN⟩:∃S,txt v=S:=⟨_,rfl⟩;rw[hVN] at e0 HW;rw[HUN.out] at HW;clear hdr y0 hbr hor hVN;generalize wr.drew=wd at *;refine yTk 0 (some 105) ?_;(try simp only[pUz]);refine yTk 1 (some 106) ?_;(try simp only[pUz]);refine yTk 2 (some 107) ?_;(try simp only[pUz]);refine yTk 3 (some 108) ?_;(try simp only[pUz]);refine zAa 4 (some 109) (v:=?vb4) rfl rfl (by kernel_rfl) rfl (by rfl) (fun W hW=>?yb4) ?_
    case yb4=>have h1:=(hW.cell (p:=⟨ga,oa+i,none⟩) hga).trans e0;go_simp<;>with_reducible rfl
    (try simp only[pUz]);refine yTk 5 (some 110) ?_;(try simp only[pUz]);refine yTk 6 (some 111) ?_;(try simp only[pUz]);refine zAa 7 (some 112) (v:=?vb7) rfl rfl (by kernel_rfl) rfl (by rfl) (fun W hW=>?yb7) ?_
    case yb7=>have h1:=(hW.cell (p:=⟨gv,ov,none⟩) hgv).trans f0;have h2:=(hW.cell (p:=⟨gv,ov+0,none⟩) hgv).trans f0;go_simp<;>with_reducible rfl
    (try simp only[pUz]);refine zAb 8 rfl (by kernel_rfl) (fun K hK=>?_);go_simp;refine HW.out.mono ?_;rintro e w5 hp;obtain⟨z,rfl⟩:=hp.no Hs.out;have hb5:=hp.below;refine hK.out _ _ hb5 ?_;have HB5:=hide ((Hb1.out.trans ((HBd.out.trans (hb5.mono HBd.out.size)).mono Hw1.out)));clear hK K hb5 hp HBd HOd HW e0 f0 hgv hga;(try simp only[pUz]);refine yTk 9 (some 104) ?_;(try simp only[pUz]);refine yTk 10 (some 114) ?_;(try simp only[pUz]);refine yTk 11 (some 115) ?_;(try simp only[pUz]);refine yTk 12 (some 16) ?_;(try simp only[pUz]);refine yTk 13 (some 17) ?_;(try simp only[pUz]);refine zAi (by kernel_rfl) ?_ _;go_wp2;go_ret2;exact hide (.inl ⟨⟨v,Hvm.out,Hs.out⟩,zA0 rfl HB5.out⟩)
theorem zJe (ty t u:List UInt8) (hx:(typ t).2=4) (l:List (List UInt8)) (w:World) (V:Option Addr) (cv:Nat) (hV:Has w w.heap.size 1 V 1 (strs [u])) (A:Option Addr) (m c:Nat) (hA:Has w w.heap.size 1 A m (strs l)) (hu:(valV t u).2=0)
  (hok:∀v∈l,(valV t v).2=0) (hal:AloneV t l) (hl0:l≠[]) (hlb:l.length<=1000000) (ht:t.length<=1000000) (hT:TM w):
  Calls Tryz.prog 43 #[.agg #[.int .i64 3,.string (txt ty),.slice V 1 cv],.string (txt t),.int .i64 4,.slice A m c] w fun e w'=>Hid (
   ((∃v∈l,¬∃s,RaiseR 4 v u s)/\RChgPost ([],19) w.heap.size w e w')\/((¬∃v∈l,¬∃s,RaiseR 4 v u s)/\RChgPost (l.map (fun v=>sumV 4 v u),0) w.heap.size w e w')):=by
 have hm:m=l.length:=hA.strs_n;have hb1:=below1 w (.cells #[.int .i64 3,.string (txt ty),.slice V 1 cv] 43);have hX:=BoxC.new w 3 (txt ty) V 1 cv 43;have x0:=hX.c0;have x2:=hX.c2;have hm0:((m:Int)==0)=false:=beq_false_of_ne (by
  have:=List.length_pos_iff.2 hl0
  omega)
 obtain⟨ga,oa,hAe,hga0,hatA⟩:=hA.texts hl0;obtain⟨gv,ov,hVe,hgv0,hatV⟩:=hV.texts (by simp);have f00:=hatV 0 u rfl;rw[Nat.add_zero] at f00;have HB:=hide hb1;have HA:=hide hatA;have HT:=hide hT;have Hok:=hide hok;have Hal:=hide hal;have Hm:=hide (And.intro hm hlb);have Ht:=hide ht;have Hx:=hide hx;have Hu:=hide hu;have Hg:=hide (And.intro hga0 hgv0);have Hb1:Hid (Below w.heap.size w w):=hide (Below.refl _ _);have Hw1:Hid (w.heap.size<=w.heap.size):=hide (Nat.le_refl _);have Hf:=hide f00;subst hAe;subst hVe;clear hA hV hatA hatV hT hok hal hl0 hm hlb ht hx hu hX hb1 f00 hga0 hgv0;obtain⟨TN,hTN⟩:∃S,txt t=S:=⟨_,rfl⟩;obtain⟨UN,hUN⟩:∃S,txt u=S:=⟨_,rfl⟩;have HTN:=hide hTN;have HUN:=hide hUN;rw[hUN] at Hf;rw[hTN];clear hTN hUN;generalize txt ty=TY at *;obtain⟨SL,hSL⟩:∃SL,(l.map fun v=>sumV 4 v u)=SL:=⟨_,rfl⟩;have HSL:=hide hSL;have hsl:SL.length=m:=by rw[<-hSL,List.length_map,Hm.out.1]
 have Hsl:=hide hsl;rw[hSL];clear hSL hsl;go_enter Tryz.func43,Tryz.ntmps43;go_wp2
 go_loopg [14,101] m (fun r s14 s101 wx=>∃i:Nat,i+r=m/\s101=.int .i64 (i:Int)/\wx.ownsRow w.heap.size 9 1 s14 i (strs (SL.take i))/\Hid (∀v∈l.take i,∃s,RaiseR 4 v u s)/\Below w.heap.size w wx)
 case atStart=>exact⟨0,by omega,rfl,nil_own _ _ _ _,hide (by simp),HB.out⟩
 case round=>
  obtain⟨i,hig,rfl,hor,hall,hbr⟩:=hrel;clear x0 x2 HB;cases gk with
  | zero=>
   obtain rfl:i=m:=by omega
   have hiz:¬((i:Int)<(i:Int)):=by omega
   have htk:l.take i=l:=List.take_of_length_le (by rw[Hm.out.1];exact Nat.le_refl _);have htk2:SL.take i=SL:=List.take_of_length_le (by rw[Hsl.out];exact Nat.le_refl _);rw[htk] at hall;rw[htk2] at hor;obtain⟨h1,h2⟩:=zIt Hx.out Hok.out Hal.out hall.out;rw[HSL.out] at h1 h2;obtain⟨A2,c2,rfl,hc1,hc2,hA2⟩:=zGp hor;have HAl:=hide (zEg t SL wr A2 i c2 hA2 (by have:=Hm.out;omega) hc1 hc2 Ht.out h2 (HT.out.below hbr));rw[zAn h1,HTN.out] at HAl;have Hor:=hide hor;have Hall:=hide hall.out;clear hor hall htk htk2 h1 h2 hA2 hc1 hc2 Hf;go_wp2_with (go_at_call 74;fail);refine HAl.out.mono ?_;rintro e w2 ⟨rfl,hb2⟩;have HO2:=hide (zAd Hor.out hb2);have HB2:=hide (hbr.trans (hb2.mono hbr.size));clear hb2 HAl hbr Hor;go_wp2;go_ret2;exact hide (.inr ⟨fun ⟨v,hv,q⟩=>q (Hall.out v hv),⟨_,rfl,by have h1:=HO2.out;simp only[Hsl.out];exact h1,HB2.out⟩⟩)
  | succ r=>
   have hi:i<m:=by omega
   have hiz:(i:Int)<(m:Int):=by omega
   obtain⟨v,hv⟩:∃v,l[i]?=some v:=⟨_,List.getElem?_eq_getElem (by rw[<-Hm.out.1];exact hi)⟩;have hvm:=List.mem_of_getElem? hv;have htk:l.take (i+1)=l.take i++[v]:=by rw[List.take_add_one,hv];rfl
   have hai:i+1<=10000000:=by have:=Hm.out;omega
   have y0:=(hbr.cell (p:=⟨ga,oa+i,none⟩) Hg.out.1).trans (HA.out i v hv);have Hvm:=hide hvm;by_cases hs:∃s,RaiseR 4 v u s
   ·obtain ⟨s,hs⟩:=hs;have Hs:=hide hs;obtain⟨SS,hSS⟩:∃S,txt s=S:=⟨_,rfl⟩;have Hstep:Hid (strs (SL.take (i+1))=strs (SL.take i)++[.string SS]):=hide (by
     have h1:SL[i]?=some s:=(by rw[<-HSL.out,List.getElem?_map,hv];simp only[Option.map_some,zPh Hs.out]);rw[List.take_add_one,h1,zAy,<-hSS]
     rfl)
    have Hall:Hid (Hid (∀v∈l.take (i+1),∃s,RaiseR 4 v u s)):=hide (hide (by
     intro v2 hv2
     rw[htk] at hv2
     rcases List.mem_append.1 hv2 with hv2 | hv2
     ·exact hall.out v2 hv2
     ·simp only[List.mem_singleton] at hv2
      rw[hv2]
      exact⟨s,Hs.out⟩))
    clear hs htk hall hvm;go_upto_region 40 with fail;refine zAv (by kernel_rfl) ?_;have hdr:Below wr.heap.size wr wr.drew:=(Below.refl _ _).drew;have hga:ga<wr.drew.heap.size:=Nat.lt_of_lt_of_le Hg.out.1 hbr.size;have hgv:gv<wr.drew.heap.size:=Nat.lt_of_lt_of_le Hg.out.2 hbr.size;have e0:=(hdr.cell (p:=⟨ga,oa+i,none⟩) (Nat.lt_of_lt_of_le Hg.out.1 hbr.size)).trans y0;have f0:=(hdr.cell (p:=⟨gv,ov,none⟩) (Nat.lt_of_lt_of_le Hg.out.2 hbr.size)).trans ((hbr.cell (p:=⟨gv,ov,none⟩) Hg.out.2).trans Hf.out);have HBd:=hide (hbr.trans (hdr.mono hbr.size));have HOd:=hide (zAd hor hdr);have HW:=hide (zEb t v u 4 Hx.out (by omega) (Hok.out v Hvm.out) Hu.out wr.drew (HT.out.below HBd.out).tt);obtain⟨VN,hVN⟩:∃S,txt v=S:=⟨_,rfl⟩;rw[hVN] at e0 HW;rw[HUN.out] at HW;clear hdr y0 hbr hor hVN;generalize wr.drew=wd at *;refine yTk 0 (some 105) ?_;(try simp only[pUz]);refine yTk 1 (some 106) ?_;(try simp only[pUz]);refine yTk 2 (some 107) ?_;(try simp only[pUz]);refine yTk 3 (some 108) ?_;(try simp only[pUz]);refine zAa 4 (some 109) (v:=?va4) rfl rfl (by kernel_rfl) rfl (by rfl) (fun W hW=>?ya4) ?_
    case ya4=>have h1:=(hW.cell (p:=⟨ga,oa+i,none⟩) hga).trans e0;go_simp<;>with_reducible rfl
    (try simp only[pUz]);refine yTk 5 (some 110) ?_;(try simp only[pUz]);refine yTk 6 (some 111) ?_;(try simp only[pUz]);refine zAa 7 (some 112) (v:=?va7) rfl rfl (by kernel_rfl) rfl (by rfl) (fun W hW=>?ya7) ?_
    case ya7=>have h1:=(hW.cell (p:=⟨gv,ov,none⟩) hgv).trans f0;have h2:=(hW.cell (p:=⟨gv,ov+0,none⟩) hgv).trans f0;go_simp<;>with_reducible rfl
    (try simp only[pUz]);refine zAb 8 rfl (by kernel_rfl) (fun K hK=>?_);go_simp;refine HW.out.mono ?_;rintro e w5 hp;obtain rfl:=hp.yes s Hs.out;have hb5:=hp.below;refine hK.out _ _ hb5 ?_;have HB5:=hTz HBd hb5;have HO5:=hide (zAd HOd.out hb5);rw[hSS];clear hK K hb5 hp HBd HOd HW;(try simp only[pUz]);refine yTk 9 (some 104) ?_;(try simp only[pUz]);refine yTk 10 (some 114) ?_;(try simp only[pUz]);refine yTk 11 (some 115) ?_;(try simp only[pUz]);refine yTk 12 (some 16) ?_;(try simp only[pUz]);refine yTk 13 (some 17) ?_;(try simp only[pUz]);refine zAi (by kernel_rfl) ?_ _;have hone:=litS w5 SS;have hH:=Has.own hone;have hor4:=HO5.out.alloc (.cells #[.string SS] 9);have hbr4:=HB5.out.alloc HB5.out.size (.cells #[.string SS] 9);have hs4:w.heap.size<=_:=Nat.le_trans Hw1.out hbr4.size;have h1c:∀u∈[Value.string SS],u.oneCell'=true:=by simp[Value.oneCell']
    clear hone HO5 HB5 e0 f0 hgv hga hSS;go_wp2_with (at_builtin;go_must (refine appE _ 39 9 _ 1 16 Tryz.underlying39 infoS rfl (by omega) (by omega) rfl (.tmp 118) (.tmp 120) rfl w.heap.size _ i _ rfl hor4 _ _ 1 1 [.string SS] rfl hH h1c hai hs4 ?_));intro v6 w6 hor6 hb6 _;have hbr6:Below w.heap.size w w6:=((Hb1.out.trans (hbr4.mono Hw1.out))).trans hb6;rw[<-Hstep.out] at hor6;clear hor4 hbr4 hs4 hH hb6 h1c;go_wp2
    go_roundg r
    case measure=>omega
    case rel=>exact⟨i+1,by omega,by go_num,hor6,Hall.out,hbr6⟩
   ·have Hs:=hide hs;clear hs htk hall hvm;go_upto_region 40 with fail;refine zAv (by kernel_rfl) ?_;have hdr:Below wr.heap.size wr wr.drew:=(Below.refl _ _).drew;have hga:ga<wr.drew.heap.size:=Nat.lt_of_lt_of_le Hg.out.1 hbr.size;have hgv:gv<wr.drew.heap.size:=Nat.lt_of_lt_of_le Hg.out.2 hbr.size;have e0:=(hdr.cell (p:=⟨ga,oa+i,none⟩) (Nat.lt_of_lt_of_le Hg.out.1 hbr.size)).trans y0;have f0:=(hdr.cell (p:=⟨gv,ov,none⟩) (Nat.lt_of_lt_of_le Hg.out.2 hbr.size)).trans ((hbr.cell (p:=⟨gv,ov,none⟩) Hg.out.2).trans Hf.out);have HBd:=hide (hbr.trans (hdr.mono hbr.size));have HOd:=hide (zAd hor hdr);have HW:=hide (zEb t v u 4 Hx.out (by omega) (Hok.out v Hvm.out) Hu.out wr.drew (HT.out.below HBd.out).tt);obtain⟨VN,hVN⟩:∃S,txt v=S:=⟨_,rfl⟩;rw[hVN] at e0 HW;rw[HUN.out] at HW;clear hdr y0 hbr hor hVN;generalize wr.drew=wd at *;refine yTk 0 (some 105) ?_;(try simp only[pUz]);refine yTk 1 (some 106) ?_;(try simp only[pUz]);refine yTk 2 (some 107) ?_;(try simp only[pUz]);refine yTk 3 (some 108) ?_;(try simp only[pUz]);refine zAa 4 (some 109) (v:=?vb4) rfl rfl (by kernel_rfl) rfl (by rfl) (fun W hW=>?yb4) ?_
    case yb4=>have h1:=(hW.cell (p:=⟨ga,oa+i,none⟩) hga).trans e0;go_simp<;>with_reducible rfl
    (try simp only[pUz]);refine yTk 5 (some 110) ?_;(try simp only[pUz]);refine yTk 6 (some 111) ?_;(try simp only[pUz]);refine zAa 7 (some 112) (v:=?vb7) rfl rfl (by kernel_rfl) rfl (by rfl) (fun W hW=>?yb7) ?_
    case yb7=>have h1:=(hW.cell (p:=⟨gv,ov,none⟩) hgv).trans f0;have h2:=(hW.cell (p:=⟨gv,ov+0,none⟩) hgv).trans f0;go_simp<;>with_reducible rfl
    (try simp only[pUz]);refine zAb 8 rfl (by kernel_rfl) (fun K hK=>?_);go_simp;refine HW.out.mono ?_;rintro e w5 hp;obtain⟨z,rfl⟩:=hp.no Hs.out;have hb5:=hp.below;refine hK.out _ _ hb5 ?_;have HB5:=hide ((Hb1.out.trans ((HBd.out.trans (hb5.mono HBd.out.size)).mono Hw1.out)));clear hK K hb5 hp HBd HOd HW e0 f0 hgv hga;(try simp only[pUz]);refine yTk 9 (some 104) ?_;(try simp only[pUz]);refine yTk 10 (some 114) ?_;(try simp only[pUz]);refine yTk 11 (some 115) ?_;(try simp only[pUz]);refine yTk 12 (some 16) ?_;(try simp only[pUz]);refine yTk 13 (some 17) ?_;(try simp only[pUz]);refine zAi (by kernel_rfl) ?_ _;go_wp2;go_ret2;exact hide (.inl ⟨⟨v,Hvm.out,Hs.out⟩,zA0 rfl HB5.out⟩)
noncomputable def changeV (t:List UInt8) (x op:Int) (l vs:List (List UInt8)):List (List UInt8) × Int:=
 if op=0 then addV t l vs else if op=1 then removeV t l vs else if op=2 then replaceV t vs else incV t x l vs
theorem zTk {t v:List UInt8}:∀(l:List (List UInt8)),woV t v l true=(l,true)
 | []=>by unfold woV;rfl
 | x::r=>by
  unfold woV;rw[if_neg (by simp),zTk r]
theorem zSy {t v:List UInt8} (hv:(valV t v).2=0):∀{l:List (List UInt8)},(∀x∈l,(valV t x).2=0)->(l.Pairwise fun a b=>(valV t a).1≠(valV t b).1)->
  (woV t v l false).1=dropV t l (valV t v).1/\((woV t v l false).2=true↔∃x∈l,(valV t x).1=(valV t v).1)
 | [],_,_=>by unfold woV dropV;simp
 | x::r,hok,hp=>by
  obtain⟨h1,h2⟩:=List.pairwise_cons.1 hp;have hx:=hok x (by simp);unfold woV;by_cases e:(valV t x).1=(valV t v).1
  ·rw [if_pos ⟨rfl,hv,hx,e⟩,zTk];refine⟨?_,by simp[e]⟩;unfold dropV;rw[List.filter_cons_of_neg (by simpa using e),List.filter_eq_self.2 fun y hy=>by
    simp only[decide_eq_true_eq]
    intro q
    exact h1 y hy (e.trans q.symm)]
  ·rw [if_neg (fun q=>e q.2.2.2)];obtain⟨i1,i2⟩:=zSy hv (fun y hy=>hok y (by simp[hy])) h2;refine⟨?_,?_⟩
   ·simp only;rw[i1];unfold dropV;rw[List.filter_cons_of_pos (by simpa using e)]
   ·simp only;rw[i2];constructor
    ·rintro ⟨y,hy,q⟩;exact⟨y,by simp[hy],q⟩
    ·rintro ⟨y,hy,q⟩;rcases List.mem_cons.1 hy with rfl | hy
     ·exact absurd q e
     ·exact ⟨y,hy,q⟩
theorem zKm {t:List UInt8} (ht:(typ t).1=t) (hne:t≠[]):∀{vs:List (List UInt8)} {L:List EA},OkE L->(∀v∈vs,(valV t v).2=0)->
  (dropsL t L vs).2=(dropsV t (pickE L t) vs).2/\((dropsL t L vs).2=0->(dropsL t L vs).1=setE L t (dropsV t (pickE L t) vs).1)
 | [],L,h,_=>by unfold dropsL dropsV;exact⟨rfl,fun _=>(zJx h.rf t).symm⟩
 | v::vs,L,h,hok=>by
  have hp:=h.pick t;obtain⟨w1,w2⟩:=zSy (hok v (by simp)) hp.1 ((zBz hp.1).1 hp.2);unfold dropsL dropsV;by_cases hx:∃x∈pickE L t,(valV t x).1=(valV t v).1
  ·rw [if_pos hx,if_neg (by rw[w2.2 hx];simp),w1];have ih:=zKm ht hne (vs:=vs) (zTi (n:=(valV t v).1) h ht hne) (fun u hu=>hok u (by simp[hu]));rw[zA5,if_pos rfl] at ih;exact⟨ih.1,fun q=>by rw[ih.2 q,zFy h.rf]⟩
  ·have hf:(woV t v (pickE L t) false).2=false:=by
    cases hb:(woV t v (pickE L t) false).2 with
    | false=>rfl
    | true=>exact absurd (w2.1 hb) hx
   rw[if_neg hx,if_pos hf];exact⟨rfl,fun q=>by simp at q⟩
theorem zQh {L:List EA} {op:Int} {a:EA} (h:OkE L) (h0:(typ a.1).2≠0) (hop:¬(op<0\/3<op)) (hall:∀v∈a.2,(valV (typ a.1).1 v).2=0):
  (changeL L op a).2=(changeV (typ a.1).1 (typ a.1).2 op (pickE L (typ a.1).1) a.2).2/\
  ((changeL L op a).2=0->(changeL L op a).1=setE L (typ a.1).1 (changeV (typ a.1).1 (typ a.1).2 op (pickE L (typ a.1).1) a.2).1):=by
 have hty:(typ (typ a.1).1).1=(typ a.1).1:=by rw[(zCl h0).1]
 have hne:=(zCl h0).2;unfold changeL changeV;rw[if_neg h0,if_neg hop,if_neg (fun q=>q hall)];obtain⟨t,ht⟩:∃t,(typ a.1).1=t:=⟨_,rfl⟩;rw[ht] at hty hne hall ⊢;have hp:=h.pick t;by_cases e0:op=0
 ·rw [if_pos e0,if_pos e0];unfold addL addV;by_cases hv:a.2=[]
  ·rw [if_pos hv,if_pos hv];exact⟨rfl,fun q=>by simp at q⟩
  ·rw [if_neg hv,if_neg hv];obtain⟨e1,e2⟩:=zB9 (t:=t) a.2 L h.rf;by_cases hg:(gatherL L t a.2).2=0
   ·rw [if_pos hg];exact⟨e1,e2⟩
   ·rw [if_neg hg];have hg2:(gatherV t (pickE L t) a.2).2≠0:=by rw[<-e1];exact hg
    rw[zFr hall hg2];exact⟨rfl,fun q=>by simp at q⟩
 ·rw [if_neg e0,if_neg e0];by_cases e1:op=1
  ·rw [if_pos e1,if_pos e1];unfold removeL removeV;by_cases hpk:pickE L t=[]
   ·rw [if_pos hpk,if_pos hpk];exact⟨rfl,fun q=>by simp at q⟩
   ·rw [if_neg hpk,if_neg hpk];by_cases hv:a.2=[]
    ·rw [if_pos hv,if_pos hv];exact⟨rfl,fun _=>rfl⟩
    ·rw [if_neg hv,if_neg hv];exact zKm hty hne h hall
  ·rw [if_neg e1,if_neg e1];by_cases e2:op=2
   ·rw [if_pos e2,if_pos e2];unfold replaceL replaceV;obtain⟨g1,g2⟩:=zB9 (t:=t) a.2 (setE L t []) (h.rf.set t []);rw[zA5,if_pos rfl] at g1 g2;by_cases hal:AloneV t a.2
    ·have hga:=zB4 a.2 [] hall (by simpa using hal);rw[hga] at g1 g2;rw[if_pos hal,if_pos g1];refine⟨g1,fun _=>?_⟩;rw[g2 g1,zFy h.rf];rfl
    ·have hg:(gatherL (setE L t []) t a.2).2≠0:=by
      rw[g1];intro q;have:=zD3 a.2 [] (fun v hv=>by simp at hv) (zGt t) q;rw[this.2.2,List.nil_append] at this;exact hal this.2.1
     rw[if_neg hal,if_neg hg];exact⟨rfl,fun q=>by simp at q⟩
   ·rw [if_neg e2,if_neg e2];unfold incL incV;by_cases h1:¬((typ a.1).2=3\/(typ a.1).2=4)\/a.2.length≠1
    ·rw [if_pos h1,if_pos h1];exact⟨rfl,fun q=>by simp at q⟩
    ·rw [if_neg h1,if_neg h1];by_cases h2:pickE L t=[]
     ·rw [if_pos h2,if_pos h2];exact⟨rfl,fun q=>by simp at q⟩
     ·rw [if_neg h2,if_neg h2];by_cases h3:∃v∈pickE L t,¬∃s,RaiseR (typ a.1).2 v (a.2.headD []) s
      ·rw [if_pos h3,if_pos h3];exact⟨rfl,fun q=>by simp at q⟩
      ·rw [if_neg h3,if_neg h3];exact⟨rfl,fun _=>rfl⟩
theorem RChgPost.mono {R:List (List UInt8) × Int} {base b:Nat} {w w':World} {e:Ending} (h:RChgPost R b w e w') (hb:base<=b):RChgPost R base w e w':=by
 obtain⟨v,h1,h2,h3⟩:=h.out;exact⟨v,h1,zBm h2 hb,h3.mono hb⟩
theorem zMp (ty t:List UInt8) (x op:Int) (hx:(typ t).2=x) (hop:¬(op<0\/3<op)) (l vs:List (List UInt8)) (w:World) (base:Nat) (hbw:base<=w.heap.size) (V:Option Addr) (n cv:Nat) (hV:Has w base 1 V n (strs vs)) (hcn:n<=cv) (hcm:cv<=maxLen) (lv:Value) (hl:w.ownsRow base 9 1 lv l.length (strs l))
  (hok:∀v∈vs,(valV t v).2=0) (hlok:∀v∈l,(valV t v).2=0) (hlal:AloneV t l) (hsz:l.length+vs.length<=1000000) (ht:t.length<=1000000) (hvs:∀v∈vs,v.length<=1000000) (hls:∀v∈l,v.length<=1000000) (hT:∀w',Below base w w'->TM w'):
  Calls Tryz.prog 43 #[.agg #[.int .i64 op,.string (txt ty),.slice V n cv],.string (txt t),.int .i64 x,lv] w (RChgPost (changeV t x op l vs) base w):=by
 unfold changeV;by_cases e0:op=0
 ·subst e0;rw[if_pos rfl];exact zKt ty t x l vs w base hbw V n cv hV lv hl hok hsz ht hvs hls hT
 ·rw [if_neg e0];by_cases e1:op=1
  ·subst e1;rw[if_pos rfl];exact zL6 ty t x l vs w base hbw V n cv hV lv hl hsz ht hvs hls hT
  ·rw [if_neg e1];by_cases e2:op=2
   ·subst e2;rw[if_pos rfl];exact zLp ty t x l vs w base hbw V n cv hV lv hl hcn hcm hsz ht hvs hls hT
   ·rw [if_neg e2];obtain rfl:op=3:=by omega
    obtain⟨A,c,rfl,_,hA⟩:=zAh hl;have hn:n=vs.length:=hV.strs_n;unfold incV;by_cases h34:x=3\/x=4
    ·by_cases hn1:vs.length=1
     ·rw [if_neg (by simp[h34,hn1])];obtain⟨u,rfl⟩:=List.length_eq_one_iff.1 hn1;obtain rfl:n=1:=hn;obtain⟨q,hq⟩:∃q,([u]:List (List UInt8)).headD []=q:=⟨_,rfl⟩;rw[hq];obtain rfl:u=q:=hq;by_cases hl0:l=[]
      ·subst hl0;rw[if_pos rfl];rcases h34 with rfl | rfl
       ·exact (zH7 ty t w V cv A c).mono fun e w' h=>h.mono hbw
       ·exact (zH1 ty t w V cv A c).mono fun e w' h=>h.mono hbw
      ·rw [if_neg hl0];have hTw:=hT w (Below.refl _ _);have hVw:=hV.upto hbw;have hu:=hok u (by simp);have fin:Calls Tryz.prog 43 #[.agg #[.int .i64 3,.string (txt ty),.slice V 1 cv],.string (txt t),.int .i64 x,.slice A l.length c] w fun e w'=>Hid (
   ((∃v∈l,¬∃s,RaiseR x v u s)/\RChgPost ([],19) w.heap.size w e w')\/((¬∃v∈l,¬∃s,RaiseR x v u s)/\RChgPost (l.map (fun v=>sumV x v u),0) w.heap.size w e w')):=by
        rcases h34 with rfl | rfl
        ·exact zKg ty t u hx l w V cv hVw A l.length c hA hu hlok hlal hl0 (by omega) ht hTw
        ·exact zJe ty t u hx l w V cv hVw A l.length c hA hu hlok hlal hl0 (by omega) ht hTw
       refine fin.mono fun e w' hh=>?_
       rcases hh.out with⟨h1,h2⟩ | ⟨h1,h2⟩
       ·rw [if_pos h1];exact h2.mono hbw
       ·rw [if_neg h1];exact h2.mono hbw
     ·rw [if_pos (.inr hn1)];have hn2:n≠1:=by omega
      rcases h34 with rfl | rfl
      ·exact (zJz ty t w V n cv _ hn2).mono fun e w' h=>h.mono hbw
      ·exact (zJl ty t w V n cv _ hn2).mono fun e w' h=>h.mono hbw
    ·rw [if_pos (.inl h34)];exact (zLx ty t x w V n cv _ h34).mono fun e w' h=>h.mono hbw
end Go.Proofs.YtadlmhclpaifoaaGreatDoor
