/- Several texts in one: DChange, DModify, DModMath, DUndo. By an AI agent. -/
import Derived.Test.YtadlmhclpaifoaaGreatDoorDZ
import Derived.Test.YtadlmhclpaifoaaGreatDoorEX
set_option linter.unusedSimpArgs false
set_option linter.unusedVariables false
set_option maxRecDepth 100000
set_option maxHeartbeats 64000000
namespace Go.Proofs.YtadlmhclpaifoaaGreatDoor
open Go Go.RowKit Go.Maps
structure BoxC (w:World) (q:Nat) (op:Int) (a:ByteArray) (V:Option Addr) (n c:Nat):Prop where
 lt:q<w.heap.size
 c0:w.cell? ⟨q,0,none⟩=some (.int .i64 op)
 c1:w.cell? ⟨q,1,none⟩=some (.string a)
 c2:w.cell? ⟨q,2,none⟩=some (.slice V n c)
theorem BoxC.new (w:World) (op:Int) (a:ByteArray) (V:Option Addr) (n c:Nat) (t:TypeId):BoxC (w.alloc (.cells #[.int .i64 op,.string a,.slice V n c] t)) w.heap.size op a V n c:=by
 refine⟨by simp,?_,?_,?_⟩<;>(rw[World.cell?_alloc_at (hn:=by simp)];rfl)
theorem BoxC.grow {w w':World} {q:Nat} {op:Int} {a:ByteArray} {V:Option Addr} {n c:Nat} (h:BoxC w q op a V n c) (hb:Below w.heap.size w w'):BoxC w' q op a V n c:=
 ⟨Nat.lt_of_lt_of_le h.lt hb.size,(hb.cell (p:=⟨q,0,none⟩) h.lt).trans h.c0,(hb.cell (p:=⟨q,1,none⟩) h.lt).trans h.c1,(hb.cell (p:=⟨q,2,none⟩) h.lt).trans h.c2⟩
open Classical in
noncomputable def changeL (L:List EA) (op:Int) (a:EA):List EA × Int:=
 if (typ a.1).2=0 then ([],17) else if op<0\/3<op then ([],2) else if ¬(∀v∈a.2,(valV (typ a.1).1 v).2=0) then ([],21)
 else if op=0 then addL L (typ a.1).1 a.2 else if op=1 then removeL L (typ a.1).1 a.2 else if op=2 then replaceL L (typ a.1).1 a.2
 else incL L (typ a.1).1 (typ a.1).2 a.2
structure ChgPost (w:World) (B d k:Nat) (G:List EA) (g:Int) (e:Ending) (w':World):Prop where
 code:e=.returned (.int .i64 g)
 below:Below B w w'
 kept:KeptC d w w'
 draft:g=0->∃j,j<=k/\Draft w' B d j G
theorem zQp {B d nx:Nat} {L:List EA} (w:World) (h:Draft w B d nx L) (hT:TM w) (op:Int) (a:EA) (V:Option Addr) (n c:Nat) (hV:Has w w.heap.size 1 V n (strs a.2)) (ha:a.1.length<=1048576) (hvs:∀v∈a.2,v.length<=1000000) (hn1:a.2.length<=1000000) (hnx:nx+a.2.length<=1000000000) (h0:(typ a.1).2=0):
  Calls Tryz.prog 41 #[.pointer (some ⟨d,0,none⟩),.agg #[.int .i64 op,.string (txt a.1),.slice V n c]] w (ChgPost w B d (nx+a.2.length) [] 17):=by
 have hB:B<=w.heap.size:=by obtain⟨bt,T,hM,_⟩:=h.out;exact Nat.le_trans hM.newd (Nat.le_of_lt hM.ltd)
 have hb1:=below1 w (.cells #[.int .i64 op,.string (txt a.1),.slice V n c] 43);have hX:=BoxC.new w op (txt a.1) V n c 43;have hTy:=fun w hT=>zAx (txt a.1) w hT
 simp only[zAc] at hTy;have x0:=hX.c0;have x1:=hX.c1;have HTy:=hide (hTy _ (hT.below hb1).tt.types);have HX:=hide hX;have HB:=hide hb1;have HBw:=hide hB;have HD:=hide (h.grow hb1);have HT:=hide hT;clear hTy hX hb1 h hT hV hvs hB ha;rw[h0] at HTy;generalize txt (typ a.1).1=TN at *;generalize txt a.1=S at *;go_enter Tryz.func41,Tryz.ntmps41;go_wp2_with (go_at_call 55;fail);refine HTy.out.mono ?_;rintro e w2 ⟨rfl,hb2⟩;have HB2:=hTz HB hb2;clear hb2 HB HTy x0 x1;go_wp2;go_ret;exact⟨rfl,HB2.out.mono HBw.out,.below HB2.out,fun q=>absurd q (by decide)⟩
theorem zQa {B d nx:Nat} {L:List EA} (w:World) (h:Draft w B d nx L) (hT:TM w) (op:Int) (a:EA) (V:Option Addr) (n c:Nat) (hV:Has w w.heap.size 1 V n (strs a.2)) (ha:a.1.length<=1048576) (hvs:∀v∈a.2,v.length<=1000000) (hn1:a.2.length<=1000000) (hnx:nx+a.2.length<=1000000000) (h0:(typ a.1).2≠0) (hlo:op<0):
  Calls Tryz.prog 41 #[.pointer (some ⟨d,0,none⟩),.agg #[.int .i64 op,.string (txt a.1),.slice V n c]] w (ChgPost w B d (nx+a.2.length) [] 2):=by
 have hB:B<=w.heap.size:=by obtain⟨bt,T,hM,_⟩:=h.out;exact Nat.le_trans hM.newd (Nat.le_of_lt hM.ltd)
 have hb1:=below1 w (.cells #[.int .i64 op,.string (txt a.1),.slice V n c] 43);have hX:=BoxC.new w op (txt a.1) V n c 43;have hTy:=fun w hT=>zAx (txt a.1) w hT
 simp only[zAc] at hTy;have x0:=hX.c0;have x1:=hX.c1;have HTy:=hide (hTy _ (hT.below hb1).tt.types);have HX:=hide hX;have HB:=hide hb1;have HBw:=hide hB;have HD:=hide (h.grow hb1);have HT:=hide hT;have q0:((typ a.1).2==0)=false:=beq_false_of_ne h0;clear hTy hX hb1 h hT hV hvs hB ha h0;generalize (typ a.1).2=ty at *;generalize txt (typ a.1).1=TN at *;generalize txt a.1=S at *;go_enter Tryz.func41,Tryz.ntmps41;go_wp2_with (go_at_call 55;fail);refine HTy.out.mono ?_;rintro e w2 ⟨rfl,hb2⟩;have y0:=(HX.out.grow hb2).c0;have HB2:=hTz HB hb2;clear hb2 HB HTy x0 x1;go_wp2;go_ret;exact⟨rfl,HB2.out.mono HBw.out,.below HB2.out,fun q=>absurd q (by decide)⟩
theorem zQs {B d nx:Nat} {L:List EA} (w:World) (h:Draft w B d nx L) (hT:TM w) (op:Int) (a:EA) (V:Option Addr) (n c:Nat) (hV:Has w w.heap.size 1 V n (strs a.2)) (ha:a.1.length<=1048576) (hvs:∀v∈a.2,v.length<=1000000) (hn1:a.2.length<=1000000) (hnx:nx+a.2.length<=1000000000) (h0:(typ a.1).2≠0) (hlo:¬op<0) (hhi:3<op):
  Calls Tryz.prog 41 #[.pointer (some ⟨d,0,none⟩),.agg #[.int .i64 op,.string (txt a.1),.slice V n c]] w (ChgPost w B d (nx+a.2.length) [] 2):=by
 have hB:B<=w.heap.size:=by obtain⟨bt,T,hM,_⟩:=h.out;exact Nat.le_trans hM.newd (Nat.le_of_lt hM.ltd)
 have hb1:=below1 w (.cells #[.int .i64 op,.string (txt a.1),.slice V n c] 43);have hX:=BoxC.new w op (txt a.1) V n c 43;have hTy:=fun w hT=>zAx (txt a.1) w hT
 simp only[zAc] at hTy;have x0:=hX.c0;have x1:=hX.c1;have HTy:=hide (hTy _ (hT.below hb1).tt.types);have HX:=hide hX;have HB:=hide hb1;have HBw:=hide hB;have HD:=hide (h.grow hb1);have HT:=hide hT;have q0:((typ a.1).2==0)=false:=beq_false_of_ne h0;clear hTy hX hb1 h hT hV hvs hB ha h0;generalize (typ a.1).2=ty at *;generalize txt (typ a.1).1=TN at *;generalize txt a.1=S at *;go_enter Tryz.func41,Tryz.ntmps41;go_wp2_with (go_at_call 55;fail);refine HTy.out.mono ?_;rintro e w2 ⟨rfl,hb2⟩;have y0:=(HX.out.grow hb2).c0;have HB2:=hTz HB hb2;clear hb2 HB HTy x0 x1;go_wp2;go_ret;exact⟨rfl,HB2.out.mono HBw.out,.below HB2.out,fun q=>absurd q (by decide)⟩
theorem zQ2 {B d nx:Nat} {L:List EA} (w:World) (h:Draft w B d nx L) (hT:TM w) (op:Int) (a:EA) (V:Option Addr) (n c:Nat) (hV:Has w w.heap.size 1 V n (strs a.2)) (ha:a.1.length<=1048576) (hvs:∀v∈a.2,v.length<=1000000) (hn1:a.2.length<=1000000) (hnx:nx+a.2.length<=1000000000) (h0:(typ a.1).2≠0) (hlo:¬op<0) (hhi:¬3<op) (hall:¬(∀v∈a.2,(valV (typ a.1).1 v).2=0)):
  Calls Tryz.prog 41 #[.pointer (some ⟨d,0,none⟩),.agg #[.int .i64 op,.string (txt a.1),.slice V n c]] w (ChgPost w B d (nx+a.2.length) [] 21):=by
 have hB:B<=w.heap.size:=by obtain⟨bt,T,hM,_⟩:=h.out;exact Nat.le_trans hM.newd (Nat.le_of_lt hM.ltd)
 have hb1:=below1 w (.cells #[.int .i64 op,.string (txt a.1),.slice V n c] 43);have hX:=BoxC.new w op (txt a.1) V n c 43;have hTy:=fun w hT=>zAx (txt a.1) w hT
 simp only[zAc] at hTy;have x0:=hX.c0;have x1:=hX.c1;have HTy:=hide (hTy _ (hT.below hb1).tt.types);have HX:=hide hX;have HB:=hide hb1;have HBw:=hide hB;have HD:=hide (h.grow hb1);have HT:=hide hT;have q0:((typ a.1).2==0)=false:=beq_false_of_ne h0;obtain⟨t,ht⟩:∃t,(typ a.1).1=t:=⟨_,rfl⟩;have htl:t.length<=1000000:=by rw[<-ht];have:=zBv a.1;omega
 have htx:(typ t).2=(typ a.1).2:=by rw[<-ht,(zCl h0).1]
 obtain⟨k,hk⟩:∃k,a.2.length=k:=⟨_,rfl⟩;have hnk:n=k:=by rw[<-hk];exact hV.strs_n
 subst hnk;rw[ht] at HTy hall;(try rw[ht]);have Hall:=hide hall;have Hk:=hide hk;have Htl:=hide htl;have Htx:=hide htx;have Hv:=hide hV;have Hvs:=hide hvs;have Hn1:=hide hn1;have Hnx:=hide hnx;clear hTy hX hb1 h hT hV hvs hB ha h0 ht htl htx hall hk hn1 hnx;generalize (typ a.1).2=ty at *;obtain⟨TN,hTN⟩:∃TN,txt t=TN:=⟨_,rfl⟩;have HTN:=hide hTN;rw[hTN] at HTy;clear hTN;generalize txt a.1=S at *;go_enter Tryz.func41,Tryz.ntmps41;go_wp2_with (go_at_call 55;fail);refine HTy.out.mono ?_;rintro e w2 ⟨rfl,hb2⟩;have y0:=(HX.out.grow hb2).c0;have y2:=(HX.out.grow hb2).c2;have HX2:=hide (HX.out.grow hb2);have HB2:=hTz HB hb2;have HD2:=hide (HD.out.grow hb2);have HF:=hide (zCd t a.2 w2 V n c ((Hv.out.below HB2.out).upto HB2.out.size) (HT.out.below HB2.out) Htl.out (by have:=Hn1.out;have:=Hk.out;omega) Hvs.out);rw[HTN.out] at HF;clear hb2 HB HTy HX HD x0 x1;go_wp2_with (go_at_call 56;fail);refine HF.out.mono ?_;rintro e w3 hp;obtain rfl:=hp.no Hall.out;have HB3:=hide (HB2.out.trans (hp.below.mono HB2.out.size));clear hp HF HB2 HD2 y0 y2;go_wp2;go_ret;exact⟨rfl,HB3.out.mono HBw.out,.below HB3.out,fun q=>absurd q (by decide)⟩
theorem zM6 {B d nx:Nat} {L:List EA} (w:World) (h:Draft w B d nx L) (hT:TM w) (op:Int) (a:EA) (V:Option Addr) (n c:Nat) (hV:Has w w.heap.size 1 V n (strs a.2)) (ha:a.1.length<=1048576) (hvs:∀v∈a.2,v.length<=1000000) (hn1:a.2.length<=1000000) (hnx:nx+a.2.length<=1000000000) (h0:(typ a.1).2≠0) (hall:∀v∈a.2,(valV (typ a.1).1 v).2=0):
  Calls Tryz.prog 41 #[.pointer (some ⟨d,0,none⟩),.agg #[.int .i64 0,.string (txt a.1),.slice V n c]] w (ChgPost w B d (nx+a.2.length) (addL L (typ a.1).1 a.2).1 (addL L (typ a.1).1 a.2).2):=by
 have hB:B<=w.heap.size:=by obtain⟨bt,T,hM,_⟩:=h.out;exact Nat.le_trans hM.newd (Nat.le_of_lt hM.ltd)
 have hb1:=below1 w (.cells #[.int .i64 0,.string (txt a.1),.slice V n c] 43);have hX:=BoxC.new w 0 (txt a.1) V n c 43;have hTy:=fun w hT=>zAx (txt a.1) w hT
 simp only[zAc] at hTy;have x0:=hX.c0;have x1:=hX.c1;have HTy:=hide (hTy _ (hT.below hb1).tt.types);have HX:=hide hX;have HB:=hide hb1;have HBw:=hide hB;have HD:=hide (h.grow hb1);have HT:=hide hT;have q0:((typ a.1).2==0)=false:=beq_false_of_ne h0;obtain⟨t,ht⟩:∃t,(typ a.1).1=t:=⟨_,rfl⟩;have htl:t.length<=1000000:=by rw[<-ht];have:=zBv a.1;omega
 have htx:(typ t).2=(typ a.1).2:=by rw[<-ht,(zCl h0).1]
 obtain⟨k,hk⟩:∃k,a.2.length=k:=⟨_,rfl⟩;have hnk:n=k:=by rw[<-hk];exact hV.strs_n
 subst hnk;rw[ht] at HTy hall;(try rw[ht]);have Hall:=hide hall;have Hk:=hide hk;have Htl:=hide htl;have Htx:=hide htx;have Hv:=hide hV;have Hvs:=hide hvs;have Hn1:=hide hn1;have Hnx:=hide hnx;clear hTy hX hb1 h hT hV hvs hB ha h0 ht htl htx hall hk hn1 hnx;generalize (typ a.1).2=ty at *;obtain⟨GG,hGG⟩:∃GG,addL L t a.2=GG:=⟨_,rfl⟩;rw[hGG];have HGG:=hide hGG;obtain⟨G,g⟩:=GG;clear hGG;obtain⟨TN,hTN⟩:∃TN,txt t=TN:=⟨_,rfl⟩;have HTN:=hide hTN;rw[hTN] at HTy;clear hTN;generalize txt a.1=S at *;go_enter Tryz.func41,Tryz.ntmps41;go_wp2_with (go_at_call 55;fail);refine HTy.out.mono ?_;rintro e w2 ⟨rfl,hb2⟩;have y0:=(HX.out.grow hb2).c0;have y2:=(HX.out.grow hb2).c2;have HX2:=hide (HX.out.grow hb2);have HB2:=hTz HB hb2;have HD2:=hide (HD.out.grow hb2);have HF:=hide (zCd t a.2 w2 V n c ((Hv.out.below HB2.out).upto HB2.out.size) (HT.out.below HB2.out) Htl.out (by have:=Hn1.out;have:=Hk.out;omega) Hvs.out);rw[HTN.out] at HF;clear hb2 HB HTy HX HD x0 x1;go_wp2_with (go_at_call 56;fail);refine HF.out.mono ?_;rintro e w3 hp;obtain⟨F,cF,rfl,hFh,hFn⟩:=hp.yes Hall.out;rw[Hk.out] at hFh ⊢;have y3:=(HX2.out.grow hp.below).c0;have HB3:=hide (HB2.out.trans (hp.below.mono HB2.out.size));have HD3:=hide (HD2.out.grow hp.below);have hFR:FormsR w3 d F n (formsP t a.2):=.of hFh fun ad q=>by
  obtain⟨bt,T,hM,_⟩:=HD2.out.out;have h1:=hM.ltd;have h2:=hFn ad q;omega
 have HP:=hide (dadd_any w3 HD3.out t a.2 F n cF hFR Hall.out Htl.out (by have:=Hnx.out;have:=Hk.out;omega));rw[HTN.out] at HP;rw[HGG.out] at HP;clear hp hFh hFn hFR HF HB2 HD2 y0 y2 HX2;go_wp2_with (go_at_call 69;fail);refine HP.out.mono ?_;rintro e w4 hp;obtain rfl:=hp.code;have Hp:=hide hp;clear hp HP y3;go_wp2;go_ret;exact⟨rfl,(HB3.out.mono HBw.out).trans Hp.out.below,(KeptC.below HB3.out).trans Hp.out.kept,fun q=>⟨_,by have:=Hk.out;omega,Hp.out.draft q⟩⟩
theorem zNm {B d nx:Nat} {L:List EA} (w:World) (h:Draft w B d nx L) (hT:TM w) (op:Int) (a:EA) (V:Option Addr) (n c:Nat) (hV:Has w w.heap.size 1 V n (strs a.2)) (ha:a.1.length<=1048576) (hvs:∀v∈a.2,v.length<=1000000) (hn1:a.2.length<=1000000) (hnx:nx+a.2.length<=1000000000) (h0:(typ a.1).2≠0) (hall:∀v∈a.2,(valV (typ a.1).1 v).2=0):
  Calls Tryz.prog 41 #[.pointer (some ⟨d,0,none⟩),.agg #[.int .i64 1,.string (txt a.1),.slice V n c]] w (ChgPost w B d (nx+a.2.length) (removeL L (typ a.1).1 a.2).1 (removeL L (typ a.1).1 a.2).2):=by
 have hB:B<=w.heap.size:=by obtain⟨bt,T,hM,_⟩:=h.out;exact Nat.le_trans hM.newd (Nat.le_of_lt hM.ltd)
 have hb1:=below1 w (.cells #[.int .i64 1,.string (txt a.1),.slice V n c] 43);have hX:=BoxC.new w 1 (txt a.1) V n c 43;have hTy:=fun w hT=>zAx (txt a.1) w hT
 simp only[zAc] at hTy;have x0:=hX.c0;have x1:=hX.c1;have HTy:=hide (hTy _ (hT.below hb1).tt.types);have HX:=hide hX;have HB:=hide hb1;have HBw:=hide hB;have HD:=hide (h.grow hb1);have HT:=hide hT;have q0:((typ a.1).2==0)=false:=beq_false_of_ne h0;obtain⟨t,ht⟩:∃t,(typ a.1).1=t:=⟨_,rfl⟩;have htl:t.length<=1000000:=by rw[<-ht];have:=zBv a.1;omega
 have htx:(typ t).2=(typ a.1).2:=by rw[<-ht,(zCl h0).1]
 obtain⟨k,hk⟩:∃k,a.2.length=k:=⟨_,rfl⟩;have hnk:n=k:=by rw[<-hk];exact hV.strs_n
 subst hnk;rw[ht] at HTy hall;(try rw[ht]);have Hall:=hide hall;have Hk:=hide hk;have Htl:=hide htl;have Htx:=hide htx;have Hv:=hide hV;have Hvs:=hide hvs;have Hn1:=hide hn1;have Hnx:=hide hnx;clear hTy hX hb1 h hT hV hvs hB ha h0 ht htl htx hall hk hn1 hnx;generalize (typ a.1).2=ty at *;obtain⟨GG,hGG⟩:∃GG,removeL L t a.2=GG:=⟨_,rfl⟩;rw[hGG];have HGG:=hide hGG;obtain⟨G,g⟩:=GG;clear hGG;obtain⟨TN,hTN⟩:∃TN,txt t=TN:=⟨_,rfl⟩;have HTN:=hide hTN;rw[hTN] at HTy;clear hTN;generalize txt a.1=S at *;go_enter Tryz.func41,Tryz.ntmps41;go_wp2_with (go_at_call 55;fail);refine HTy.out.mono ?_;rintro e w2 ⟨rfl,hb2⟩;have y0:=(HX.out.grow hb2).c0;have y2:=(HX.out.grow hb2).c2;have HX2:=hide (HX.out.grow hb2);have HB2:=hTz HB hb2;have HD2:=hide (HD.out.grow hb2);have HF:=hide (zCd t a.2 w2 V n c ((Hv.out.below HB2.out).upto HB2.out.size) (HT.out.below HB2.out) Htl.out (by have:=Hn1.out;have:=Hk.out;omega) Hvs.out);rw[HTN.out] at HF;clear hb2 HB HTy HX HD x0 x1;go_wp2_with (go_at_call 56;fail);refine HF.out.mono ?_;rintro e w3 hp;obtain⟨F,cF,rfl,hFh,hFn⟩:=hp.yes Hall.out;rw[Hk.out] at hFh ⊢;have y3:=(HX2.out.grow hp.below).c0;have HB3:=hide (HB2.out.trans (hp.below.mono HB2.out.size));have HD3:=hide (HD2.out.grow hp.below);have hFR:FormsR w3 d F n (formsP t a.2):=.of hFh fun ad q=>by
  obtain⟨bt,T,hM,_⟩:=HD2.out.out;have h1:=hM.ltd;have h2:=hFn ad q;omega
 have HP:=hide (zN5 w3 HD3.out t a.2 F n cF hFR Htl.out (by have:=Hnx.out;have:=Hk.out;omega));rw[HTN.out] at HP;rw[HGG.out] at HP;clear hp hFh hFn hFR HF HB2 HD2 y0 y2 HX2;go_wp2_with (go_at_call 70;fail);refine HP.out.mono ?_;rintro e w4 hp;obtain rfl:=hp.code;have Hp:=hide hp;clear hp HP y3;go_wp2;go_ret;exact⟨rfl,(HB3.out.mono HBw.out).trans Hp.out.below,(KeptC.below HB3.out).trans Hp.out.kept,fun q=>⟨_,by omega,Hp.out.draft q⟩⟩
theorem zNz {B d nx:Nat} {L:List EA} (w:World) (h:Draft w B d nx L) (hT:TM w) (op:Int) (a:EA) (V:Option Addr) (n c:Nat) (hV:Has w w.heap.size 1 V n (strs a.2)) (ha:a.1.length<=1048576) (hvs:∀v∈a.2,v.length<=1000000) (hn1:a.2.length<=1000000) (hnx:nx+a.2.length<=1000000000) (h0:(typ a.1).2≠0) (hall:∀v∈a.2,(valV (typ a.1).1 v).2=0):
  Calls Tryz.prog 41 #[.pointer (some ⟨d,0,none⟩),.agg #[.int .i64 2,.string (txt a.1),.slice V n c]] w (ChgPost w B d (nx+a.2.length) (replaceL L (typ a.1).1 a.2).1 (replaceL L (typ a.1).1 a.2).2):=by
 have hB:B<=w.heap.size:=by obtain⟨bt,T,hM,_⟩:=h.out;exact Nat.le_trans hM.newd (Nat.le_of_lt hM.ltd)
 have hb1:=below1 w (.cells #[.int .i64 2,.string (txt a.1),.slice V n c] 43);have hX:=BoxC.new w 2 (txt a.1) V n c 43;have hTy:=fun w hT=>zAx (txt a.1) w hT
 simp only[zAc] at hTy;have x0:=hX.c0;have x1:=hX.c1;have HTy:=hide (hTy _ (hT.below hb1).tt.types);have HX:=hide hX;have HB:=hide hb1;have HBw:=hide hB;have HD:=hide (h.grow hb1);have HT:=hide hT;have q0:((typ a.1).2==0)=false:=beq_false_of_ne h0;obtain⟨t,ht⟩:∃t,(typ a.1).1=t:=⟨_,rfl⟩;have htl:t.length<=1000000:=by rw[<-ht];have:=zBv a.1;omega
 have htx:(typ t).2=(typ a.1).2:=by rw[<-ht,(zCl h0).1]
 obtain⟨k,hk⟩:∃k,a.2.length=k:=⟨_,rfl⟩;have hnk:n=k:=by rw[<-hk];exact hV.strs_n
 subst hnk;rw[ht] at HTy hall;(try rw[ht]);have Hall:=hide hall;have Hk:=hide hk;have Htl:=hide htl;have Htx:=hide htx;have Hv:=hide hV;have Hvs:=hide hvs;have Hn1:=hide hn1;have Hnx:=hide hnx;clear hTy hX hb1 h hT hV hvs hB ha h0 ht htl htx hall hk hn1 hnx;generalize (typ a.1).2=ty at *;obtain⟨GG,hGG⟩:∃GG,replaceL L t a.2=GG:=⟨_,rfl⟩;rw[hGG];have HGG:=hide hGG;obtain⟨G,g⟩:=GG;clear hGG;obtain⟨TN,hTN⟩:∃TN,txt t=TN:=⟨_,rfl⟩;have HTN:=hide hTN;rw[hTN] at HTy;clear hTN;generalize txt a.1=S at *;go_enter Tryz.func41,Tryz.ntmps41;go_wp2_with (go_at_call 55;fail);refine HTy.out.mono ?_;rintro e w2 ⟨rfl,hb2⟩;have y0:=(HX.out.grow hb2).c0;have y2:=(HX.out.grow hb2).c2;have HX2:=hide (HX.out.grow hb2);have HB2:=hTz HB hb2;have HD2:=hide (HD.out.grow hb2);have HF:=hide (zCd t a.2 w2 V n c ((Hv.out.below HB2.out).upto HB2.out.size) (HT.out.below HB2.out) Htl.out (by have:=Hn1.out;have:=Hk.out;omega) Hvs.out);rw[HTN.out] at HF;clear hb2 HB HTy HX HD x0 x1;go_wp2_with (go_at_call 56;fail);refine HF.out.mono ?_;rintro e w3 hp;obtain⟨F,cF,rfl,hFh,hFn⟩:=hp.yes Hall.out;rw[Hk.out] at hFh ⊢;have y3:=(HX2.out.grow hp.below).c0;have HB3:=hide (HB2.out.trans (hp.below.mono HB2.out.size));have HD3:=hide (HD2.out.grow hp.below);have hFR:FormsR w3 d F n (formsP t a.2):=.of hFh fun ad q=>by
  obtain⟨bt,T,hM,_⟩:=HD2.out.out;have h1:=hM.ltd;have h2:=hFn ad q;omega
 have HP:=hide (zLw w3 HD3.out t a.2 F n cF hFR Hall.out Htl.out (by have:=Hnx.out;have:=Hk.out;omega));rw[HTN.out] at HP;rw[HGG.out] at HP;clear hp hFh hFn hFR HF HB2 HD2 y0 y2 HX2;go_wp2_with (go_at_call 71;fail);refine HP.out.mono ?_;rintro e w4 hp;obtain rfl:=hp.code;have Hp:=hide hp;clear hp HP y3;go_wp2;go_ret;exact⟨rfl,(HB3.out.mono HBw.out).trans Hp.out.below,(KeptC.below HB3.out).trans Hp.out.kept,fun q=>⟨_,by have:=Hk.out;omega,Hp.out.draft q⟩⟩
theorem zM8 {B d nx:Nat} {L:List EA} (w:World) (h:Draft w B d nx L) (hT:TM w) (op:Int) (a:EA) (V:Option Addr) (n c:Nat) (hV:Has w w.heap.size 1 V n (strs a.2)) (ha:a.1.length<=1048576) (hvs:∀v∈a.2,v.length<=1000000) (hn1:a.2.length<=1000000) (hnx:nx+a.2.length<=1000000000) (h0:(typ a.1).2≠0) (hall:∀v∈a.2,(valV (typ a.1).1 v).2=0):
  Calls Tryz.prog 41 #[.pointer (some ⟨d,0,none⟩),.agg #[.int .i64 3,.string (txt a.1),.slice V n c]] w (ChgPost w B d (nx+a.2.length) (incL L (typ a.1).1 (typ a.1).2 a.2).1 (incL L (typ a.1).1 (typ a.1).2 a.2).2):=by
 have hB:B<=w.heap.size:=by obtain⟨bt,T,hM,_⟩:=h.out;exact Nat.le_trans hM.newd (Nat.le_of_lt hM.ltd)
 have hb1:=below1 w (.cells #[.int .i64 3,.string (txt a.1),.slice V n c] 43);have hX:=BoxC.new w 3 (txt a.1) V n c 43;have hTy:=fun w hT=>zAx (txt a.1) w hT
 simp only[zAc] at hTy;have x0:=hX.c0;have x1:=hX.c1;have HTy:=hide (hTy _ (hT.below hb1).tt.types);have HX:=hide hX;have HB:=hide hb1;have HBw:=hide hB;have HD:=hide (h.grow hb1);have HT:=hide hT;have q0:((typ a.1).2==0)=false:=beq_false_of_ne h0;obtain⟨t,ht⟩:∃t,(typ a.1).1=t:=⟨_,rfl⟩;have htl:t.length<=1000000:=by rw[<-ht];have:=zBv a.1;omega
 have htx:(typ t).2=(typ a.1).2:=by rw[<-ht,(zCl h0).1]
 obtain⟨k,hk⟩:∃k,a.2.length=k:=⟨_,rfl⟩;have hnk:n=k:=by rw[<-hk];exact hV.strs_n
 subst hnk;rw[ht] at HTy hall;(try rw[ht]);have Hall:=hide hall;have Hk:=hide hk;have Htl:=hide htl;have Htx:=hide htx;have Hv:=hide hV;have Hvs:=hide hvs;have Hn1:=hide hn1;have Hnx:=hide hnx;clear hTy hX hb1 h hT hV hvs hB ha h0 ht htl htx hall hk hn1 hnx;generalize (typ a.1).2=ty at *;obtain⟨GG,hGG⟩:∃GG,incL L t ty a.2=GG:=⟨_,rfl⟩;rw[hGG];have HGG:=hide hGG;obtain⟨G,g⟩:=GG;clear hGG;obtain⟨TN,hTN⟩:∃TN,txt t=TN:=⟨_,rfl⟩;have HTN:=hide hTN;rw[hTN] at HTy;clear hTN;generalize txt a.1=S at *;go_enter Tryz.func41,Tryz.ntmps41;go_wp2_with (go_at_call 55;fail);refine HTy.out.mono ?_;rintro e w2 ⟨rfl,hb2⟩;have y0:=(HX.out.grow hb2).c0;have y2:=(HX.out.grow hb2).c2;have HX2:=hide (HX.out.grow hb2);have HB2:=hTz HB hb2;have HD2:=hide (HD.out.grow hb2);have HF:=hide (zCd t a.2 w2 V n c ((Hv.out.below HB2.out).upto HB2.out.size) (HT.out.below HB2.out) Htl.out (by have:=Hn1.out;have:=Hk.out;omega) Hvs.out);rw[HTN.out] at HF;clear hb2 HB HTy HX HD x0 x1;go_wp2_with (go_at_call 56;fail);refine HF.out.mono ?_;rintro e w3 hp;obtain⟨F,cF,rfl,hFh,hFn⟩:=hp.yes Hall.out;rw[Hk.out] at hFh ⊢;have y3:=(HX2.out.grow hp.below).c0;have HB3:=hide (HB2.out.trans (hp.below.mono HB2.out.size));have HD3:=hide (HD2.out.grow hp.below);have hFR:FormsR w3 d F n (formsP t a.2):=.of hFh fun ad q=>by
  obtain⟨bt,T,hM,_⟩:=HD2.out.out;have h1:=hM.ltd;have h2:=hFn ad q;omega
 have HP:=hide (dinc_any w3 HD3.out t a.2 ty Htx.out F n cF hFR Hall.out Htl.out (by have:=Hnx.out;omega) (HT.out.below HB3.out));rw[HTN.out] at HP;rw[HGG.out] at HP;clear hp hFh hFn hFR HF HB2 HD2 y0 y2 HX2;go_wp2_with (go_at_call 72;fail);refine HP.out.mono ?_;rintro e w4 hp;obtain rfl:=hp.code;have Hp:=hide hp;clear hp HP y3;go_wp2;go_ret;exact⟨rfl,(HB3.out.mono HBw.out).trans Hp.out.below,(KeptC.below HB3.out).trans Hp.out.kept,fun q=>⟨_,by omega,Hp.out.draft q⟩⟩
theorem zMs {B d nx:Nat} {L:List EA} (w:World) (h:Draft w B d nx L) (hT:TM w) (op:Int) (a:EA) (V:Option Addr) (n c:Nat) (hV:Has w w.heap.size 1 V n (strs a.2)) (ha:a.1.length<=1048576) (hvs:∀v∈a.2,v.length<=1000000) (hn1:a.2.length<=1000000) (hnx:nx+a.2.length<=1000000000):
  Calls Tryz.prog 41 #[.pointer (some ⟨d,0,none⟩),.agg #[.int .i64 op,.string (txt a.1),.slice V n c]] w (ChgPost w B d (nx+a.2.length) (changeL L op a).1 (changeL L op a).2):=by
 unfold changeL;by_cases h0:(typ a.1).2=0
 ·rw [if_pos h0];exact zQp w h hT op a V n c hV ha hvs hn1 hnx h0
 ·rw [if_neg h0];by_cases h1:op<0\/3<op
  ·rw [if_pos h1];by_cases h2:op<0
   ·exact zQa w h hT op a V n c hV ha hvs hn1 hnx h0 h2
   ·exact zQs w h hT op a V n c hV ha hvs hn1 hnx h0 h2 (by omega)
  ·rw [if_neg h1];by_cases hall:∀v∈a.2,(valV (typ a.1).1 v).2=0
   ·rw [if_neg (fun q=>q hall)];by_cases e0:op=0
    ·subst e0;rw[if_pos rfl];exact zM6 w h hT 0 a V n c hV ha hvs hn1 hnx h0 hall
    ·rw [if_neg e0];by_cases e1:op=1
     ·subst e1;rw[if_pos rfl];exact zNm w h hT 1 a V n c hV ha hvs hn1 hnx h0 hall
     ·rw [if_neg e1];by_cases e2:op=2
      ·subst e2;rw[if_pos rfl];exact zNz w h hT 2 a V n c hV ha hvs hn1 hnx h0 hall
      ·rw [if_neg e2];obtain rfl:op=3:=by omega
       exact zM8 w h hT 3 a V n c hV ha hvs hn1 hnx h0 hall
   ·rw [if_pos hall];exact zQ2 w h hT op a V n c hV ha hvs hn1 hnx h0 (by omega) (by omega) hall
abbrev CH:=Int × EA
structure CHs (w:World) (B:Nat) (xs:List Value) (L:List CH):Prop where
 len:xs.length=L.length*3
 each:∀(i:Nat) (a:CH),L[i]?=some a->∃A c,xs[i*3]?=some (.int .i64 a.1)/\xs[i*3+1]?=some (.string (txt a.2.1))/\xs[i*3+2]?=some (.slice A a.2.2.length c)/\a.2.2.length<=c/\c<=maxLen/\Has w B 1 A a.2.2.length (strs a.2.2)
theorem CHs.below {w w':World} {B:Nat} {xs:List Value} {L:List CH} (h:CHs w B xs L) (hb:Below B w w'):CHs w' B xs L:=
 ⟨h.len,fun i a ha=>by obtain⟨A,c,h1,h2,h3,k1,k2,h4⟩:=h.each i a ha;exact⟨A,c,h1,h2,h3,k1,k2,h4.below hb⟩⟩
theorem CHs.upto {w:World} {B B':Nat} {xs:List Value} {L:List CH} (h:CHs w B xs L) (hB:B<=B'):CHs w B' xs L:=
 ⟨h.len,fun i a ha=>by obtain⟨A,c,h1,h2,h3,k1,k2,h4⟩:=h.each i a ha;exact⟨A,c,h1,h2,h3,k1,k2,h4.upto hB⟩⟩
theorem CHs.grow {w w':World} {xs:List Value} {L:List CH} (h:CHs w w.heap.size xs L) (hb:Below w.heap.size w w'):CHs w' w'.heap.size xs L:=(h.below hb).upto hb.size
structure ChAt (w:World) (B g o:Nat) (a:CH) (V:Option Addr) (c:Nat):Prop where
 e0:w.cell? ⟨g,o,none⟩=some (.int .i64 a.1)
 e1:w.cell? ⟨g,o+1,none⟩=some (.string (txt a.2.1))
 e2:w.cell? ⟨g,o+2,none⟩=some (.slice V a.2.2.length c)
 cap:a.2.2.length<=c
 most:c<=maxLen
 has:Has w B 1 V a.2.2.length (strs a.2.2)
theorem ChAt.below {w w':World} {B g o:Nat} {a:CH} {V:Option Addr} {c:Nat} (h:ChAt w B g o a V c) (hg:g<B) (hb:Below B w w'):ChAt w' B g o a V c:=
 ⟨(hb.cell (p:=⟨g,o,none⟩) hg).trans h.e0,(hb.cell (p:=⟨g,o+1,none⟩) hg).trans h.e1,(hb.cell (p:=⟨g,o+2,none⟩) hg).trans h.e2,h.cap,h.most,h.has.below hb⟩
theorem Has.ch {w:World} {B n:Nat} {A:Option Addr} {xs:List Value} {L:List CH} (h:Has w B 3 A n xs) (hL:CHs w B xs L) (hn:L≠[]):
  ∃g o,A=some ⟨g,o,none⟩/\g<B/\∀(i:Nat) (a:CH),L[i]?=some a->∃V c,ChAt w B g (o+i*3) a V c:=by
 have hp:=List.length_pos_iff.2 hn;obtain⟨g,o,rfl,hg,hc⟩:=h.lies (by rw[hL.len];omega);refine⟨g,o,rfl,hg,fun i a ha=>?_⟩;obtain⟨V,c,h1,h2,h3,k1,k2,h4⟩:=hL.each i a ha;exact⟨V,c,hc _ _ h1,by have:=hc _ _ h2;rwa [<-Nat.add_assoc] at this,by have:=hc _ _ h3;rwa [<-Nat.add_assoc] at this,k1,k2,h4⟩
theorem Has.chs_n {w:World} {B n:Nat} {A:Option Addr} {xs:List Value} {L:List CH} (h:Has w B 3 A n xs) (hL:CHs w B xs L):n=L.length:=by
 have h1:=h.1;have h2:=hL.len;omega
theorem zB4 {t:List UInt8}:∀(vs l:List (List UInt8)),(∀v∈vs,(valV t v).2=0)->AloneV t (l++vs)->gatherV t l vs=(l++vs,0)
 | [],l,_,_=>by unfold gatherV;rw[List.append_nil]
 | v::vs,l,hok,hal=>by
  unfold gatherV;rw[if_neg (by simp[hok v (by simp)])];have h1:=hal l.length v (by simp);rw[List.take_left] at h1;rw[if_neg h1,zB4 vs (l++[v]) (fun u hu=>hok u (by simp[hu])) (by rw[List.append_assoc];exact hal),List.append_assoc];rfl
theorem zRo {L:List EA} {t:List UInt8} {vs:List (List UInt8)} (h:∀a∈L,a.1<t):insE L t vs=L++[(t,vs)]:=by
 induction L with
 | nil=>rfl
 | cons a L ih=>
  unfold insE;rw[if_pos (h a (by simp)),ih fun b hb=>h b (by simp[hb])];rfl
theorem zR8 {L:List EA} {t:List UInt8} (h:∀a∈L,a.1<t):pickE L t=[]:=by
 rcases zM1 L t with e | ⟨a,ha,e,_⟩
 ·exact e
 ·have:=h a ha;rw[e] at this;exact absurd this (List.lt_irrefl t)
theorem zG0 {L:List EA} (h:FormedL L):Rise L:=by
 have key:∀(L:List EA),(∀(i:Nat) (a b:EA),L[i]?=some a->L[i+1]?=some b->a.1<b.1)->Rise L:=by
  intro L
  induction L with
  | nil=>intro _;exact .nil
  | cons a L ih=>
   intro h;have h2:=ih fun i x y hx hy=>h (i+1) x y (by simpa using hx) (by simpa using hy)
   refine List.pairwise_cons.2 ⟨fun b hb=>?_,h2⟩;cases L with
   | nil=>simp at hb
   | cons c L=>
    have h1:a.1<c.1:=h 0 a c rfl rfl;rcases List.mem_cons.1 hb with rfl | hb
    ·exact h1
    ·exact List.lt_trans h1 ((List.pairwise_cons.1 h2).1 b hb)
 exact key L h.rise
theorem zIb:∀(S P:List EA),Rise (P++S)->(∀a∈S,FormedA a)->gatherE P S=(P++S,0)
 | [],P,_,_=>by unfold gatherE;rw[List.append_nil]
 | a::S,P,hr,hf=>by
  have ha:=hf a (by simp);have hlt:∀b∈P,b.1<a.1:=fun b hb=>(List.pairwise_append.1 hr).2.2 b hb a (by simp)
  unfold gatherE;have h0:(typ a.1).2≠0:=fun q=>ha.ne (by rw[<-ha.name];exact (zEe a.1).1 q)
  have h1:a.2≠[]:=fun q=>by have:=ha.lo;rw[q] at this;simp at this
  rw[if_neg h0,if_neg h1,ha.name,zR8 hlt];have h2:=zB4 a.2 [] ha.ok ha.alone;rw[List.nil_append] at h2;simp only[h2];rw[if_neg (by simp)];have h3:setE P a.1 a.2=P++[a]:=by
   unfold setE;rw[if_neg h1,zRo hlt]
  rw[h3,zIb S (P++[a]) (by rw[List.append_assoc];exact hr) fun b hb=>hf b (by simp[hb]),List.append_assoc];rfl
theorem zJ2 {L:List EA} (h:FormedL L):gatherA [] L=(L,0):=by
 rw[zFx L [] ⟨.nil,fun a ha=>by simp at ha⟩,zIb L [] (by simpa using zG0 h) h.each];rfl
noncomputable def changesL:List EA->List CH->List EA × Int
 | L,[]=>(L,0)
 | L,c::r=>if (changeL L c.1 c.2).2≠0 then ([],(changeL L c.1 c.2).2) else changesL (changeL L c.1 c.2).1 r
open Classical in
noncomputable def modifyE (nm:List UInt8) (L:List EA) (cs:List CH):List UInt8 × List EA × Int:=
 if ¬FormedE nm L then ([],[],1) else
 if (changesL L cs).2≠0 then ([],[],(changesL L cs).2) else
 if endE nm (changesL L cs).1 67≠0 then ([],[],endE nm (changesL L cs).1 67) else (nm,(changesL L cs).1,0)
def cntC (L:List CH):Nat:=(L.map fun a=>a.2.2.length).sum
theorem zKo {L:List CH} {i:Nat} {a:CH} (h:L[i]?=some a):cntC (L.take (i+1))=cntC (L.take i)+a.2.2.length:=by
 unfold cntC;rw[List.take_add_one,h];simp
theorem zJq (L:List CH) (i:Nat):cntC (L.take i)<=cntC L:=by
 have h:cntC L=cntC (L.take i)+cntC (L.drop i):=by unfold cntC;rw[<-List.sum_append,<-List.map_append,List.take_append_drop]
 omega
structure Two2 (w:World) (q:Nat) (nm:ByteArray) (A:Option Addr) (n c:Nat):Prop where
 b0:BoxE w q nm A n c
 b1:BoxE w (q+1) ⟨#[]⟩ none 0 0
 fz:∀i,w.frozen? ⟨q+1,i,none⟩=false
theorem Two2.grow {w w':World} {q:Nat} {nm:ByteArray} {A:Option Addr} {n c:Nat} (h:Two2 w q nm A n c) (hb:Below w.heap.size w w'):Two2 w' q nm A n c:=
 ⟨h.b0.grow hb,h.b1.grow hb,fun i=>(hb.frozen (p:=⟨q+1,i,none⟩) h.b1.lt).trans (h.fz i)⟩
theorem Two2.new (w:World) (nm:ByteArray) (A:Option Addr) (n c:Nat) (t:TypeId):Two2 ((w.alloc (.cells #[.string nm,.slice A n c] t)).alloc (.cells #[.string ⟨#[]⟩,.slice none 0 0] t)) w.heap.size nm A n c:=by
 have h1:=BoxE.new w nm A n c t;have h2:=BoxE.new (w.alloc (.cells #[.string nm,.slice A n c] t)) ⟨#[]⟩ none 0 0 t;have hs:(w.alloc (.cells #[.string nm,.slice A n c] t)).heap.size=w.heap.size+1:=by simp
 rw[hs] at h2;refine⟨h1.grow ((Below.refl _ _).alloc (Nat.le_refl _) _),h2,fun i=>?_⟩;rw[<-hs];exact World.frozen?_alloc_at _ _ _ _ rfl
theorem zM3 (nm:List UInt8) (L:List EA) (cs:List CH) (w:World) (A:Option Addr) (n c:Nat) (xs:List Value) (hA:Has w w.heap.size 2 A n xs) (hL:EAs w w.heap.size xs L) (hn:n<=1000000)
  (C:Option Addr) (m k:Nat) (ys:List Value) (hC:Has w w.heap.size 3 C m ys) (hCs:CHs w w.heap.size ys cs) (hm:m<=1000000)
  (hnm:nm.length<=1000000) (hts:∀a∈L,a.1.length<=1048576) (hvs:∀a∈L,a.2.length<=1000000/\∀u∈a.2,u.length<=1000000)
  (hct:∀a∈cs,a.2.1.length<=1048576) (hcv:∀a∈cs,a.2.2.length<=1000000/\∀u∈a.2.2,u.length<=1000000) (hcnt:cntE L+cntC cs<=1000000) (hT:TM w):
  Calls Tryz.prog 17 #[.agg #[.string (txt nm),.slice A n c],.slice C m k] w (MadePost (modifyE nm L cs).1 (modifyE nm L cs).2.1 (modifyE nm L cs).2.2 w):=by
 have hml:=hC.chs_n hCs;have hX:=Two2.new w (txt nm) A n c 26;have hb1:Below w.heap.size w ((w.alloc (.cells #[.string (txt nm),.slice A n c] 26)).alloc (.cells #[.string ⟨#[]⟩,.slice none 0 0] 26)):=((Below.refl _ w).alloc (Nat.le_refl _) _).alloc (by simp) _;obtain⟨w1,hw1⟩:∃w1,(w.alloc (.cells #[.string (txt nm),.slice A n c] 26)).alloc (.cells #[.string ⟨#[]⟩,.slice none 0 0] 26)=w1:=⟨_,rfl⟩;rw[hw1] at hX hb1;have HF:=hide (zDk nm L w1 A n c xs ((hA.below hb1).upto hb1.size) (hL.grow hb1) hn hnm hvs (hT.below hb1));have HX:=hide hX;have HB1:=hide hb1;have Hw1:=hide hw1;have HA:=hide hA;have HL:=hide hL;have HC:=hide hC;have HCs:=hide hCs;have HT:=hide hT;have Hml:=hide hml;have Hcnt:=hide hcnt;have Hts:=hide hts;have Hvs:=hide hvs;have Hct:=hide hct;have Hcv:=hide hcv;have Hnm:=hide hnm;have x0:=hX.b0.c0;have x1:=hX.b0.c1;have r0:=hX.b1.c0;have r1:=hX.b1.c1;have rf:=hX.fz;obtain⟨RM,hRM⟩:∃RM,modifyE nm L cs=RM:=⟨_,rfl⟩;rw[hRM];unfold modifyE at hRM;clear hA hL hC hCs hT hml hcnt hts hvs hct hcv hnm hX hb1 hw1;obtain⟨S,hS⟩:∃S,txt nm=S:=⟨_,rfl⟩;have HS:=hide hS;rw[hS] at HF HX Hw1 x0;rw[hS];clear hS;by_cases hf:FormedE nm L
 ·rw [if_neg (fun q=>q hf)] at hRM;have Hf:=hide hf;rw[zAn hf] at HF;clear hf;obtain⟨GG,hGG⟩:∃GG,changesL L cs=GG:=⟨_,rfl⟩;rw[hGG] at hRM;obtain⟨G,g⟩:=GG;have HG:=hide hGG;have Hmk:=hide hRM;have Hown:=hide (zJ2 Hf.out.loose.attrs);clear hRM hGG;go_enter Tryz.func17,Tryz.ntmps17;go_upto_region 1 with fail;rw[Hw1.out];obtain⟨q,hq⟩:∃q,w.heap.size=q:=⟨_,rfl⟩;rw[hq] at HX x0 x1 r0 r1 rf;(try rw[hq]);have Hq:=hide hq;clear hq;go_wp2_with (go_at_call 14;fail);refine HF.out.mono ?_;rintro e w2 ⟨rfl,hb2⟩;have HX2:=hide (HX.out.grow hb2);have HB2:=hTz HB1 hb2;clear hb2 HF x0 x1 r0 r1 rf HX;have z1:=HX2.out.b0.c1;have HD:=hide (zMw L L w2 A n c xs ((HA.out.below HB2.out).upto HB2.out.size) ((HL.out.below HB2.out).upto HB2.out.size) (HT.out.below HB2.out) hn Hts.out (fun a ha=>(Hvs.out a ha).2) (by have:=Hcnt.out;omega) Hown.out);go_wp2_with (go_at_call 27;fail);refine HD.out.mono ?_;rintro e w3 hpost;obtain⟨d,rfl,hD3,hb3⟩:=hpost.out;have HD3:=hide hD3;have HB3:=hide hb3;clear hpost hD3 hb3 HD z1 HA HL;go_wp2
  go_loopg [19] m (fun r s19 wx=>∃(i:Nat) (Li:List EA),i+r=m/\s19=.int .i64 (i:Int)/\Hid (changesL Li (cs.drop i)=(G,g))/\Hid (∃j,j<=cntE L+cntC (cs.take i)/\Draft wx w2.heap.size d j Li)/\Hid (Below w2.heap.size w2 wx))
  case atStart=>exact⟨0,L,by omega,rfl,hide (by rw[List.drop_zero];exact HG.out),hide ⟨_,Nat.le_add_right _ _,HD3.out⟩,HB3⟩
  case round=>
   obtain⟨i,Li,hig,rfl,hG,hD,hbr⟩:=hrel;clear HG HD3 HB3;cases gk with
   | zero=>
    obtain rfl:i=m:=by omega
    have hiz:¬((i:Int)<(i:Int)):=(by omega);have hGe:=hG.out;rw[List.drop_eq_nil_of_le (by rw[<-Hml.out];exact Nat.le_refl _)] at hGe;unfold changesL at hGe;obtain⟨rfl,rfl⟩:=Prod.mk.inj hGe;obtain⟨j,hj,hDj⟩:=hD.out;have hcn:j<=1000000:=by have h1:=zJq cs i;have h2:=Hcnt.out;omega
    have hHX:=HX2.out.grow hbr.out;have hcl:=zFh S (by rw[<-HS.out,zAg];have:=Hnm.out;omega) wr;have HEn:=hide (fun w (hb:Below wr.heap.size wr w)=>zS5 w (hDj.grow hb) nm Hf.out.loose.norm Hf.out.loose.ne 67 (by decide) ((HT.out.below HB2.out).below (hbr.out.trans (hb.mono hbr.out.size))) hcn);have z0:=hHX.b0.c0;have Hcl:=hide hcl;have HBr:=hide (HB2.out.trans (hbr.out.mono HB2.out.size));have HXr:=hide hHX;clear hGe hG hD hbr hDj hcn hHX hcl HX2 HB2 hj;rw[HS.out] at HEn;go_wp2_with (go_at_call 42;fail);refine Hcl.out.mono ?_;rintro e w4 ⟨rfl,hb4⟩;have HE:=hide (HEn.out w4 hb4);have HB4:=hTz HBr hb4;have HX4:=hide (HXr.out.grow hb4);clear hb4 Hcl HEn HBr HXr z0;have HE2:Hid (Calls Tryz.prog 29 #[.pointer (some ⟨d,0,none⟩),.string S,.int .i64 67] w4 (MadePost RM.1 RM.2.1 RM.2.2 w4)):=hide (HE.out.mono fun e w' hd=>by
     have hq:=Hmk.out
     rw[if_neg (by simp)] at hq
     by_cases h0:endE nm Li 67=0
     ·rw [if_neg (by simp[h0])] at hq
      rw[<-hq]
      exact hd.ok h0
     ·rw [if_pos h0] at hq
      rw[<-hq]
      exact hd.bad h0)
    clear HE;obtain⟨X1,hX1⟩:∃x,RM.1=x:=⟨_,rfl⟩;obtain⟨X2,hX2⟩:∃x,RM.2.1=x:=⟨_,rfl⟩;obtain⟨X3,hX3⟩:∃x,RM.2.2=x:=⟨_,rfl⟩;rw[hX1,hX2,hX3] at HE2;have HXX:=hide (And.intro hX1 (And.intro hX2 hX3));clear hX1 hX2 hX3 Hmk Hts Hvs Hct Hcv;go_wp2_with (go_at_call 29;fail);refine HE2.out.mono ?_;rintro e w7 hpost;obtain⟨A7,c7,zs,rfl,hc7,hm7,hH7,hE7,hb7⟩:=hpost.out;have z0:=(HX4.out.grow hb7).b1.c0;have z1:=(HX4.out.grow hb7).b1.c1;have zf:=(HX4.out.grow hb7).fz;obtain⟨kk,hkk⟩:∃kk,X2.length=kk:=⟨_,rfl⟩;have Hkk:=hide hkk;obtain⟨TX,hTX⟩:∃TX,txt X1=TX:=⟨_,rfl⟩;have HTX:=hide hTX;have HHE:=hide (And.intro hc7 (And.intro hm7 (And.intro hH7 (And.intro hE7 hb7))));have HB7:=hTz HB4 hb7;rw[hkk,hTX];have hqw:q+1<w4.heap.size:=HX4.out.b1.lt;clear hpost hc7 hm7 hH7 hE7 hb7 hkk hTX HE2;go_wp2
    (try simp only[Exit.inBlock,Exit.then])
    refine bodyPost_ret (v:=.tuple #[.agg #[.string TX,.slice A7 kk c7],.int .i64 X3]) ?_ rfl ?_
    ·rw [results_cell_tmp rfl];go_simp
    have far:∀(p:Addr),NewB w4.heap.size w7.heap.size p.block->((w7.setCell ⟨q+1,0,none⟩ (.string TX)).setCell ⟨q+1,1,none⟩ (.slice A7 kk c7)).cell? p=w7.cell? p:=fun p hp=>by
     have hne:q+1≠p.block:=(by have:=hp.1;omega);rw[World.cell?_setCell_far _ _ _ _ hne,World.cell?_setCell_far _ _ _ _ hne]
    have hszz:((w7.setCell ⟨q+1,0,none⟩ (.string TX)).setCell ⟨q+1,1,none⟩ (.slice A7 kk c7)).heap.size=w7.heap.size:=(by simp[World.setCell]);have hnew:∀b,NewB w4.heap.size w7.heap.size b->NewB w.heap.size ((w7.setCell ⟨q+1,0,none⟩ (.string TX)).setCell ⟨q+1,1,none⟩ (.slice A7 kk c7)).heap.size b:=fun b hb=>⟨Nat.le_trans HB4.out.size hb.1,by rw[hszz];exact hb.2⟩
    obtain⟨k1,k2,k3,k4,k5⟩:=HHE.out;rw[HXX.out.1,HXX.out.2.1,HXX.out.2.2];exact⟨A7,c7,zs,by rw[HTX.out,Hkk.out],k1,k2,k3.move far hnew,k4.move far hnew,(HB7.out.setCell (p:=⟨q+1,0,none⟩) (by rw[<-Hq.out];exact Nat.le_succ _) _).setCell (p:=⟨q+1,1,none⟩) (by rw[<-Hq.out];exact Nat.le_succ _) _⟩
   | succ r=>
    have hi:i<m:=(by omega);have hiz:(i:Int)<(m:Int):=(by omega);obtain⟨a,ha⟩:∃a,cs[i]?=some a:=⟨_,List.getElem?_eq_getElem (by rw[<-Hml.out];exact hi)⟩;have ham:=List.mem_of_getElem? ha;have hdrop:cs.drop i=a::cs.drop (i+1):=by obtain⟨h1,h2⟩:=List.getElem?_eq_some_iff.1 ha;rw[List.drop_eq_getElem_cons h1,h2]
    have hGi:=hG.out;rw[hdrop] at hGi;unfold changesL at hGi;obtain⟨gb,o,hCe,hgb,hat⟩:=HC.out.ch HCs.out (fun h=>by rw[h] at ha;simp at ha);obtain⟨V,cv,hat⟩:=hat i a ha;have hbw:=HB2.out.trans (hbr.out.mono HB2.out.size);have hat2:=hat.below hgb hbw;have e0:=hat2.e0;have e1:=hat2.e1;have e2:=hat2.e2;have HCe:=hide hCe;subst hCe;obtain⟨j,hj,hDj⟩:=hD.out;have hcn:=zKo ha;have hcle:=zJq cs (i+1);obtain⟨kv,hk⟩:∃kv,a.2.2.length=kv:=⟨_,rfl⟩;rw[hk] at e2 hcn;have hba:=below1 wr (.cells #[.int .i64 a.1,.string (txt a.2.1),.slice V kv cv] 43);have hXa:=BoxC.new wr a.1 (txt a.2.1) V kv cv 43;have u0:=hXa.c0;have u1:=hXa.c1;have u2:=hXa.c2;have hVh:=hat.has;rw[hk] at hVh;have hbwa:=hbw.trans (hba.mono hbw.size);have HCh:=hide (zMs _ (hDj.grow hba) (HT.out.below hbwa) a.1 a.2 V kv cv ((hVh.below hbwa).upto hbwa.size) (Hct.out a ham) (Hcv.out a ham).2 (Hcv.out a ham).1 (by have:=Hcnt.out;omega));have HBa:=hTz hbr hba;have Hj:Hid (j+a.2.2.length<=cntE L+cntC (cs.take (i+1))):=hide (by omega);have Hbnd:Hid (j+a.2.2.length<=1000000):=hide (by have:=Hcnt.out;omega);obtain⟨GC,hGC⟩:∃GC,changeL Li a.1 a.2=GC:=⟨_,rfl⟩;rw[hGC] at HCh hGi;obtain⟨Gc,gc⟩:=GC;simp only at hGi;obtain⟨op,hop⟩:∃op,a.1=op:=⟨_,rfl⟩;obtain⟨TA,hTA⟩:∃TA,txt a.2.1=TA:=⟨_,rfl⟩;rw[hop] at e0 u0 HCh HBa u1 u2;rw[hTA] at e1 u0 u1 u2 HCh HBa;clear hcn hcle hba hXa hVh hat hat2 ham ha hdrop hG hD hbr hbw hbwa hDj hj hk hGC hop hTA;by_cases hg0:gc=0
    ·subst hg0;rw[if_neg (by simp)] at hGi;have HGi:=hide hGi;clear hGi;go_wp2_with (go_at_call 41;fail);refine HCh.out.mono ?_;rintro e w5 hp;obtain rfl:=hp.code;have HD5:=hide (hp.draft rfl);have HB5:=hide (HBa.out.trans hp.below);clear hp HCh e0 e1 e2 u0 u1 u2 HBa;go_wp2
     go_roundg r
     case measure=>omega
     case rel=>exact⟨i+1,_,by omega,by go_num,HGi,hide (by obtain⟨j2,h1,h2⟩:=HD5.out;exact⟨j2,Nat.le_trans h1 Hj.out,h2⟩),HB5⟩
    ·have hgz:(gc !=0)=true:=by simpa using hg0
     rw[if_pos hg0] at hGi;obtain⟨rfl,rfl⟩:=Prod.mk.inj hGi;have hq:=Hmk.out;rw[if_pos hg0] at hq;subst hq;clear hGi;go_wp2_with (go_at_call 41;fail);refine HCh.out.mono ?_;rintro e w5 hp;obtain rfl:=hp.code;have HB5:=hide (HBa.out.trans hp.below);have HX5:=hide (HX2.out.grow HB5.out);have HBe:=hide (HB2.out.trans (HB5.out.mono HB2.out.size));clear hp HCh e0 e1 e2 u0 u1 u2 HBa;have z0:=HX5.out.b1.c0;have z1:=HX5.out.b1.c1;have zf:=HX5.out.fz;clear HX5;go_wp2
     (try simp only[Exit.inBlock,Exit.then])
     refine bodyPost_ret (v:=.tuple #[.agg #[.string ⟨#[]⟩,.slice none 0 0],.int .i64 gc]) ?_ rfl ?_
     ·rw [results_cell_tmp rfl];go_simp
     exact zCe rfl ((HBe.out.setCell (p:=⟨q+1,0,none⟩) (by rw[<-Hq.out];exact Nat.le_succ _) _).setCell (p:=⟨q+1,1,none⟩) (by rw[<-Hq.out];exact Nat.le_succ _) _)
 ·rw [if_pos hf] at hRM;subst hRM;rw[zAq hf] at HF;clear hf;go_enter Tryz.func17,Tryz.ntmps17;go_upto_region 1 with fail;rw[Hw1.out];obtain⟨q,hq⟩:∃q,w.heap.size=q:=⟨_,rfl⟩;rw[hq] at HX x0 x1 r0 r1 rf;(try rw[hq]);have Hq:=hide hq;clear hq;go_wp2_with (go_at_call 14;fail);refine HF.out.mono ?_;rintro e w2 ⟨rfl,hb2⟩;have HX2:=hide (HX.out.grow hb2);have HB2:=hTz HB1 hb2;clear hb2 HF x0 x1 r0 r1 rf HX;have z0:=HX2.out.b1.c0;have z1:=HX2.out.b1.c1;have zf:=HX2.out.fz;clear HX2;go_wp2
  (try simp only[Exit.inBlock,Exit.then])
  refine bodyPost_ret (v:=.tuple #[.agg #[.string ⟨#[]⟩,.slice none 0 0],.int .i64 1]) ?_ rfl ?_
  ·rw [results_cell_tmp rfl];go_simp
  exact zCe rfl ((HB2.out.setCell (p:=⟨q+1,0,none⟩) (by rw[<-Hq.out];exact Nat.le_succ _) _).setCell (p:=⟨q+1,1,none⟩) (by rw[<-Hq.out];exact Nat.le_succ _) _)
end Go.Proofs.YtadlmhclpaifoaaGreatDoor
namespace Go.Proofs.YtadlmhclpaifoaaGreatDoor
open Go Go.RowKit
theorem zBz {t:List UInt8} {L:List (List UInt8)} (h:∀v∈L,(valV t v).2=0):AloneV t L↔L.Pairwise fun a b=>(valV t a).1≠(valV t b).1:=by
 rw[zEv h,List.pairwise_iff_getElem];constructor
 ·intro q i j hi hj hij e;refine q j L[j] (List.getElem?_eq_getElem hj) ?_;rw[<-e];refine List.mem_map_of_mem (f:=fun u=>(valV t u).1) ?_;rw[List.mem_take_iff_getElem];exact⟨i,by omega,rfl⟩
 ·intro q i v hv hm;obtain⟨u,hu,e⟩:=List.mem_map.1 hm;obtain⟨j,hj,rfl⟩:=List.mem_take_iff_getElem.1 hu;obtain⟨hi,rfl⟩:=List.getElem?_eq_some_iff.1 hv;exact q j i (by omega) hi (by omega) e
theorem OkE.rf {L:List EA} (h:OkE L):RF L:=⟨h.rise,h.full⟩
theorem zIi {L:List EA} {t:List UInt8} {vs:List (List UInt8)} (h:OkE L) (ht:(typ t).1=t) (hne:t≠[]) (h0:(gatherL L t vs).2=0):OkE (gatherL L t vs).1/\(gatherL L t vs).1=setE L t (pickE L t++vs):=by
 obtain⟨e1,e2⟩:=zB9 (t:=t) vs L h.rf;have hp:=h.pick t;have hg:=zD3 vs _ hp.1 hp.2 (by rw[<-e1];exact h0);rw[e2 h0];exact⟨h.set ht hne hg.1 hg.2.1,by rw[hg.2.2]⟩
theorem zTi {L:List EA} {t n:List UInt8} (h:OkE L) (ht:(typ t).1=t) (hne:t≠[]):OkE (setE L t (dropV t (pickE L t) n)):=by
 have hp:=h.pick t;have hok:∀v∈dropV t (pickE L t) n,(valV t v).2=0:=fun v hv=>hp.1 v (List.mem_filter.1 hv).1
 refine h.set ht hne hok ?_;rw[zBz hok];exact ((zBz hp.1).1 hp.2).filter _
theorem cut_ok {L:List EA} {t:List UInt8} (h:OkE L) (ht:(typ t).1=t) (hne:t≠[]):OkE (setE L t []):=h.set ht hne (fun v hv=>by simp at hv) (zGt t)
theorem zOn {t:List UInt8} (ht:(typ t).1=t) (hne:t≠[]):∀{vs:List (List UInt8)} {L:List EA},OkE L->(dropsL t L vs).2=0->OkE (dropsL t L vs).1
 | [],L,h,_=>by unfold dropsL;exact h
 | v::vs,L,h,h0=>by
  unfold dropsL at h0 ⊢;by_cases hx:∃x∈pickE L t,(valV t x).1=(valV t v).1
  ·rw [if_pos hx] at h0 ⊢;exact zOn ht hne (zTi h ht hne) h0
  ·rw [if_neg hx] at h0;simp at h0
theorem zK5 {L:List EA} {op:Int} {a:EA} (h:OkE L) (h0:(changeL L op a).2=0):OkE (changeL L op a).1:=by
 unfold changeL at h0 ⊢;split at h0
 ·simp at h0
 ·rename_i ht0;rw[if_neg ht0];have hty:(typ (typ a.1).1).1=(typ a.1).1:=by rw[(zCl ht0).1]
  have hne:=(zCl ht0).2;obtain⟨t,ht⟩:∃t,(typ a.1).1=t:=⟨_,rfl⟩;have htx:(typ t).2=(typ a.1).2:=by rw[<-ht,(zCl ht0).1]
  rw[ht] at hty hne h0 ⊢;split at h0
  ·simp at h0
  ·rename_i hop;rw[if_neg hop];split at h0
   ·simp at h0
   ·rename_i hall;rw[if_neg hall];have hall2:∀v∈a.2,(valV t v).2=0:=Classical.not_not.1 hall;split at h0
    ·rename_i e0;rw[if_pos e0];unfold addL at h0 ⊢;split at h0
     ·simp at h0
     ·rename_i hv;rw[if_neg hv];split at h0
      ·rename_i hg;rw[if_pos hg];exact (zIi h hty hne hg).1
      ·simp at h0
    ·rename_i e0;rw[if_neg e0];split at h0
     ·rename_i e1;rw[if_pos e1];unfold removeL at h0 ⊢;split at h0
      ·simp at h0
      ·rename_i hp;rw[if_neg hp];split at h0
       ·rename_i hv;rw[if_pos hv];exact cut_ok h hty hne
       ·rename_i hv;rw[if_neg hv];exact zOn hty hne h h0
     ·rename_i e1;rw[if_neg e1];split at h0
      ·rename_i e2;rw[if_pos e2];unfold replaceL at h0 ⊢;split at h0
       ·rename_i hg;rw[if_pos hg];exact (zIi (cut_ok h hty hne) hty hne hg).1
       ·simp at h0
      ·rename_i e2;rw[if_neg e2];unfold incL at h0 ⊢;split at h0
       ·simp at h0
       ·rename_i h34;rw[if_neg h34];split at h0
        ·simp at h0
        ·rename_i hp;rw[if_neg hp];split at h0
         ·simp at h0
         ·rename_i hs;rw[if_neg hs];have hsum:∀v∈pickE L t,∃s,RaiseR (typ a.1).2 v (a.2.headD []) s:=fun v hv=>Classical.byContradiction fun q=>hs ⟨v,hv,q⟩
          have hpk:=h.pick t;have hval:∀v∈pickE L t,valV t (sumV (typ a.1).2 v (a.2.headD []))=(sumV (typ a.1).2 v (a.2.headD []),0):=fun v hv=>zCs htx (zEp (hsum v hv))
          have h34':(typ a.1).2=3\/(typ a.1).2=4:=by
           by_cases q:(typ a.1).2=3\/(typ a.1).2=4
           ·exact q
           ·exact absurd (.inl q) h34
          have hok:∀v∈(pickE L t).map (fun v=>sumV (typ a.1).2 v (a.2.headD [])),(valV t v).2=0:=(by intro v hv;obtain⟨u,hu,rfl⟩:=List.mem_map.1 hv;rw[hval u hu]);refine h.set hty hne hok ?_;rw[zBz hok,List.pairwise_map];refine List.Pairwise.imp_of_mem (fun {x y} hx hy hxy=>?_) ((zBz hpk.1).1 hpk.2);rw[hval x hx,hval y hy];intro e;have e1:=zFa (zEp (hsum x hx)) (by have:=zEp (hsum y hy);simp only at e;rw[<-e] at this;exact this);exact hxy (by rw[e1])
theorem zEl:∀{cs:List CH} {L:List EA},OkE L->(changesL L cs).2=0->OkE (changesL L cs).1
 | [],L,h,_=>by unfold changesL;exact h
 | c::cs,L,h,h0=>by
  unfold changesL at h0 ⊢;by_cases q:(changeL L c.1 c.2).2≠0
  ·rw [if_pos q] at h0;exact absurd h0 q
  ·rw [if_neg q] at h0 ⊢;exact zEl (zK5 h (by simpa using q)) h0
theorem zCt {L:List EA} (h:FormedL L):OkE L:=
 ⟨zG0 h,fun a ha q=>by have:=(h.each a ha).lo;rw[q] at this;simp at this,fun a ha=>⟨(h.each a ha).name,(h.each a ha).ne,(h.each a ha).ok,(h.each a ha).alone⟩⟩
theorem zFl {nm:List UInt8} {L:List EA} {mis:Int} (hn:normT nm=(nm,0)) (hne:nm≠[]) (hok:OkE L) (hmis:mis≠0):endE nm L mis=0↔FormedE nm L:=by
 unfold endE;constructor
 ·intro he;split at he
  ·exact absurd he (by simp)
  ·rename_i hm;split at he
   ·exact absurd he (by simp)
   ·rename_i hc;split at he
    ·rename_i hN;refine⟨⟨hn,hne,hok.form fun a ha h20=>hm ⟨a,ha,h20⟩⟩,?_,hN⟩;rw[zFz];exact hc
    ·exact absurd he hmis
 ·intro h;rw[if_neg,if_neg,if_pos h.named]
  ·have:=h.cls
   rwa [zFz] at this
  ·rintro ⟨a,ha,h20⟩;have:=(h.loose.attrs.each a ha).hi;omega
theorem zFf (nm:List UInt8) (L:List EA) (cs:List CH):((modifyE nm L cs).2.2=0/\FormedE (modifyE nm L cs).1 (modifyE nm L cs).2.1)\/((modifyE nm L cs).2.2≠0/\(modifyE nm L cs).1=[]/\(modifyE nm L cs).2.1=[]):=by
 unfold modifyE;by_cases hf:FormedE nm L
 ·rw [if_neg (fun q=>q hf)];by_cases h1:(changesL L cs).2≠0
  ·rw [if_pos h1];exact .inr ⟨h1,rfl,rfl⟩
  ·rw [if_neg h1];by_cases h2:endE nm (changesL L cs).1 67≠0
   ·rw [if_pos h2];exact .inr ⟨h2,rfl,rfl⟩
   ·rw [if_neg h2];exact .inl ⟨rfl,(zFl hf.loose.norm hf.loose.ne (zEl (zCt hf.loose.attrs) (by simpa using h1)) (show (67:Int)≠0 by decide)).1 (by simpa using h2)⟩
 ·rw [if_pos hf];exact .inr ⟨by simp,rfl,rfl⟩
theorem zD9 {nm:List UInt8} {L M:List EA} {cs:List CH} (hf:FormedE nm L) (hc:changesL L cs=(M,0)) (hM:FormedE nm M):modifyE nm L cs=(nm,M,0):=by
 unfold modifyE;have hok:=zEl (cs:=cs) (zCt hf.loose.attrs) (by rw[hc]);rw[hc] at hok;rw[if_neg (fun q=>q hf),hc,if_neg (by simp),if_neg (by simpa using (zFl hf.loose.norm hf.loose.ne hok (by decide)).2 hM)]
theorem zDq {nm:List UInt8} {L:List EA} {cs:List CH} (h:(modifyE nm L cs).2.2=0):∃M,modifyE nm L cs=(nm,M,0)/\FormedE nm L/\changesL L cs=(M,0)/\FormedE nm M:=by
 unfold modifyE at h;by_cases hf:FormedE nm L
 ·rw [if_neg (fun q=>q hf)] at h;by_cases h1:(changesL L cs).2≠0
  ·rw [if_pos h1] at h;exact absurd h h1
  ·rw [if_neg h1] at h;by_cases h2:endE nm (changesL L cs).1 67≠0
   ·rw [if_pos h2] at h;exact absurd h h2
   ·have hc:changesL L cs=((changesL L cs).1,0):=Prod.ext rfl (by simpa using h1);have hF:=(zFl hf.loose.norm hf.loose.ne (zEl (zCt hf.loose.attrs) (by simpa using h1)) (show (67:Int)≠0 by decide)).1 (by simpa using h2);exact⟨_,zD9 hf hc hF,hf,hc,hF⟩
 ·rw [if_pos hf] at h;simp at h
theorem zA8 (L:List EA) (c:CH) (r:List CH):changesL L (c::r)=if (changeL L c.1 c.2).2≠0 then ([],(changeL L c.1 c.2).2) else changesL (changeL L c.1 c.2).1 r:=by rw[changesL]
theorem zHe:∀(cs ds:List CH) (L:List EA),(changesL L cs).2=0->changesL L (cs++ds)=changesL (changesL L cs).1 ds
 | [],ds,L,_=>by rw[List.nil_append,changesL]
 | c::cs,ds,L,h=>by
  rw[zA8] at h;rw[List.cons_append,zA8,zA8];by_cases q:(changeL L c.1 c.2).2≠0
  ·rw [if_pos q] at h;exact absurd h q
  ·rw [if_neg q] at h ⊢;rw[if_neg q];exact zHe cs ds _ h
theorem zMb {nm:List UInt8} {L M G:List EA} {cs ds:List CH} {c:Int} (h1:modifyE nm L cs=(nm,M,0)) (h2:modifyE nm M ds=(nm,G,c)) (hc:c=0):modifyE nm L (cs++ds)=(nm,G,0):=by
 subst hc;obtain⟨M',e1,f1,c1,g1⟩:=zDq (nm:=nm) (L:=L) (cs:=cs) (by rw[h1]);rw[h1] at e1;obtain rfl:M=M':=by injection e1 with _ e1;injection e1
 obtain⟨G',e2,f2,c2,g2⟩:=zDq (nm:=nm) (L:=M) (cs:=ds) (by rw[h2]);rw[h2] at e2;obtain rfl:G=G':=by injection e2 with _ e2;injection e2
 refine zD9 f1 ?_ g2;rw[zHe cs ds L (by rw[c1]),c1];exact c2
theorem valV_typ {n t:List UInt8} (h:(typ n).2=(typ t).2) (v:List UInt8):valV n v=valV t v:=by
 unfold valV norm;rw[h]
structure Added (L:List EA) (name v:List UInt8) (M:List EA):Prop where
 typ0:(typ name).2≠0
 ok:(valV (typ name).1 v).2=0
 new:¬WithinV (typ name).1 (pickE L (typ name).1) v
 is:M=setE L (typ name).1 (pickE L (typ name).1++[v])
theorem added {L M:List EA} {name v:List UInt8} (h:OkE L) (hc:changesL L [(0,(name,[v]))]=(M,0)):Added L name v M:=by
 rw[zA8] at hc;by_cases q:(changeL L 0 (name,[v])).2≠0
 ·rw [if_pos q] at hc;exact absurd (Prod.mk.inj hc).2 q
 ·rw [if_neg q,changesL] at hc;have e1:=(Prod.mk.inj hc).1;have q:(changeL L 0 (name,[v])).2=0:=by simpa using q
  unfold changeL at q e1;split at q
  ·simp at q
  ·rename_i h0;rw[if_neg h0] at e1;split at q
   ·simp at q
   ·rename_i h1;rw[if_neg h1] at e1;split at q
    ·simp at q
    ·rename_i h2;rw[if_neg h2] at e1;rw[if_pos rfl] at q e1;unfold addL at q e1;rw[if_neg (by simp)] at q e1;have hok:=Classical.not_not.1 h2 v (by simp);by_cases hw:WithinV (typ name).1 (pickE L (typ name).1) v
     ·exfalso;have hg:(gatherL L (typ name).1 [v]).2≠0:=by
       unfold gatherL;rw[if_neg (by simp[hok]),if_pos hw];simp
      rw[if_neg hg] at q;simp at q
     ·have hg:gatherL L (typ name).1 [v]=(setE L (typ name).1 (pickE L (typ name).1++[v]),0):=by
       unfold gatherL;rw[if_neg (by simp[hok]),if_neg hw];unfold gatherL;rfl
      simp only at e1;rw[hg,if_pos rfl] at e1;exact⟨h0,hok,hw,e1.symm⟩
theorem Added.pick {L M:List EA} {name v:List UInt8} (h:Added L name v M):pickE M (typ name).1=pickE L (typ name).1++[v]:=by
 rw[h.is,zA5,if_pos rfl]
theorem zUc {L M:List EA} {name v:List UInt8} (hL:OkE L) (h:Added L name v M):changesL M [(1,(name,[v]))]=(L,0):=by
 have hd:dropV (typ name).1 (pickE M (typ name).1) (valV (typ name).1 v).1=pickE L (typ name).1:=by rw[h.pick];unfold dropV;rw[List.filter_append,List.filter_cons_of_neg (by simp),List.filter_nil,List.append_nil,List.filter_eq_self];intro x hx;simp only[decide_eq_true_eq];intro e;exact h.new ⟨x,hx,h.ok,(hL.pick _).1 x hx,e⟩
 have hc:changeL M 1 (name,[v])=(L,0):=by unfold changeL;rw[if_neg h.typ0,if_neg (by omega),if_neg (by simp[h.ok]),if_neg (by omega),if_pos rfl];unfold removeL;rw[if_neg (by rw[h.pick];simp),if_neg (by simp)];unfold dropsL;rw[if_pos ⟨v,by rw[h.pick];simp,rfl⟩];unfold dropsL;simp only;rw[hd,h.is,zFy hL.rf,zJx hL.rf]
 rw[zA8,hc,if_neg (by simp),changesL]
theorem zKv {L M:List EA} {name v:List UInt8} (hL:OkE L) (h:Added L name v M):changesL M [(2,(name,valuesE L name))]=(L,0):=by
 have hv:valuesE L name=pickE L (typ name).1:=by unfold valuesE;rw[if_neg h.typ0]
 have hp:=hL.pick (typ name).1;have hcut:setE M (typ name).1 []=setE L (typ name).1 []:=by rw[h.is,zFy hL.rf]
 have hg:gatherL (setE M (typ name).1 []) (typ name).1 (pickE L (typ name).1)=(L,0):=by rw[hcut];obtain⟨e1,e2⟩:=zB9 (t:=(typ name).1) (pickE L (typ name).1) (setE L (typ name).1 []) (hL.rf.set _ _);have hga:=zB4 (pickE L (typ name).1) [] hp.1 (by simpa using hp.2);rw[zA5,if_pos rfl,hga] at e1 e2;refine Prod.ext ?_ e1;rw[e2 e1,List.nil_append,zFy hL.rf,zJx hL.rf]
 have hc:changeL M 2 (name,valuesE L name)=(L,0):=by
  unfold changeL;rw[if_neg h.typ0,if_neg (by omega),if_neg,if_neg (by omega),if_neg (by omega),if_pos rfl]
  ·unfold replaceL;simp only;rw[hv,hg,if_pos rfl]
  ·simp only;rw[hv];exact fun q=>q hp.1
 rw[zA8,hc,if_neg (by simp),changesL]
theorem undo_has {L M:List EA} {name v:List UInt8} (h:Added L name v M):HasE M name v:=by
 have hv:valuesE M name=pickE M (typ name).1:=by unfold valuesE;rw[if_neg h.typ0]
 have hok:(valV name v).2=0:=by rw[valV_typ (by rw[(zCl h.typ0).1]:(typ name).2=(typ (typ name).1).2) v];exact h.ok
 unfold HasE;rw[hv,h.pick];exact⟨v,by simp,hok,hok,rfl⟩
end Go.Proofs.YtadlmhclpaifoaaGreatDoor
