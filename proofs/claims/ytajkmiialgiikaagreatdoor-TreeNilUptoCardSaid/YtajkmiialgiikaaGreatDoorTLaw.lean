/- TreeNil: a nil tree has nothing. By an AI agent. -/
import Derived.Test.YtajkmiialgiikaaGreatDoorTStep
import Derived.Test.YtajkmiialgiikaaGreatDoorTAwake
import Derived.Test.YtajkmiialgiikaaGreatDoorTFew
import Derived.Test.YtajkmiialgiikaaGreatDoorDM
import Derived.Test.YtajkmiialgiikaaGreatDoorOpenOp
import Derived.Test.YtajkmiialgiikaaGreatDoorDU
set_option linter.unusedSimpArgs false
set_option linter.unusedVariables false
set_option maxRecDepth 100000
set_option maxHeartbeats 64000000
namespace Go.Proofs.YtajkmiialgiikaaGreatDoor
open Go Go.RowKit
structure NewT (w:World) (e:Ending) (w':World):Prop where
 out:e=.returned (.pointer (some ⟨w.heap.size,0,none⟩))/\Blk w' w.heap.size [.slice none 0 0]/\Below w.heap.size w w'/\w'.heap.size=w.heap.size+1
theorem tnew_any (w:World):Calls Tryz.prog 23 #[] w (NewT w):=by
 suffices H:Calls Tryz.prog 23 #[] w fun e w'=>Hid (NewT w e w') from H.mono fun e w' h=>h.out
 have HE:Hid (NewT w (.returned (.pointer (some ⟨w.heap.size,0,none⟩))) (w.alloc (.cells #[.slice none 0 0] 72))):=hide ⟨⟨rfl,Blk.new w [.slice none 0 0] 72,below1 w _,by simp⟩⟩;go_enter Tryz.func23,Tryz.ntmps23;go_wp2;go_ret;exact HE
theorem zEu (w:World) (hT:TM w):Calls Tryz.prog 6 #[] w fun e w'=>e=.returned (.bool true)/\Below w.heap.size w w':=by
 have HT:=hide hT;clear hT;go_enter Tryz.func6,Tryz.ntmps6;go_wp2_with (go_at_call 23;fail);refine (tnew_any w).mono ?_;rintro e w0 hpost;obtain⟨rfl,hQ,hb0,hs0⟩:=hpost.out;have hb1:=below1 w0 (.cells #[.string ⟨#[111]⟩] 9);have hX1:Blk (w0.alloc (.cells #[.string ⟨#[111]⟩] 9)) w0.heap.size [.string ⟨#[111]⟩]:=Blk.new w0 [.string ⟨#[111]⟩] 9;obtain⟨w1,hw1⟩:∃w1,w0.alloc (.cells #[.string ⟨#[111]⟩] 9)=w1:=⟨_,rfl⟩;have hs1:w1.heap.size=w.heap.size+1+1:=by rw[<-hw1];simp[hs0]
 rw[hw1] at hb1 hX1;have hb2:=below1 w1 (.cells #[.string ⟨#[120]⟩] 9);have hX2:Blk (w1.alloc (.cells #[.string ⟨#[120]⟩] 9)) w1.heap.size [.string ⟨#[120]⟩]:=Blk.new w1 [.string ⟨#[120]⟩] 9;obtain⟨w2,hw2⟩:∃w2,w1.alloc (.cells #[.string ⟨#[120]⟩] 9)=w2:=⟨_,rfl⟩;have hs2:w2.heap.size=w.heap.size+1+1+1:=by rw[<-hw2];simp[hs1]
 rw[hw2] at hb2 hX2;rw[hs1] at hX2;rw[hs0] at hX1;obtain⟨us,hus⟩:∃us:List Value,[.string ⟨#[111,98,106,101,99,116,67,108,97,115,115]⟩,.slice (some ⟨w.heap.size+1,0,none⟩) 1 1,.string ⟨#[100,99]⟩,.slice (some ⟨w.heap.size+1+1,0,none⟩) 1 1]=us:=⟨_,rfl⟩;have hb3:=below1 w2 (.cells us.toArray 60);have hX3:Blk (w2.alloc (.cells us.toArray 60)) w2.heap.size us:=Blk.new w2 us 60;obtain⟨w3,hw3⟩:∃w3,w2.alloc (.cells us.toArray 60)=w3:=⟨_,rfl⟩;rw[hw3] at hb3 hX3;rw[hs2] at hX3;have hY1:=(hX1.grow hb2).grow hb3;have hY2:=hX2.grow hb3;have hbb:Below w0.heap.size w0 w3:=(hb1.trans (hb2.mono hb1.size)).trans (hb3.mono (Nat.le_trans hb1.size hb2.size));have blkH:∀{w:World} {h:Nat} {us:List Value} (t:Blk w h us) (size n:Nat) (hl:us.length=n*size),Has w w.heap.size size (some ⟨h,0,none⟩) n us:=fun {w h us} t size n hl=>⟨hl,.inr ⟨_,rfl,t.lt,fun j u hu=>by
  have:=t.cells j u hu
  rwa [show (⟨h,0,none⟩:Addr).add j=⟨h,j,none⟩ by unfold Addr.add;split<;>simp_all]⟩⟩
 have h1:=blkH hY1 1 1 rfl;have h2:=blkH hY2 1 1 rfl;have h3:=blkH hX3 2 2 (by rw[<-hus];rfl);have hE:EAs w3 w3.heap.size us awT:=by
  rw[<-hus];refine⟨rfl,fun i a ha=>?_⟩
  match i,ha with
  | 0,ha=>obtain rfl:=Option.some.inj ha;exact⟨_,1,rfl,rfl,by decide,by unfold maxLen;omega,h1⟩
  | 1,ha=>obtain rfl:=Option.some.inj ha;exact⟨_,1,rfl,rfl,by decide,by unfold maxLen;omega,h2⟩
  | k+2,ha=>cases ha
 have hM:=tadd_aw w3 w.heap.size w.heap.size _ us (hQ.grow hbb) (Nat.le_refl _) (Nat.le_trans hb0.size hbb.size) h3 hE ((HT.out.below hb0).below hbb);subst hus;have HM:=hide hM;have HB:=hide (hb0.trans (hbb.mono hb0.size));have Hw:=hide (And.intro hw1 (And.intro hw2 hw3));have Hs:=hide (And.intro hs0 (And.intro hs1 hs2));clear hpost hM hbb hE h1 h2 h3 hY1 hY2 hX1 hX2 hX3 hb1 hb2 hb3 hw1 hw2 hw3 hs0 hs1 hs2 hQ hb0 blkH HT;go_wp2_with (go_at_call 24;fail);rw[Hw.out.1];(try rw[Hs.out.1]);rw[Hw.out.2.1];(try rw[Hs.out.2.1]);rw[Hw.out.2.2];(try rw[Hs.out.2.2]);refine HM.out.mono ?_;rintro e w4 hpost;obtain⟨A,c,rfl,hQ4,hb4⟩:=hpost.out;have HQ4:=hide hQ4;have HB4:=hide (HB.out.trans hb4);clear hpost hQ4 hb4 HM HB Hw Hs;go_wp2_with (go_at_call 21;fail);refine (tlen_one w4 _ A 1 c HQ4.out).mono ?_;rintro e w5 ⟨rfl,hw5⟩;obtain rfl:=hw5.symm;clear hw5 HQ4;go_wp2;go_ret;exact⟨rfl,HB4.out⟩
structure VO (w0 w:World) (A:Option Addr) (n:Nat) (xs:List Value) (L:List EA) (C:Option Addr) (m:Nat) (ys:List Value) (cs:List CH):Prop where
 base:Below w0.heap.size w0 w
 tm:TM w
 has:Has w w.heap.size 2 A n xs
 attrs:EAs w w.heap.size xs L
 has2:Has w w.heap.size 3 C m ys
 chgs:CHs w w.heap.size ys cs
theorem VO.grow {w0 w w':World} {A:Option Addr} {n:Nat} {xs:List Value} {L:List EA} {C:Option Addr} {m:Nat} {ys:List Value} {cs:List CH} (h:VO w0 w A n xs L C m ys cs) (hb:Below w.heap.size w w'):VO w0 w' A n xs L C m ys cs:=
 ⟨h.base.trans (hb.mono h.base.size),h.tm.below hb,(h.has.below hb).upto hb.size,h.attrs.grow hb,(h.has2.below hb).upto hb.size,h.chgs.grow hb⟩
theorem nil_law (k:Int) (s1 s2 s3:List UInt8) (b1 b2:Bool) (L:List EA) (cs:List CH) (w:World) (A:Option Addr) (n c:Nat) (xs:List Value) (C:Option Addr) (m cc:Nat) (ys:List Value)
  (hV:VO w w A n xs L C m ys cs) (hc:L.length<=c) (hmx:c<=maxLen) (hbk:BulkN (s1,L)) (hts:∀a∈L,a.1.length<=1048576) (hm:m<=1048575) (hcv:∀a∈cs,a.2.2.length<=1048576/\∀u∈a.2.2,u.length<=1048576) (h2:s2.length<=1048576) (h3:s3.length<=1048576):
  Calls Tryz.prog 5 #[.agg #[.int .i64 k,.string (txt s1),.string (txt s2),.string (txt s3),.bool b1,.bool b2,.slice A n c,.slice C m cc]] w fun e w'=>e=.returned (.bool true)/\Below w.heap.size w w':=by
 have z2:(txt s2).size=s2.length:=zAg _;have z3:(txt s3).size=s3.length:=zAg _;have HFw:Hid (∀(w:World) (b:Nat),Blk w b [.int .i64 k,.string (txt s1),.string (txt s2),.string (txt s3),.bool b1,.bool b2,.slice A n c,.slice C m cc]->(∀{w0:World},VO w0 w A n xs L C m ys cs->Calls Tryz.prog 19 #[.slice (some ⟨b,0,none⟩) 1 1] w fun e w'=>e=.returned (.bool (decide ((txt s2).size+(txt s3).size<=3000)&&decide (nW ((s1,L)::cs.map cgE)<=3000)))/\Below w.heap.size w w')):=hide (fun w b hB {w0} hV=>zP2 k s1 (txt s2) (txt s3) b1 b2 L cs w b A n c xs C m cc ys hB hV.has hV.attrs hc hmx hV.has2 hV.chgs hbk hm hcv (by omega) (by omega));have hfit:nW ((s1,L)::cs.map cgE)<=3000->s1.length<=1000000/\L.length<=900000/\(∀a∈L,∀v∈a.2,v.length<=1000000)/\cntE L<=900000:=fun h=>by
  have hsm:=zQe h;have e1:=hsm.name (s1,L) (by simp);have e2:=hsm.attrs (s1,L) (by simp);have e3:=hsm.each (s1,L) (by simp);simp only at e1 e2 e3;have e4:=cnt_w L;unfold nW eW at h;simp only[List.map_cons,List.sum_cons] at h;exact⟨by omega,by omega,fun a ha v hv=>by have:=(e3 a ha).2 v hv;omega,by omega⟩
 obtain⟨bb,hbb⟩:∃b,(decide ((txt s2).size+(txt s3).size<=3000)&&decide (nW ((s1,L)::cs.map cgE)<=3000))=b:=⟨_,rfl⟩;rw[hbb] at HFw;have hfit2:bb=true->(s1.length<=1000000/\L.length<=900000/\(∀a∈L,∀v∈a.2,v.length<=1000000)/\cntE L<=900000)/\s2.length<=1000000/\s3.length<=1000000:=fun h=>by
  rw[h] at hbb;have h4:=Bool.and_eq_true_iff.1 hbb;have h5:=of_decide_eq_true h4.1;exact⟨hfit (of_decide_eq_true h4.2),by omega,by omega⟩
 have hnl:=hV.has.eas_n hV.attrs;have HAdd:=fun (hb:bb=true) (q:Nat) (w3:World) (hQ:Blk w3 q [.slice none 0 0]) (hV3:VO w w3 A n xs L C m ys cs)=>radd_nil s1 L w3 q A n c xs hQ hV3.has hV3.attrs hV3.tm (hfit2 hb).1.1 (by rw[hnl];exact (hfit2 hb).1.2.1) hts (hfit2 hb).1.2.2.1 (hfit2 hb).1.2.2.2
 have HDel:=fun (hb:bb=true) (q:Nat) (w3:World) (hQ:Blk w3 q [.slice none 0 0]) (hT:TM w3)=>rdel_nil s1 (hfit2 hb).1.1 w3 q hQ hT
 have HMod:=fun (hb:bb=true) (q:Nat) (w3:World) (hQ:Blk w3 q [.slice none 0 0]) (hT:TM w3)=>rmod_nil s1 (hfit2 hb).1.1 w3 q C m cc hQ hT
 have HRen:=fun (hb:bb=true) (q:Nat) (w3:World) (hQ:Blk w3 q [.slice none 0 0]) (hT:TM w3)=>rren_nil s1 s2 s3 b1 b2 (hfit2 hb).1.1 (hfit2 hb).2.1 (hfit2 hb).2.2 w3 q hQ hT
 have HAdd:=hide HAdd;have HDel:=hide HDel;have HMod:=hide HMod;have HRen:=hide HRen;have HV:=hide hV;clear hV hc hmx hbk hts hm hcv h2 h3 z2 z3 hfit hfit2 hbb hnl;generalize txt s3=S3 at *;generalize txt s2=S2 at *;generalize txt s1=S1 at *;have hb1:=below1 w (.cells #[.int .i64 k,.string S1,.string S2,.string S3,.bool b1,.bool b2,.slice A n c,.slice C m cc] 48);have hX:Blk (w.alloc (.cells #[.int .i64 k,.string S1,.string S2,.string S3,.bool b1,.bool b2,.slice A n c,.slice C m cc] 48)) w.heap.size [.int .i64 k,.string S1,.string S2,.string S3,.bool b1,.bool b2,.slice A n c,.slice C m cc]:=Blk.new w [.int .i64 k,.string S1,.string S2,.string S3,.bool b1,.bool b2,.slice A n c,.slice C m cc] 48;obtain⟨w1,hw1⟩:∃w1,w.alloc (.cells #[.int .i64 k,.string S1,.string S2,.string S3,.bool b1,.bool b2,.slice A n c,.slice C m cc] 48)=w1:=⟨_,rfl⟩;rw[hw1] at hb1 hX;have HX:=hide hX;replace HV:=hide (HV.out.grow hb1);have Hw1:=hide hw1;clear hb1 hX hw1;go_enter Tryz.func5,Tryz.ntmps5;go_upto_region 1 with fail;rw[Hw1.out];clear Hw1;obtain⟨h,hh⟩:∃h,w.heap.size=h:=⟨_,rfl⟩;rw[hh] at HX;have Hh:=hide hh;(try rw[hh]);clear hh;go_wp2_with (go_at_call 6;fail);refine (zEu _ HV.out.tm).mono ?_;rintro e w2 ⟨rfl,hb2⟩;replace HV:=hide (HV.out.grow hb2);replace HX:=hide (HX.out.grow hb2);clear hb2;have x0:=HX.out.cells 0 _ rfl;have x1:=HX.out.cells 1 _ rfl;have x2:=HX.out.cells 2 _ rfl;have x3:=HX.out.cells 3 _ rfl;have x4:=HX.out.cells 4 _ rfl;have x5:=HX.out.cells 5 _ rfl;have x6:=HX.out.cells 6 _ rfl;have x7:=HX.out.cells 7 _ rfl;have hb3:=below1 w2 (.cells #[.int .i64 k,.string S1,.string S2,.string S3,.bool b1,.bool b2,.slice A n c,.slice C m cc] 48);have hF:=HFw.out _ _ (Blk.new w2 [.int .i64 k,.string S1,.string S2,.string S3,.bool b1,.bool b2,.slice A n c,.slice C m cc] 48) (HV.out.grow hb3);have HF:=hide hF;have HVf:=hide (HV.out.grow hb3);have HXf:=hide (HX.out.grow hb3);clear hb3 hF HFw HV HX;go_wp2_with (go_at_call 19;fail);refine HF.out.mono ?_;rintro e w4 ⟨rfl,hb4⟩;have HV:=hide (HVf.out.grow hb4);have HX:=hide (HXf.out.grow hb4);clear hb4 HF HVf HXf x0 x1 x2 x3 x4 x5 x6 x7;cases bb with
 | false=>
  clear HAdd HDel HMod HRen HX;go_wp2_with (go_at_call 6;fail);refine (zEu _ HV.out.tm).mono ?_;rintro e w5 ⟨rfl,hb5⟩;have HE:=hide (HV.out.base.trans (hb5.mono HV.out.base.size));clear hb5 HV;go_wp2;go_ret;exact⟨rfl,HE.out⟩
 | true=>
  have x0:=HX.out.cells 0 _ rfl;have x1:=HX.out.cells 1 _ rfl;have x2:=HX.out.cells 2 _ rfl;have x3:=HX.out.cells 3 _ rfl;have x4:=HX.out.cells 4 _ rfl;have x5:=HX.out.cells 5 _ rfl;have x6:=HX.out.cells 6 _ rfl;have x7:=HX.out.cells 7 _ rfl;have hb5:=below1 w4 (.cells #[.slice none 0 0] 54);have hQ:Blk (w4.alloc (.cells #[.slice none 0 0] 54)) w4.heap.size [.slice none 0 0]:=Blk.new w4 [.slice none 0 0] 54;obtain⟨w5,hw5⟩:∃w5,w4.alloc (.cells #[.slice none 0 0] 54)=w5:=⟨_,rfl⟩;rw[hw5] at hb5 hQ;obtain⟨q,hq⟩:∃q,w4.heap.size=q:=⟨_,rfl⟩;rw[hq] at hQ;have hqh:h<q:=by rw[<-hq];exact HX.out.lt
  have hV5:=HV.out.grow hb5;have hX5:=HX.out.grow hb5;have hq5:q<=w5.heap.size:=by rw[<-hq];exact hb5.size
  have hb6:=below1 w5 (.cells #[.int .i64 k,.string S1,.string S2,.string S3,.bool b1,.bool b2,.slice A n c,.slice C m cc] 48);have hV6:=hV5.grow hb6;have HSt:=hide (step_nil k S1 S2 S3 b1 b2 w5 _ q q A n c C m cc rfl hQ (Nat.le_refl _) hq5
   (hide fun w3 hQ3 hb=>HAdd.out rfl q w3 hQ3 (hV6.grow hb))
   (hide fun w3 hQ3 hb=>HDel.out rfl q w3 hQ3 (hV6.tm.below hb))
   (hide fun w3 hQ3 hb=>HMod.out rfl q w3 hQ3 (hV6.tm.below hb))
   (hide fun w3 hQ3 hb=>HRen.out rfl q w3 hQ3 (hV6.tm.below hb)))
  have y0:(w4.alloc (.cells #[.slice none 0 0] 54)).cell? ⟨h,0,none⟩=some (.int .i64 k):=by rw[hw5];exact hX5.cells 0 _ rfl
  have y1:(w4.alloc (.cells #[.slice none 0 0] 54)).cell? ⟨h,1,none⟩=some (.string S1):=by rw[hw5];exact hX5.cells 1 _ rfl
  have y2:(w4.alloc (.cells #[.slice none 0 0] 54)).cell? ⟨h,2,none⟩=some (.string S2):=by rw[hw5];exact hX5.cells 2 _ rfl
  have y3:(w4.alloc (.cells #[.slice none 0 0] 54)).cell? ⟨h,3,none⟩=some (.string S3):=by rw[hw5];exact hX5.cells 3 _ rfl
  have y4:(w4.alloc (.cells #[.slice none 0 0] 54)).cell? ⟨h,4,none⟩=some (.bool b1):=by rw[hw5];exact hX5.cells 4 _ rfl
  have y5:(w4.alloc (.cells #[.slice none 0 0] 54)).cell? ⟨h,5,none⟩=some (.bool b2):=by rw[hw5];exact hX5.cells 5 _ rfl
  have y6:(w4.alloc (.cells #[.slice none 0 0] 54)).cell? ⟨h,6,none⟩=some (.slice A n c):=by rw[hw5];exact hX5.cells 6 _ rfl
  have y7:(w4.alloc (.cells #[.slice none 0 0] 54)).cell? ⟨h,7,none⟩=some (.slice C m cc):=by rw[hw5];exact hX5.cells 7 _ rfl
  have HB5:=hide hV5.base;have Hhw:Hid (w.heap.size<=q):=hide (by rw[<-hq];exact HV.out.base.size);have HX5:=hide hX5;have Hqh:=hide hqh;have Hq:=hide (And.intro hq hw5);clear hb5 hQ hw5 hV5 hX5 hb6 hV6 hq hqh hq5 HAdd HDel HMod HRen HV HX;go_wp2_with (go_at_call 20;fail);rw[Hq.out.2];(try rw[Hq.out.1]);clear x0 x1 x2 x3 x4 x5 x6 x7;refine HSt.out.mono ?_;rintro e w6 hpost;obtain⟨cd,rfl,hb6⟩:=hpost.out;have HX6:=hide (HX5.out.below Hqh.out hb6);have HB6:=hide (HB5.out.trans (hb6.mono Hhw.out));clear hpost hb6 HSt HX5 HB5 y0 y1 y2 y3 y4 y5 y6 y7 Hq Hqh Hhw;obtain⟨a,ha⟩:∃a,(if 1<=k/\k<=4 then (1:Int) else 0)=a:=⟨_,rfl⟩;rw[ha];have x0:=HX6.out.cells 0 _ rfl;have x1:=HX6.out.cells 1 _ rfl;go_wp2_with (go_at_call 13;fail);refine (tget_nil w6 S1).mono ?_;rintro e w7 ⟨rfl,hb7⟩;have hb8:=below1 w7 (.cells #[.string ⟨#[]⟩,.slice none 0 0] 38);have HX7:=hide ((HX6.out.grow hb7).grow hb8);have HB7:=hide ((HB6.out.trans (hb7.mono HB6.out.size)).trans (hb8.mono (Nat.le_trans HB6.out.size hb7.size)));obtain⟨w8,hw8⟩:∃x,w7.alloc (.cells #[.string ⟨#[]⟩,.slice none 0 0] 38)=x:=⟨_,rfl⟩;rw[hw8] at HX7 HB7;have Hw8:=hide hw8;clear hb7 hb8 hw8 HX6 HB6 x0 x1;go_upto_region 7 with fail;rw[Hw8.out];clear Hw8;have x0:=HX7.out.cells 0 _ rfl;have x1:=HX7.out.cells 1 _ rfl;by_cases hk:1<=k/\k<=4
  ·obtain rfl:(1:Int)=a:=by rw[<-ha,if_pos hk]
   have v1:¬(k<1):=by omega
   have v2:¬(4<k):=by omega
   clear ha;go_wp2_with (go_at_call 21;fail);refine (zHp w8).mono ?_;rintro e w9 ⟨rfl,hw9⟩;obtain rfl:=hw9.symm;clear hw9;go_wp2_with (go_at_call 22;fail);refine (zHk w8).mono ?_;rintro e w9 ⟨rfl,hw9⟩;obtain rfl:=hw9.symm;clear hw9;go_wp2_with (go_at_call 17;fail);refine (zD7 w8 S1).mono ?_;rintro e w9 ⟨rfl,hw9⟩;obtain rfl:=hw9.symm;clear hw9;go_wp2_with (go_at_call 11;fail);refine (zFr w8).mono ?_;rintro e w9 ⟨rfl,hw9⟩;obtain rfl:=hw9.symm;clear hw9;go_wp2;go_ret;exact⟨rfl,HB7.out⟩
  ·obtain rfl:(0:Int)=a:=by rw[<-ha,if_neg hk]
   by_cases v1:k<1
   ·clear ha;go_wp2_with (go_at_call 21;fail);refine (zHp w8).mono ?_;rintro e w9 ⟨rfl,hw9⟩;obtain rfl:=hw9.symm;clear hw9;go_wp2_with (go_at_call 22;fail);refine (zHk w8).mono ?_;rintro e w9 ⟨rfl,hw9⟩;obtain rfl:=hw9.symm;clear hw9;go_wp2_with (go_at_call 17;fail);refine (zD7 w8 S1).mono ?_;rintro e w9 ⟨rfl,hw9⟩;obtain rfl:=hw9.symm;clear hw9;go_wp2_with (go_at_call 11;fail);refine (zFr w8).mono ?_;rintro e w9 ⟨rfl,hw9⟩;obtain rfl:=hw9.symm;clear hw9;go_wp2;go_ret;exact⟨rfl,HB7.out⟩
   ·have v2:4<k:=by omega
    clear ha;go_wp2_with (go_at_call 21;fail);refine (zHp w8).mono ?_;rintro e w9 ⟨rfl,hw9⟩;obtain rfl:=hw9.symm;clear hw9;go_wp2_with (go_at_call 22;fail);refine (zHk w8).mono ?_;rintro e w9 ⟨rfl,hw9⟩;obtain rfl:=hw9.symm;clear hw9;go_wp2_with (go_at_call 17;fail);refine (zD7 w8 S1).mono ?_;rintro e w9 ⟨rfl,hw9⟩;obtain rfl:=hw9.symm;clear hw9;go_wp2_with (go_at_call 11;fail);refine (zFr w8).mono ?_;rintro e w9 ⟨rfl,hw9⟩;obtain rfl:=hw9.symm;clear hw9;go_wp2;go_ret;exact⟨rfl,HB7.out⟩
open Go.Proofs.YtajkmiialgiikaaGreatDoor.Opens in
theorem nil_row {W:World} {N:Nat} {v:Value} {k:Int} {s1 s2 s3:List UInt8} {b1 b2:Bool} {A:Option Addr} {c:Nat} {xs:List Value} {L:List EA} {C:Option Addr} {cc:Nat} {ys:List Value} {cs:List CH} (h:OpAt W N v k s1 s2 s3 b1 b2 A c xs L C cc ys cs) (hT:TM W) (hN:N<=1048576):
  Calls Tryz.prog 5 #[v] W fun e w'=>e=.returned (.bool true)/\Below W.heap.size W w':=by
 rw[h.is];exact nil_law k s1 s2 s3 b1 b2 L cs W A L.length c xs C cs.length cc ys ⟨Below.refl _ _,hT,h.has,h.attrs,h.has2,h.chgs⟩ h.cap.1 h.cap.2
  ⟨Nat.le_trans h.l1 hN,Nat.le_trans h.sm.len hN,fun a ha=>⟨Nat.le_trans (h.sm.each a ha).vals hN,fun u hu=>Nat.le_trans ((h.sm.each a ha).each u hu) hN⟩⟩
  (fun a ha=>Nat.le_trans (h.sm.each a ha).name hN) (by have:=h.sm3;omega) (fun a ha=>⟨Nat.le_trans (h.sm2.each a ha).vals hN,fun u hu=>Nat.le_trans ((h.sm2.each a ha).each u hu) hN⟩) (Nat.le_trans h.l2 hN) (Nat.le_trans h.l3 hN)
end Go.Proofs.YtajkmiialgiikaaGreatDoor
