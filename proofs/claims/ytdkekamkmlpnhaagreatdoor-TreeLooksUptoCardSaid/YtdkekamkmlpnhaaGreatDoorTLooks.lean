/- The statement on a tree's entries and children. By an AI agent. -/
import Derived.Test.YtdkekamkmlpnhaaGreatDoorG32
import Derived.Test.YtdkekamkmlpnhaaGreatDoorEY
import Derived.Test.YtdkekamkmlpnhaaGreatDoorEX
set_option linter.unusedSimpArgs false
set_option linter.unusedVariables false
set_option maxRecDepth 100000
set_option maxHeartbeats 32000000
namespace Go.Proofs.YtdkekamkmlpnhaaGreatDoor
open Go Go.RowKit
structure TellE (N:List EN) (nm:List UInt8) (w w':World) (S:ByteArray) (A:Option Addr) (k c:Nat) (b:Bool):Prop where
 out:Below w.heap.size w w'/\((∃(x:EN) (ys:List Value),x∈N/\(normT nm).2=0/\x.1=(normT nm).1/\S=txt x.1/\k=x.2.length/\b=true/\HasP w' (NewB w.heap.size w'.heap.size) 2 A x.2.length ys/\EAsP w' (NewB w.heap.size w'.heap.size) ys x.2)\/(S=⟨#[]⟩/\A=none/\k=0/\b=false/\∀x∈N,¬((normT nm).2=0/\x.1=(normT nm).1)))
theorem GetT.shape {N:List EN} {nm:List UInt8} {w w':World} {e:Ending} (h:GetT N nm w e w'):∃S A k c b,e=.returned (.tuple #[.agg #[.string S,.slice A k c],.bool b])/\TellE N nm w w' S A k c b:=by
 obtain⟨hb,h⟩:=h.out;rcases h with⟨x,A,c,ys,hx,hy,hxe,rfl,k1,k2,k3,k4⟩ | ⟨rfl,hno⟩
 ·exact ⟨_,_,_,_,_,rfl,⟨hb,.inl ⟨x,ys,hx,hy,hxe,rfl,rfl,rfl,k3,k4⟩⟩⟩
 ·exact ⟨_,_,_,_,_,rfl,⟨hb,.inr ⟨rfl,rfl,rfl,rfl,hno⟩⟩⟩
theorem zLg {N:List EN} {nm:List UInt8} {w w1 w3 w2:World} {S1 S2:ByteArray} {A1 A2:Option Addr} {k1 k2 c1 c2:Nat} {b1 b2:Bool} (hs:SortedP N) (hW:WideN N) (h1:TellE N nm w w1 S1 A1 k1 c1 b1) (hb13:Below w1.heap.size w1 w3) (h2:TellE N nm w3 w2 S2 A2 k2 c2 b2):
  S2=S1/\k2=k1/\b2=b1/\∀w',Below w2.heap.size w2 w'->Calls Tryz.prog 15 #[.agg #[.string S1,.slice A1 k1 c1],.agg #[.string S1,.slice A2 k1 c2]] w' fun e w4=>e=.returned (.bool true)/\Below w'.heap.size w' w4:=by
 obtain⟨hb1,h1⟩:=h1.out;obtain⟨hb2,h2⟩:=h2.out;rcases h1 with⟨x,ys,hx,hy,hxe,rfl,rfl,rfl,k3,k4⟩ | ⟨rfl,rfl,rfl,rfl,hno⟩
 ·rcases h2 with⟨x2,zs,hx2,hy2,hxe2,rfl,rfl,rfl,q3,q4⟩ | ⟨rfl,rfl,rfl,rfl,hno2⟩
  ·have hxx:x2=x:=hs.one hx2 hx (by rw[hxe,hxe2]);subst hxx;refine⟨rfl,rfl,rfl,fun w' hb=>?_⟩;have hm:x2.2.length<=maxLen:=by have:=(hW.2 x2 hx).2.1;unfold maxLen;omega
   have hbb:Below w1.heap.size w1 w':=hb13.trans ((hb2.trans (hb.mono hb2.size)).mono hb13.size);have h:=zDh x2 x2 w' A1 A2 c1 c2 ys zs (((k3.has (B:=w1.heap.size) fun b hb=>hb.2).below hbb).upto hbb.size) ((k4.eas (B:=w1.heap.size) fun b hb=>hb.2).grow hbb) (((q3.has (B:=w2.heap.size) fun b hb=>hb.2).below hb).upto hb.size) ((q4.eas (B:=w2.heap.size) fun b hb=>hb.2).grow hb) hm hm;rw[zAm rfl] at h;exact h
  ·exact absurd ⟨hy,hxe⟩ (hno2 x hx)
 ·rcases h2 with⟨x2,zs,hx2,hy2,hxe2,rfl,rfl,rfl,q3,q4⟩ | ⟨rfl,rfl,rfl,rfl,hno2⟩
  ·exact absurd ⟨hy2,hxe2⟩ (hno x2 hx2)
  ·refine ⟨rfl,rfl,rfl,fun w' hb=>?_⟩;have h:=zDh ([],[]) ([],[]) w' none none c1 c2 [] [] Has.nil ⟨rfl,fun i a h=>by simp at h⟩ Has.nil ⟨rfl,fun i a h=>by simp at h⟩ (by simp) (by simp);rw[zAm rfl] at h;exact h
theorem zN3 (L:List EN) (nm:List UInt8) (w:World) (A:Option Addr) (n c:Nat) (xs:List Value) (hA:Has w w.heap.size 2 A n xs) (hL:ENs w w.heap.size xs L) (hn:n<=1048576) (hb:∀e∈L,BulkN e) (hty:TypesN L) (hnm:nm.length<=1048576) (hT:TM w):
  Calls Tryz.prog 4 #[.slice A n c,.string (txt nm)] w fun e w'=>e=.returned (.bool true)/\Below w.heap.size w w':=by
 have HAw:=hide (fun w (hT:TM w)=>zFr w hT);obtain⟨s,hs⟩:∃s,decide (nW L<=3000)=s:=⟨_,rfl⟩;have HSm:Hid (∀w,Has w w.heap.size 2 A n xs->ENs w w.heap.size xs L->Calls Tryz.prog 7 #[.slice A n c] w fun e w'=>e=.returned (.bool s)/\w'=w):=hide (fun w hA hL=>by
  have:=zGp L w A n c xs hA hL hn hb
  rwa [hs] at this)
 have hsz:(txt nm).size=nm.length:=zAg nm;obtain⟨TN,hTN⟩:∃S,txt nm=S:=⟨_,rfl⟩;rw[hTN] at hsz ⊢;have HTN:=hide hTN;have Hs:=hide hs;have HA:=hide hA;have HL:=hide hL;have HT:=hide hT;have Hnl:=hide (hA.ens_n hL);have Hty:=hide hty;clear hs hA hL hT hn hb hty hTN;go_enter Tryz.func4,Tryz.ntmps4;go_wp2_with (go_at_call 6;fail);refine (HAw.out w HT.out).mono ?_;rintro e w2 ⟨rfl,hb2⟩;have HB2:=hide hb2;clear hb2;go_wp2_with (go_at_call 7;fail);refine (HSm.out w2 ((HA.out.below HB2.out).upto HB2.out.size) (HL.out.grow HB2.out)).mono ?_;rintro e w3 ⟨rfl,hw3⟩;obtain rfl:=hw3.symm;clear hw3 HSm;cases s with
 | false=>
  go_wp2_with (go_at_call 6;fail);refine (HAw.out w2 (HT.out.below HB2.out)).mono ?_;rintro e w4 ⟨rfl,hb4⟩;have HE:=hTz HB2 hb4;clear hb4 HAw Hs HA HL HT Hnl Hty HB2 HTN;go_wp2;go_ret;exact⟨rfl,HE.out⟩
 | true=>
  by_cases hlong:3000<nm.length
  ·have z3:(3000:Int)<(TN.size:Int):=by omega
   go_wp2_with (go_at_call 6;fail);refine (HAw.out w2 (HT.out.below HB2.out)).mono ?_;rintro e w4 ⟨rfl,hb4⟩;have HE:=hTz HB2 hb4;clear hb4 HAw Hs HA HL HT Hnl Hty HB2 HTN;go_wp2;go_ret;exact⟨rfl,HE.out⟩
  have z3:¬(3000:Int)<(TN.size:Int):=by omega
  have hsm:nW L<=3000:=of_decide_eq_true Hs.out;have hS:=zJe hsm;have hwe:WeeL L:=fun e he=>⟨by have:=hS.name e he;omega,by have:=hS.attrs e he;omega,fun a ha=>⟨Hty.out e he a ha,by have:=(hS.each e he a ha).1;omega,fun u hu=>by have:=(hS.each e he a ha).2 u hu;omega⟩⟩
  have hwd:WideN (sortN L):=⟨by have:=zF3 L;have:=hS.len;omega,fun e he=>by
   obtain⟨h1,h2,h3⟩:=hwe e (zBm he)
   exact⟨by omega,h2,fun a ha=>⟨(h3 a ha).1,(h3 a ha).2.1,fun u hu=>by have:=(h3 a ha).2.2 u hu;omega⟩⟩⟩
  have hn1:n<=100000:=by have:=hS.len;have:=Hnl.out;omega
  have hnm6:nm.length<=1000000:=by omega
  have HBg:=hide (zOe L w2 A n c xs ((HA.out.below HB2.out).upto HB2.out.size) (HL.out.grow HB2.out) hn1 hwe Hty.out (HT.out.below HB2.out));have Hwd:=hide hwd;have Hft:Hid (∀a∈sortN L,a.1.length<=900000/\a.2.length<=1000000/\∀b∈a.2,b.1.length<=1048576/\b.2.length<=1000000/\∀u∈b.2,u.length<=1000000):=hide fun e he=>hwe e (zBm he)
  have HT2:=hide (HT.out.below HB2.out);obtain⟨N,hNN⟩:∃N,sortN L=N:=⟨_,rfl⟩;rw[hNN] at Hwd Hft;have HNN:=hide hNN;clear hsm hS hwe hwd hn1 HAw Hs HA HL HT Hnl Hty hNN hlong;go_wp2_with (go_at_call 12;fail);refine HBg.out.mono ?_;rintro e w3 hp3;obtain⟨hb3,hp3⟩:=hp3.out;clear HBg;rcases hp3 with rfl | ⟨q,qr,A4,c4,ys4,rfl,hfm,hso,htr,k1,k2,k5,k6⟩
  ·have HE:=hTz HB2 hb3;clear hb3 HB2 Hwd Hft HNN HT2 HTN;go_wp2;go_ret;exact⟨rfl,HE.out⟩
  rw[HNN.out] at hfm hso htr k2 k5 k6;have hfit:FitN N:=⟨Hwd.out.1,fun e he=>by have h1:=@zF5 e.1;have h2:=(Hft.out e he).1;omega,fun e he=>⟨(Hft.out e he).2.1,fun a ha=>((Hft.out e he).2.2 a ha).2⟩⟩;have hT3:=HT2.out.below hb3;have HG1:Hid (Calls Tryz.prog 13 #[.pointer (some ⟨q,0,none⟩),.string TN] w3 (GetT N nm w3)):=hide (by
   have:=tget_any N nm w3 q htr hso hfit hfm Hwd.out hnm6 hT3
   rwa [HTN.out] at this)
  obtain⟨nn,hnn⟩:∃k,N.length=k:=⟨_,rfl⟩;rw[hnn] at k2 k5;have hnn6:nn<=100000:=by have:=Hwd.out.1;omega
  have HG2:Hid (∀w4,Below w3.heap.size w3 w4->Calls Tryz.prog 14 #[.pointer (some ⟨qr,0,none⟩),.string TN] w4 (GetT N nm w4)):=hide (fun w4 hb=>by
   have:=rget_any N nm w4 qr A4 nn c4 ys4 hnn hnn6 (Nat.lt_of_lt_of_le k1 hb.size) ((hb.cell (p:=⟨qr,0,none⟩) k1).trans k2) ((k5.below hb).upto hb.size) (k6.grow hb) (fun e he=>⟨(Hft.out e he).2.1,fun a ha=>((Hft.out e he).2.2 a ha).2.1⟩) hnm6 (hT3.below hb)
   rwa [HTN.out] at this)
  have HC1:Hid (∀w4,Below w3.heap.size w3 w4->Calls Tryz.prog 17 #[.pointer (some ⟨q,0,none⟩),.string TN] w4 (PathPost (kidsQ N nm) w4)):=hide (fun w4 hb=>by
   have:=zQk N nm w4 q (htr.grow hb) hfm Hwd.out hnm6 (hT3.below hb)
   rwa [HTN.out] at this)
  have HC2:Hid (∀w4,Below w3.heap.size w3 w4->Calls Tryz.prog 18 #[.pointer (some ⟨qr,0,none⟩),.string TN] w4 (PathPost (kidsQ N nm) w4)):=hide (fun w4 hb=>by
   have:=zS2 N nm w4 qr A4 nn c4 ys4 hnn hnn6 (Nat.lt_of_lt_of_le k1 hb.size) ((hb.cell (p:=⟨qr,0,none⟩) k1).trans k2) ((k5.below hb).upto hb.size) (k6.grow hb) hfm hnm6 (hT3.below hb)
   rwa [HTN.out] at this)
  have Hso:=hide (And.intro hso Hwd.out);have Hkl:Hid ((kidsQ N nm).length<=100000):=hide (by
   unfold kidsQ
   by_cases h:(normT nm).2=0
   ·rw [if_pos h]
    have:=zIj N (normT nm).1 N.length
    rw[List.take_of_length_le (Nat.le_refl _)] at this
    omega
   ·rw [if_neg h];simp)
  have HB3:=hTz HB2 hb3;have hsz3:=hide (HB2.out.size);clear hb3 hfm hso htr k1 k2 k5 k6 hfit hT3 hnn hnn6 hnm6 Hwd Hft HNN HT2 HB2 HTN hsz z3;generalize kidsQ N nm=KD at *;go_wp2_with (go_at_call 13;fail);refine HG1.out.mono ?_;rintro e1 w4 hg1;obtain⟨S1,A1,n1,c1,b1,rfl,ht1⟩:=hg1.shape;have hb4:=ht1.out.1;have HT1:=hide ht1;have HB4:=hide hb4;have hbx:=below1 w4 (.cells #[.string S1,.slice A1 n1 c1] 38);have hBx:Blk (w4.alloc (.cells #[.string S1,.slice A1 n1 c1] 38)) w4.heap.size [.string S1,.slice A1 n1 c1]:=Blk.new w4 [.string S1,.slice A1 n1 c1] 38;obtain⟨w5,hw5⟩:∃x,w4.alloc (.cells #[.string S1,.slice A1 n1 c1] 38)=x:=⟨_,rfl⟩;rw[hw5] at hbx hBx;have Hw5:=hide hw5;have Hbx:=hide hbx;have HBx:=hide hBx;have HB5:=hide (hb4.trans (hbx.mono hb4.size));clear hg1 ht1 hb4 hw5 hbx hBx HG1;go_upto_region 7 with fail;rw[Hw5.out];obtain⟨g1,hg1⟩:∃h,w4.heap.size=h:=⟨_,rfl⟩;have Hg1:=hide hg1;rw[hg1] at HBx;(try rw[hg1]);clear hg1 Hw5;go_wp2_with (go_at_call 14;fail);refine (HG2.out w5 HB5.out).mono ?_;rintro e2 w6 hg2;obtain⟨S2,A2,n2,c2,b2,rfl,ht2⟩:=hg2.shape;obtain⟨e1,e2,e3,hsame⟩:=zLg Hso.out.1 Hso.out.2 HT1.out Hbx.out ht2;subst e1 e2 e3;have hb6:=ht2.out.1;have HBy:=hide (HBx.out.grow hb6);have HB6:=hTz HB5 hb6;have hbz:=below1 w6 (.cells #[.string S2,.slice A2 n2 c2] 38);have hBz:Blk (w6.alloc (.cells #[.string S2,.slice A2 n2 c2] 38)) w6.heap.size [.string S2,.slice A2 n2 c2]:=Blk.new w6 [.string S2,.slice A2 n2 c2] 38;obtain⟨w7,hw7⟩:∃x,w6.alloc (.cells #[.string S2,.slice A2 n2 c2] 38)=x:=⟨_,rfl⟩;rw[hw7] at hbz hBz;have Hw7:=hide hw7;have HBz:=hide hBz;have HBy7:=hide (HBy.out.grow hbz);have HB7:=hTz HB6 hbz;have HSa:=hide (hsame w7 hbz);clear hg2 ht2 hb6 hw7 hbz hBz hsame HG2 HT1 HB4 Hbx HBx HBy HB5 HB6 Hso;go_upto_region 8 with fail;rw[Hw7.out];obtain⟨g2,hg2⟩:∃h,w6.heap.size=h:=⟨_,rfl⟩;rw[hg2] at HBz;(try rw[hg2]);clear hg2 Hw7 Hg1;have x0:=HBy7.out.cells 0 _ rfl;have x1:=HBy7.out.cells 1 _ rfl;have y0:=HBz.out.cells 0 _ rfl;have y1:=HBz.out.cells 1 _ rfl;clear HBy7 HBz;go_wp2_with (go_at_call 15;fail);refine HSa.out.mono ?_;rintro e w8 ⟨rfl,hb8⟩;have HB8:=hTz HB7 hb8;clear hb8 HB7 HSa x0 x1 y0 y1;go_wp2_with (go_at_call 17;fail);refine (HC1.out w8 HB8.out).mono ?_;rintro e w9 hp9;obtain⟨P9,d9,rfl,_,_,r9,hb9⟩:=hp9.out;have HB9:=hTz HB8 hb9;have HR9:=hide (r9.has (B:=w9.heap.size) fun b hb=>hb.2);clear hp9 r9 hb9 HB8 HC1;obtain⟨kd,hkd⟩:∃k,KD.length=k:=⟨_,rfl⟩;have Hkd:=hide hkd;rw[hkd] at HR9;(try rw[hkd]);clear hkd;go_wp2_with (go_at_call 18;fail);refine (HC2.out w9 HB9.out).mono ?_;rintro e wa hpa;obtain⟨Pa,da,rfl,_,_,ra,hba⟩:=hpa.out;have HBa:=hTz HB9 hba;have HST:Hid (Calls Tryz.prog 16 #[.slice P9 kd d9,.slice Pa kd da] wa fun e w'=>e=.returned (.bool true)/\Below wa.heap.size wa w'):=hide (zGw wa P9 Pa kd kd d9 da KD KD ((HR9.out.below hba).upto hba.size) (by have:=ra.has (B:=wa.heap.size) fun b hb=>hb.2;rwa [Hkd.out] at this) (by have:=Hkl.out;have:=Hkd.out;unfold maxLen;omega) true (by simp));rw[Hkd.out];clear hpa ra hba HB9 HR9 HC2 Hkd Hkl;go_wp2_with (go_at_call 16;fail);refine HST.out.mono ?_;rintro e wb ⟨rfl,hbb⟩;have HE:=hide (HB3.out.trans ((HBa.out.trans (hbb.mono HBa.out.size)).mono HB3.out.size));clear hbb HST HBa HB3 hsz3;go_wp2;go_ret;exact⟨rfl,HE.out⟩
theorem zOq (L:List EN) (S:ByteArray) (N:Nat) (w:World) (A:Option Addr) (n c:Nat) (xs:List Value) (hA:Has w w.heap.size 2 A n xs) (hL:ENs w w.heap.size xs L) (hn:n<=1048576) (hb:Opens.SmN N L) (hN:N<=1048576) (hs:S.data.toList.length<=1048576) (hT:TM w):
  Calls Tryz.prog 4 #[.slice A n c,.string S] w fun e w'=>e=.returned (.bool true)/\Below w.heap.size w w':=by
 have:=zN3 L S.data.toList w A n c xs hA hL hn (zPk hb hN) (zM4 hb hN) hs hT
 rwa [Opens.self_txtE] at this
end Go.Proofs.YtdkekamkmlpnhaaGreatDoor
