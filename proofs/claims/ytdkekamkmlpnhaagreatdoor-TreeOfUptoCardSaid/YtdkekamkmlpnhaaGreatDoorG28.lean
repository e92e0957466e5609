/- The reference's SameAll: two lists of entries. By an AI agent. -/
import Derived.Test.YtdkekamkmlpnhaaGreatDoorEY
import Derived.Test.YtdkekamkmlpnhaaGreatDoorG25
import Derived.Test.YtdkekamkmlpnhaaGreatDoorGrow
import Derived.Test.YtdkekamkmlpnhaaGreatDoorG26
import Derived.Test.YtdkekamkmlpnhaaGreatDoorG24
set_option linter.unusedSimpArgs false
set_option linter.unusedVariables false
set_option maxRecDepth 100000
set_option maxHeartbeats 32000000
namespace Go.Proofs.YtdkekamkmlpnhaaGreatDoor
open Go.RowKit
theorem zKg (L M:List EN) (w:World) (A A':Option Addr) (n n' c c':Nat) (xs ys:List Value) (hA:Has w w.heap.size 2 A n xs) (hL:ENs w w.heap.size xs L) (hA':Has w w.heap.size 2 A' n' ys) (hM:ENs w w.heap.size ys M) (hn:n<=maxLen) (hn':n'<=maxLen):
  Calls Tryz.prog 38 #[.slice A n c,.slice A' n' c'] w fun e w'=>e=.returned (.bool (Tr (L=M)))/\Below w.heap.size w w':=by
 have h1:=hA.ens_n hL;have h2:=hA'.ens_n hM;obtain⟨b,hb⟩:∃b,Tr (L=M)=b:=⟨_,rfl⟩;rw[hb];unfold maxLen at hn hn';have hni:(n:Int)<=9223372036854775807:=by omega
 have hni':(n':Int)<=9223372036854775807:=by omega
 by_cases hnn:n=n'
 ·subst hnn;have HA:=hide (And.intro hA hL);have HA':=hide (And.intro hA' hM);have H1:=hide h1;have H2:=hide h2;have Hb:=hide hb;clear hA hL hA' hM h1 h2 hb;go_enter Tryz.func38,Tryz.ntmps38;go_wp2
  go_loopg [13] n (fun r s13 wx=>∃i:Nat,i+r=n/\s13=.int .i64 (i:Int)/\Hid (L.take i=M.take i)/\Hid (Below w.heap.size w wx))
  case atStart=>exact⟨0,by omega,rfl,hide rfl,hide (Below.refl _ _)⟩
  case round=>
   obtain⟨i,hig,rfl,hpre,hbr⟩:=hrel;cases gk with
   | zero=>
    obtain rfl:i=n:=by omega
    have hiz:¬((i:Int)<(i:Int)):=by omega
    have hbt:Hid (b=true):=hide (by
     rw[<-Hb.out]
     refine zAm ?_
     have:=hpre.out
     rwa [List.take_of_length_le (by rw[<-H1.out];exact Nat.le_refl _),List.take_of_length_le (by rw[<-H2.out];exact Nat.le_refl _)] at this)
    clear HA HA' H1 H2 hpre Hb;go_wp2;go_ret;exact⟨by rw[hbt.out];rfl,hbr.out⟩
   | succ r=>
    have hi:i<n:=(by omega);have hiz:(i:Int)<(n:Int):=(by omega);obtain⟨e,he⟩:∃e,L[i]?=some e:=⟨_,List.getElem?_eq_getElem (by rw[<-H1.out];exact hi)⟩;obtain⟨f,hf⟩:∃f,M[i]?=some f:=⟨_,List.getElem?_eq_getElem (by rw[<-H2.out];exact hi)⟩;obtain⟨g,o,hAe,hg,hat⟩:=HA.out.1.en HA.out.2 (fun h=>by rw[h] at he;simp at he);obtain⟨g',o',hAe',hg',hat'⟩:=HA'.out.1.en HA'.out.2 (fun h=>by rw[h] at hf;simp at hf);subst hAe hAe';obtain⟨U,cu,us,hat⟩:=hat i e he;obtain⟨U',cu',us',hat'⟩:=hat' i f hf;have hbd:Below w.heap.size w wr.drew:=hbr.out.drew;have X0:Hid (∀W,Below wr.drew.heap.size wr.drew W->W.cell? ⟨g,o+i*2,none⟩=some (.string (txt e.1))/\W.cell? ⟨g,o+i*2+1,none⟩=some (.slice U e.2.length cu)/\W.cell? ⟨g',o'+i*2,none⟩=some (.string (txt f.1))/\W.cell? ⟨g',o'+i*2+1,none⟩=some (.slice U' f.2.length cu')):=hide fun W hW=>by
     have h2:=hbd.trans (hW.mono hbd.size);exact⟨(h2.cell (p:=⟨g,o+i*2,none⟩) hg).trans hat.e0,(h2.cell (p:=⟨g,o+i*2+1,none⟩) hg).trans hat.e1,(h2.cell (p:=⟨g',o'+i*2,none⟩) hg').trans hat'.e0,(h2.cell (p:=⟨g',o'+i*2+1,none⟩) hg').trans hat'.e1⟩
    have HCl:Hid (∀W,Below wr.drew.heap.size wr.drew W->Calls Tryz.prog 15 #[.agg #[.string (txt e.1),.slice U e.2.length cu],.agg #[.string (txt f.1),.slice U' f.2.length cu']] W fun e' w'=>e'=.returned (.bool (Tr (e=f)))/\Below W.heap.size W w'):=hide fun W hW=>by
     have h2:=hbd.trans (hW.mono hbd.size);exact zDh e f W U U' cu cu' us us' ((hat.has.below h2).upto h2.size) ((hat.attrs.below h2).upto h2.size) ((hat'.has.below h2).upto h2.size) ((hat'.attrs.below h2).upto h2.size) (Nat.le_trans hat.cap hat.most) (Nat.le_trans hat'.cap hat'.most)
    have HBd:=hide hbd;have HYes:Hid (Tr (e=f)=true->Hid (L.take (i+1)=M.take (i+1))):=hide fun h=>hide (by rw[List.take_add_one,List.take_add_one,hpre.out,he,hf,Tr_iff.1 h])
    have HNo:Hid (Tr (e=f)=false->Hid (b=false)):=hide fun h=>hide (by
     rw[<-Hb.out]
     refine zAp fun hh=>?_
     rw[hh,hf] at he
     rw[zAm (Option.some.inj he).symm] at h
     cases h)
    clear HA HA' H1 H2 hpre Hb he hf hat hat' hbd hbr;generalize Tr (e=f)=d at *;generalize txt e.1=S1 at *;generalize txt f.1=S2 at *;generalize e.2.length=k1 at *;generalize f.2.length=k2 at *;cases d with
    | true=>
     go_wp2_with fail;refine zAq (by kernel_rfl) ?_;generalize wr.drew=wd at *;refine yTk 0 (some 16) ?_;(try simp only[pUz]);refine yTk 1 (some 17) ?_;(try simp only[pUz]);refine yTk 2 (some 18) ?_;(try simp only[pUz]);refine zAa 3 (some 19) (v:=?va3) rfl rfl (by kernel_rfl) rfl (by rfl) (fun W hW=>?ya3) ?_
     case ya3=>obtain⟨k0,k1,_,_⟩:=X0.out W hW;go_simp<;>with_reducible rfl
     (try simp only[pUz]);refine yTk 4 (some 20) ?_;(try simp only[pUz]);refine yTk 5 (some 21) ?_;(try simp only[pUz]);refine yTk 6 (some 22) ?_;(try simp only[pUz]);refine zAa 7 (some 23) (v:=?va7) rfl rfl (by kernel_rfl) rfl (by rfl) (fun W hW=>?ya7) ?_
     case ya7=>obtain⟨_,_,k2,k3⟩:=X0.out W hW;go_simp<;>with_reducible rfl
     (try simp only[pUz]);refine zAe 8 rfl (by kernel_rfl) (fun K hK=>?_);go_simp;refine (HCl.out _ (Below.refl _ _)).mono ?_;rintro e w6 ⟨rfl,hb6⟩;refine hK.out _ _ hb6 ?_;have HB6:=hTz HBd hb6;clear hK K hb6 HBd HCl;(try simp only[pUz]);refine yTk 9 (some 25) ?_;(try simp only[pUz]);refine zAi (by kernel_rfl) ?_ _;go_wp2
     go_roundg r
     case measure=>omega
     case rel=>exact⟨i+1,by omega,by go_num,HYes.out (by first | rfl | trivial),HB6⟩
    | false=>
     go_wp2_with fail;refine zAq (by kernel_rfl) ?_;generalize wr.drew=wd at *;refine yTk 0 (some 16) ?_;(try simp only[pUz]);refine yTk 1 (some 17) ?_;(try simp only[pUz]);refine yTk 2 (some 18) ?_;(try simp only[pUz]);refine zAa 3 (some 19) (v:=?vb3) rfl rfl (by kernel_rfl) rfl (by rfl) (fun W hW=>?yb3) ?_
     case yb3=>obtain⟨k0,k1,_,_⟩:=X0.out W hW;go_simp<;>with_reducible rfl
     (try simp only[pUz]);refine yTk 4 (some 20) ?_;(try simp only[pUz]);refine yTk 5 (some 21) ?_;(try simp only[pUz]);refine yTk 6 (some 22) ?_;(try simp only[pUz]);refine zAa 7 (some 23) (v:=?vb7) rfl rfl (by kernel_rfl) rfl (by rfl) (fun W hW=>?yb7) ?_
     case yb7=>obtain⟨_,_,k2,k3⟩:=X0.out W hW;go_simp<;>with_reducible rfl
     (try simp only[pUz]);refine zAe 8 rfl (by kernel_rfl) (fun K hK=>?_);go_simp;refine (HCl.out _ (Below.refl _ _)).mono ?_;rintro e w6 ⟨rfl,hb6⟩;refine hK.out _ _ hb6 ?_;have HB6:=hTz HBd hb6;clear hK K hb6 HBd HCl;(try simp only[pUz]);refine yTk 9 (some 25) ?_;(try simp only[pUz]);refine zAi (by kernel_rfl) ?_ _;have hbf:=HNo.out (by first | rfl | trivial);clear HYes HNo;go_wp2;go_ret;exact⟨by rw[hbf.out];rfl,HB6.out⟩
 ·have z1:((n:Int)==(n':Int))=false:=beq_false_of_ne (by omega);have z2:((n:Int)!=(n':Int))=true:=by unfold bne;rw[z1];rfl
  obtain rfl:b=false:=by rw[<-hb];exact zAp fun h=>hnn (by rw[h1,h2,h])
  clear hA hL hA' hM h1 h2 hb hnn hn hn';go_enter Tryz.func38,Tryz.ntmps38;go_wp2;go_ret;exact⟨rfl,Below.refl _ _⟩
end Go.Proofs.YtdkekamkmlpnhaaGreatDoor
namespace Go.Proofs.YtdkekamkmlpnhaaGreatDoor
open Go Go.RowKit
theorem ENsP.eas_all {w:World} {P:Nat->Prop} {B:Nat} {xs:List Value} {L:List EN} (h:ENsP w P xs L) (hP:∀b,P b->b<B):ENs w B xs L:=h.ens hP
theorem zJq (N:List EN) (w:World) (q qr:Nat) (A:Option Addr) (c:Nat) (ys:List Value) (hR:TreeR w q N) (hW:WideN N) (hq:qr<w.heap.size) (hc:w.cell? ⟨qr,0,none⟩=some (.slice A N.length c)) (hA:Has w w.heap.size 2 A N.length ys) (hL:ENs w w.heap.size ys N):
  Calls Tryz.prog 10 #[.pointer (some ⟨q,0,none⟩),.pointer (some ⟨qr,0,none⟩)] w fun e w'=>e=.returned (.bool true)/\Below w.heap.size w w':=by
 have hdr:Below w.heap.size w w.drew:=(Below.refl _ _).drew;have HD:=hide hdr;have HRd:=hide (hR.grow hdr);have HW:=hide hW;obtain⟨n,hn⟩:∃n,N.length=n:=⟨_,rfl⟩;have Hn:=hide hn;rw[hn] at hc;have HS:Hid (∀w4 A4 c4 ys4,Below w.drew.heap.size w.drew w4->Has w4 w4.heap.size 2 A4 N.length ys4->ENs w4 w4.heap.size ys4 N->Calls Tryz.prog 38 #[.slice A4 n c4,.slice A n c] w4 fun e w'=>e=.returned (.bool true)/\Below w4.heap.size w4 w'):=hide (fun w4 A4 c4 ys4 hb h4 he4=>by
  have hbb:=hdr.trans (hb.mono hdr.size)
  have:=zKg N N w4 A4 A N.length N.length c4 c ys4 ys h4 he4 ((hA.below hbb).upto hbb.size) (hL.grow hbb) (by have:=hW.1;unfold maxLen;omega) (by have:=hW.1;unfold maxLen;omega)
  rw[zAm rfl,hn] at this
  exact this)
 have X0:Hid (∀W,upBut none w.drew W->W.cell? ⟨qr,0,none⟩=some (.slice A n c)):=hide fun W hW=>(hW.cell (p:=⟨qr,0,none⟩) (Nat.lt_of_lt_of_le hq hdr.size) (by simp)).trans ((hdr.cell (p:=⟨qr,0,none⟩) hq).trans hc)
 have Hq:Hid (qr<w.drew.heap.size):=hide (Nat.lt_of_lt_of_le hq hdr.size);clear hdr hR hW hq hc hA hL hn;go_enter Tryz.func10,Tryz.ntmps10;go_upto_region 1 with fail;refine zB2 none (by kernel_rfl) ?_;generalize w.drew=wd at *;refine yTk 0 (some 5) ?_;(try simp only[pUz]);refine yTk 2 (some 7) ?_;(try simp only[pUz]);refine yTk 3 (some 8) ?_;(try simp only[pUz]);refine yTk 4 (some 9) ?_;(try simp only[pUz]);refine zAa 5 (some 10) (v:=?va5) rfl rfl (by kernel_rfl) rfl (by rfl) (fun W hW=>?ya5) ?_
 case ya5=>have k0:=X0.out W hW;go_simp<;>with_reducible rfl
 (try simp only[pUz]);refine zAe 1 rfl (by kernel_rfl) (fun K hK=>?_);go_simp;refine (tall_any N wd q HRd.out HW.out).mono ?_;rintro e w4 hpost;obtain⟨A4,c4,ys4,rfl,k1,k2,h4,he4,hb4⟩:=hpost.out;refine hK.out _ _ (zB0 none hb4) ?_;rw[Hn.out];have HP4:=hide (And.intro (h4.has fun b hb=>hb.2) (And.intro (he4.eas_all fun b hb=>hb.2) hb4));clear hK K hpost k1 k2 h4 he4 hb4;(try simp only[pUz]);refine zAe 6 rfl (by kernel_rfl) (fun K hK=>?_);go_simp;refine (HS.out w4 A4 c4 ys4 HP4.out.2.2 HP4.out.1 HP4.out.2.1).mono ?_;rintro e w5 ⟨rfl,hb5⟩;refine hK.out _ _ (zB0 none hb5) ?_;have HR5:=hide ((HRd.out.grow HP4.out.2.2).grow hb5);have HB5:=hide (HP4.out.2.2.trans (hb5.mono HP4.out.2.2.size));clear hK K hb5;(try simp only[pUz]);refine yTk 7 (some 12) ?_;(try simp only[pUz]);refine yTk 8 (some 13) ?_;(try simp only[pUz]);refine yTk 10 (some 15) ?_;(try simp only[pUz]);refine yTk 11 (some 16) ?_;(try simp only[pUz]);refine yTk 12 (some 17) ?_;(try simp only[pUz]);refine zAa 13 (some 18) (v:=?va13) rfl rfl (by kernel_rfl) rfl (by rfl) (fun W hW=>?ya13) ?_
 case ya13=>have k0:=(hW.cell (p:=⟨qr,0,none⟩) (Nat.lt_of_lt_of_le Hq.out HB5.out.size) (by simp)).trans (X0.out w5 (zB0 none HB5.out));go_simp<;>with_reducible rfl
 (try simp only[pUz]);refine yTk 14 (some 19) ?_;(try simp only[pUz]);refine zAe 9 rfl (by kernel_rfl) (fun K hK=>?_);go_simp;refine (tlen_any N w5 q HR5.out).mono ?_;rintro e w6 ⟨rfl,hw6⟩;obtain rfl:=hw6.symm;refine hK.out _ _ (zB0 none (Below.refl _ _)) ?_;rw[Hn.out];clear hK K hw6;(try simp only[pUz]);refine yTk 15 (some 20) ?_;(try simp only[pUz]);refine yTk 16 (some 21) ?_;(try simp only[pUz]);refine yTk 17 (some 4) ?_;(try simp only[pUz]);refine zAi (by kernel_rfl) ?_ _;have HE:=hide (HD.out.trans (HB5.out.mono HD.out.size));clear HRd HP4 HR5 HB5 HD X0 HS;go_wp2;go_ret;exact⟨rfl,HE.out⟩
end Go.Proofs.YtdkekamkmlpnhaaGreatDoor
namespace Go.Proofs.YtdkekamkmlpnhaaGreatDoor
open Go Go.RowKit
theorem tof_law (L:List EN) (w:World) (A:Option Addr) (n c:Nat) (xs:List Value) (hA:Has w w.heap.size 2 A n xs) (hL:ENs w w.heap.size xs L) (hn:n<=1048576) (hb:∀e∈L,BulkN e) (hty:TypesN L) (hT:TM w):
  Calls Tryz.prog 3 #[.slice A n c] w fun e w'=>e=.returned (.bool true)/\Below w.heap.size w w':=by
 have HAw:=hide (fun w (hT:TM w)=>zFr w hT);obtain⟨s,hs⟩:∃s,decide (nW L<=3000)=s:=⟨_,rfl⟩;have HSm:Hid (∀w,Has w w.heap.size 2 A n xs->ENs w w.heap.size xs L->Calls Tryz.prog 7 #[.slice A n c] w fun e w'=>e=.returned (.bool s)/\w'=w):=hide (fun w hA hL=>by
  have:=zGp L w A n c xs hA hL hn hb
  rwa [hs] at this)
 have Hs:=hide hs;have HA:=hide hA;have HL:=hide hL;have HT:=hide hT;have Hnl:=hide (hA.ens_n hL);have Hty:=hide hty;clear hs hA hL hT hn hb hty;go_enter Tryz.func3,Tryz.ntmps3;go_wp2_with (go_at_call 6;fail);refine (HAw.out w HT.out).mono ?_;rintro e w2 ⟨rfl,hb2⟩;have HB2:=hide hb2;clear hb2;go_wp2_with (go_at_call 7;fail);refine (HSm.out w2 ((HA.out.below HB2.out).upto HB2.out.size) (HL.out.grow HB2.out)).mono ?_;rintro e w3 ⟨rfl,hw3⟩;obtain rfl:=hw3.symm;clear hw3 HSm;cases s with
 | false=>
  go_wp2_with (go_at_call 6;fail);refine (HAw.out w2 (HT.out.below HB2.out)).mono ?_;rintro e w4 ⟨rfl,hb4⟩;have HE:=hTz HB2 hb4;clear hb4 HAw Hs HA HL HT Hnl Hty HB2;go_wp2;go_ret;exact⟨rfl,HE.out⟩
 | true=>
  have hsm:nW L<=3000:=of_decide_eq_true Hs.out;have hS:=zJe hsm;have hwe:∀e∈L,e.1.length<=900000/\e.2.length<=1000000/\∀a∈e.2,a.1.length<=1048576/\a.2.length<=1000000/\∀u∈a.2,u.length<=1000000:=fun e he=>⟨by have:=hS.name e he;omega,by have:=hS.attrs e he;omega,fun a ha=>⟨Hty.out e he a ha,by have:=(hS.each e he a ha).1;omega,fun u hu=>by have:=(hS.each e he a ha).2 u hu;omega⟩⟩
  have hwd:WideN (sortN L):=⟨by have:=zF3 L;have:=hS.len;omega,fun e he=>by
   obtain⟨h1,h2,h3⟩:=hwe e (zBm he)
   exact⟨by omega,h2,fun a ha=>⟨(h3 a ha).1,(h3 a ha).2.1,fun u hu=>by have:=(h3 a ha).2.2 u hu;omega⟩⟩⟩
  have hn1:n<=100000:=by have:=hS.len;have:=Hnl.out;omega
  have HOf:=hide (zRe L w2 A n c xs ((HA.out.below HB2.out).upto HB2.out.size) (HL.out.grow HB2.out) hn1 hwe (HT.out.below HB2.out));have HRf:Hid (∀w3,Below w2.heap.size w2 w3->Calls Tryz.prog 9 #[.slice A n c] w3 (TreePostX L w3)):=hide (fun w3 hb3=>by
   have hb:=HB2.out.trans (hb3.mono HB2.out.size)
   exact zNt L w3 A n c xs ((HA.out.below hb).upto hb.size) (HL.out.grow hb) hn1 (fun e he=>⟨by have:=(hwe e he).1;omega,(hwe e he).2.1,fun a ha=>((hwe e he).2.2 a ha).2⟩) Hty.out (HT.out.below hb))
  have Hwd:=hide hwd;have Hnm:Hid (∀e∈sortN L,e.1.length<=900000):=hide fun e he=>(hwe e (zBm he)).1
  clear hsm hS hwe hwd hn1 HAw Hs HA HL HT Hnl Hty;go_wp2_with (go_at_call 8;fail);refine HOf.out.mono ?_;rintro e w3 hp3;obtain⟨hb3,hp3⟩:=hp3.out;have HB3:=hide hb3;clear HOf;rcases hp3 with⟨rfl,hbad⟩ | ⟨q,M,rfl,hgood,htree⟩
  ·have hno:=bad_no hbad;go_wp2_with (go_at_call 9;fail);refine (HRf.out w3 HB3.out).mono ?_;rintro e w4 hp4;obtain⟨p,y,rfl,hp4,hb4⟩:=hp4.out;rcases hp4 with⟨rfl,rfl,_⟩ | ⟨_,hok,_⟩
   ·have HE:=hide (HB2.out.trans ((HB3.out.trans (hb4.mono HB3.out.size)).mono HB2.out.size));clear hb4 hb3 hbad hno HRf Hwd Hnm HB3 HB2;go_wp2;go_ret;exact⟨rfl,HE.out⟩
   ·exact absurd hok hno
  ·obtain ⟨hok,rfl⟩:=zPl hgood;have Htree:=hide htree;have Hfm:Hid (∀e∈sortN L,FormedE e.1 e.2):=hide fun e he=>hok.formed e (zBm he)
   have Hok:=hide hok;clear hgood htree hok hb3;go_wp2_with (go_at_call 9;fail);refine (HRf.out w3 HB3.out).mono ?_;rintro e w4 hp4;obtain⟨p,y,rfl,hp4,hb4⟩:=hp4.out;rcases hp4 with⟨_,_,hno⟩ | ⟨rfl,_,qr,A4,c4,ys4,rfl,k1,k2,k3,k4,k5,k6⟩
   ·exact absurd Hok.out hno
   have HB4:=hTz HB3 hb4;have Ht4:=hide (Htree.out.grow hb4);have HQ:=hide (And.intro k1 (And.intro k2 (And.intro k5 k6)));have HS1:=hide (zJq (sortN L) w4 q qr A4 c4 ys4 Ht4.out Hwd.out k1 k2 k5 k6);clear hp4 hb4 k1 k2 k3 k4 k5 k6 HRf Htree Hok HB3;go_wp2_with (go_at_call 10;fail);refine HS1.out.mono ?_;rintro e w5 ⟨rfl,hb5⟩;have HB5:=hTz HB4 hb5;have HC:=hide (zPj (sortN L) w5 q (Ht4.out.grow hb5) Hwd.out Hfm.out Hnm.out);have HQ5:Hid (qr<w5.heap.size/\w5.cell? ⟨qr,0,none⟩=some (.slice A4 (sortN L).length c4)/\Has w5 w5.heap.size 2 A4 (sortN L).length ys4/\ENs w5 w5.heap.size ys4 (sortN L)):=hide (by
    obtain⟨k1,k2,k5,k6⟩:=HQ.out
    exact⟨Nat.lt_of_lt_of_le k1 hb5.size,(hb5.cell (p:=⟨qr,0,none⟩) k1).trans k2,(k5.below hb5).upto hb5.size,k6.grow hb5⟩)
   clear hb5 HS1 HQ HB4 Ht4;go_wp2_with (go_at_call 11;fail);refine HC.out.mono ?_;rintro e w6 hp6;obtain⟨q6,rfl,ht6,_,hb6⟩:=hp6.out;have HB6:=hTz HB5 hb6;have HS2:Hid (Calls Tryz.prog 10 #[.pointer (some ⟨q6,0,none⟩),.pointer (some ⟨qr,0,none⟩)] w6 fun e w'=>e=.returned (.bool true)/\Below w6.heap.size w6 w'):=hide (by
    obtain⟨k1,k2,k5,k6⟩:=HQ5.out
    exact zJq (sortN L) w6 q6 qr A4 c4 ys4 (ht6.read fun b hb=>hb.2) Hwd.out (Nat.lt_of_lt_of_le k1 hb6.size) ((hb6.cell (p:=⟨qr,0,none⟩) k1).trans k2) ((k5.below hb6).upto hb6.size) (k6.grow hb6))
   clear hp6 ht6 hb6 HC HQ5 HB5;go_wp2_with (go_at_call 10;fail);refine HS2.out.mono ?_;rintro e w7 ⟨rfl,hb7⟩;have HE:=hide (HB2.out.trans ((HB6.out.trans (hb7.mono HB6.out.size)).mono HB2.out.size));clear hb7 HS2 HB6 HB2;go_wp2;go_ret;exact⟨rfl,HE.out⟩
theorem tof_row (L:List EN) (N:Nat) (w:World) (A:Option Addr) (n c:Nat) (xs:List Value) (hA:Has w w.heap.size 2 A n xs) (hL:ENs w w.heap.size xs L) (hn:n<=1048576) (hb:Opens.SmN N L) (hN:N<=1048576) (hT:TM w):
  Calls Tryz.prog 3 #[.slice A n c] w fun e w'=>e=.returned (.bool true)/\Below w.heap.size w w':=
 tof_law L w A n c xs hA hL hn (zPk hb hN) (zM4 hb hN) hT
end Go.Proofs.YtdkekamkmlpnhaaGreatDoor
