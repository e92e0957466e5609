/- The program's takePart and leavePart: what a name's first part says comes into the draft, or goes. By an AI agent. -/
import Derived.Test.YtnccdnfkhohobaaGreatDoorDRenMath
import Derived.Test.YtnccdnfkhohobaaGreatDoorDContP
import Derived.Test.YtnccdnfkhohobaaGreatDoorDP
import Derived.Test.YtnccdnfkhohobaaGreatDoorDZ
set_option linter.unusedSimpArgs false
set_option linter.unusedVariables false
set_option maxRecDepth 100000
set_option maxHeartbeats 32000000
namespace Go.Proofs.YtnccdnfkhohobaaGreatDoor
open Go Go.RowKit
structure PartD (w:World) (B d k:Nat) (G:List EA) (e:Ending) (w':World):Prop where
 end_:e=.returned (.tuple #[])
 draft:∃nx,nx<=k/\Draft w' B d nx G
 below:Below B w w'
structure RowP (w:World) (d:Nat) (A:Option Addr) (P:List P2):Prop where
 out:P=[]\/∃g o,A=some ⟨g,o,none⟩/\g<w.heap.size/\g≠d/\Reads w g o P
theorem RowP.keep {w w':World} {d:Nat} {A:Option Addr} {P:List P2} (h:RowP w d A P) (hk:KeptC d w w'):RowP w' d A P:=by
 rcases h.out with h | ⟨g,o,h1,h2,h3,h4⟩
 ·exact ⟨.inl h⟩
 ·exact ⟨.inr ⟨g,o,h1,Nat.lt_of_lt_of_le h2 hk.size,h3,⟨fun i a ha=>hk.cell h3 (h4.fst i a ha),fun i a ha=>hk.cell h3 (h4.snd i a ha)⟩⟩⟩
theorem RowP.of {w w0:World} {d:Nat} {A:Option Addr} {P:List P2} (hH:Has w w.heap.size 2 A P.length (prs P)) (hl:P=[]\/∀ad,A=some ad->w0.heap.size<=ad.block) (hd:d<w0.heap.size):RowP w d A P:=by
 by_cases hP:P=[]
 ·exact ⟨.inl hP⟩
 ·obtain ⟨g,o,rfl,hg,hr⟩:=hH.reads hP;refine⟨.inr ⟨g,o,rfl,hg,?_,hr⟩⟩;rcases hl with h | h
  ·exact absurd h hP
  ·have:=h _ rfl;simp only at this;omega
theorem zJ9 {w:World} {B g o:Nat} {P:List P2} (hg:g<B) (hr:Reads w g o P):Has w B 2 (some ⟨g,o,none⟩) P.length (prs P):=by
 refine⟨zA0 P,.inr ⟨_,rfl,hg,fun j u hu=>?_⟩⟩;have hj:j<P.length*2:=by
  have:=(List.getElem?_eq_some_iff.1 hu).1;rw[zA0] at this;exact this
 obtain⟨a,ha⟩:∃a,P[j/2]?=some a:=⟨_,List.getElem?_eq_getElem (by omega)⟩;rw[show (⟨g,o,none⟩:Addr).add j=⟨g,o+j,none⟩ by unfold Addr.add;split<;>simp_all];obtain⟨h1,h2⟩:=zHc P (j/2) a ha;have hm:j % 2=0\/j % 2=1:=by omega
 rcases hm with e | e
 ·rw [show j/2*2=j by omega,hu] at h1;have:=hr.fst (j/2) a ha;rw[show o+j/2*2=o+j by omega] at this;rw[Option.some.inj h1];exact this
 ·rw [show j/2*2+1=j by omega,hu] at h2;have:=hr.snd (j/2) a ha;rw[show o+j/2*2+1=o+j by omega] at this;rw[Option.some.inj h2];exact this
theorem draft_rf {w:World} {B d nx:Nat} {L:List EA} (h:Draft w B d nx L):RF L:=by
 obtain⟨bt,T,_,hP,_⟩:=h.out;exact⟨hP.rise,hP.full⟩
theorem Draft.ltd {w:World} {B d nx:Nat} {L:List EA} (h:Draft w B d nx L):d<w.heap.size/\B<=d:=by
 obtain⟨bt,T,hM,_⟩:=h.out;exact⟨hM.ltd,hM.newd⟩
theorem zEh:∀(ps:List P2) (L:List EA) (q:P2),takeL L (ps++[q])=take1 (takeL L ps) q
 | [],L,q=>by simp[takeL]
 | p::r,L,q=>by rw[List.cons_append,takeL,takeL,zEh r]
theorem zDm (K:List P2):∀(ps:List P2) (L:List EA) (q:P2),leaveL K L (ps++[q])=leave1 K (leaveL K L ps) q
 | [],L,q=>by simp[leaveL]
 | p::r,L,q=>by rw[List.cons_append,leaveL,leaveL,zDm K r]
theorem zGz {q:P2} (h:PairOk q):q.1.length<=1000000/\q.2.length<=1000000/\(norm q.1 q.2).1.length<=1000000:=by
 have h1:=h.small;have h2:=zB1 h;refine⟨by omega,by omega,?_⟩;have h3:=zM7 q.1 q.2;omega
theorem zJi {B d nx:Nat} {L:List EA} (w:World) (h:Draft w B d nx L) (tn:List UInt8) (hto:tn.length<=1000000) (hT:∀w',Below B w w'->TM w') (hnx:nx<=999999000):
  Calls Tryz.prog 14 #[.pointer (some ⟨d,0,none⟩),.string (txt tn)] w (PartD w B d (nx+3) (takeL L (pairsE tn))):=by
 have hB:B<=w.heap.size:=by have:=h.ltd;omega
 have hF:=zD6 tn hto w (hT w (Below.refl _ _));have hok:=zBo tn;have hln:=zBu tn;obtain⟨P,hP⟩:∃P,pairsE tn=P:=⟨_,rfl⟩;rw[hP] at hF hok hln ⊢;obtain⟨m,hm⟩:∃m,P.length=m:=⟨_,rfl⟩;have Hm:=hide hm;have HF:=hide hF;have Hok:=hide hok;have HD:=hide h;have HT:=hide hT;have HB:=hide hB;have hm3:m<=3:=by rw[<-hm];exact hln
 have Hln:=hide hln;clear h hT hF hok hP hm hB hln;generalize txt tn=S at *;go_enter Tryz.func14,Tryz.ntmps14;go_wp2_with (go_at_call 37;fail);refine HF.out.mono ?_;rintro e w2 hpost;obtain⟨A,c,rfl,hH,hb2,hlow⟩:=hpost.out;have HR2:=hide (RowP.of hH hlow HD.out.ltd.1);have HD2:=hide (HD.out.grow hb2);have HB2:=hide (hb2.mono HB.out);rw[Hm.out];clear hpost hH hb2 hlow HF HD;go_wp2
 go_loopg [11] m (fun r s11 wx=>∃i:Nat,i+r=m/\s11=.int .i64 (i:Int)/\Hid (∃j,j<=nx+i/\Draft wx B d j (takeL L (P.take i)))/\Hid (RowP wx d A P)/\Hid (Below B w wx))
 case atStart=>exact⟨0,by omega,rfl,hide ⟨nx,Nat.le_refl _,by rw[List.take_zero,takeL];exact HD2.out⟩,HR2,HB2⟩
 case round=>
  obtain⟨i,hig,rfl,hD,hR,hbr⟩:=hrel;clear HD2 HR2 HB2;cases gk with
  | zero=>
   obtain rfl:i=m:=by omega
   have hiz:¬((i:Int)<(i:Int)):=by omega
   have htk:P.take i=P:=List.take_of_length_le (by rw[Hm.out];exact Nat.le_refl _);have hDe:=hD.out;rw[htk] at hDe;have HDe:Hid (∃j,j<=nx+3/\Draft wr B d j (takeL L P)):=hide (by
    obtain⟨j,h1,h2⟩:=hDe
    have:=Hln.out
    have:=Hm.out
    exact⟨j,by omega,h2⟩)
   clear hDe htk hD hR;go_wp2
   go_end0
   exact⟨rfl,HDe.out,hbr.out⟩
  | succ r=>
   have hi:i<m:=by omega
   have hiz:(i:Int)<(m:Int):=by omega
   obtain⟨q,hq⟩:∃q,P[i]?=some q:=⟨_,List.getElem?_eq_getElem (by rw[Hm.out];exact hi)⟩;have hqo:=Hok.out q (List.mem_of_getElem? hq);have htk:P.take (i+1)=P.take i++[q]:=by rw[List.take_add_one,hq];rfl
   obtain⟨j,hj,hDj⟩:=hD.out;rcases hR.out.out with h0 | ⟨g,o,hAe,hg,hgd,hrd⟩
   ·rw [h0] at hq;simp at hq
   subst hAe;have y1:=hrd.fst i q hq;have y2:=hrd.snd i q hq;have hba:=below1 wr (.cells #[.string (txt q.1),.string (txt q.2)] 75);obtain⟨p0,p1,_,_,_⟩:=Bx.new wr (txt q.1) (txt q.2) 75;have hsm:=zGz hqo;have hBw:B<=wr.heap.size:=Nat.le_trans HB.out hbr.out.size;obtain⟨wa,hwa⟩:∃x,wr.alloc (.cells #[.string (txt q.1),.string (txt q.2)] 75)=x:=⟨_,rfl⟩;have hqlt:wr.heap.size<wa.heap.size:=by rw[<-hwa];simp
   rw[hwa] at hba p0 p1;have HDa:=hide (hDj.grow hba);have HRa:=hide (hR.out.keep (.below hba));have HBa:=hide (hbr.out.trans (hba.mono hBw));have hV:=zBq q.1 q.2 hsm.1 hsm.2.1 wa (HT.out wa HBa.out);rw[zB1 hqo] at hV;simp only at hV;have HV:=hide hV;have HPut:=hide (fun (w:World) (h:Draft w B d j (takeL L (P.take i)))=>zHv w h q.1 (norm q.1 q.2).1 q.2 (zB1 hqo) hsm.1 hsm.2.2 (by omega));have Htk:Hid (takeL L (P.take (i+1))=take1 (takeL L (P.take i)) q):=hide (by rw[htk,zEh]);have Hwa:=hide hwa;have Hqlt:=hide (And.intro hqlt (And.intro p0 p1));clear hDj hrd hq hqo htk hba hsm hwa hV hD hR hqlt p0 p1 hg hgd hbr;obtain⟨T1,hT1⟩:∃x,txt q.1=x:=⟨_,rfl⟩;obtain⟨T2,hT2⟩:∃x,txt q.2=x:=⟨_,rfl⟩;rw[hT1] at HV Hwa Hqlt y1 HPut;rw[hT2] at HV Hwa Hqlt y2 HPut;obtain⟨TN,hTN⟩:∃x,txt (norm q.1 q.2).1=x:=⟨_,rfl⟩;rw[hTN] at HV HPut;clear hT1 hT2 hTN;go_upto_region 3 with fail;rw[Hwa.out];obtain⟨qb,hqb⟩:∃x,wr.heap.size=x:=⟨_,rfl⟩;rw[hqb] at Hqlt;(try rw[hqb]);clear hqb Hwa y1 y2;have p0:=Hqlt.out.2.1;have p1:=Hqlt.out.2.2;go_wp2_with (go_at_call 38;fail);refine HV.out.mono ?_;rintro e w4 ⟨rfl,hb4⟩;have HD4:=hide (HDa.out.grow hb4);have HR4:=hide (HRa.out.keep (.below hb4));have HB4:=hide (HBa.out.trans (hb4.mono (Nat.le_trans HB.out HBa.out.size)));have k0:=(hb4.cell (p:=⟨qb,0,none⟩) Hqlt.out.1).trans p0;have k1:=(hb4.cell (p:=⟨qb,1,none⟩) Hqlt.out.1).trans p1;clear hb4 HV HDa HRa HBa p0 p1 Hqlt;go_wp2_with (go_at_call 39;fail);refine (HPut.out _ HD4.out).mono ?_;rintro e w5 hp;have HR5:=hide (HR4.out.keep hp.kept);have HB5:=hide (HB4.out.trans hp.below);by_cases hw:WithinV q.1 (pickE (takeL L (P.take i)) q.1) q.2
   ·obtain ⟨rfl,hD5⟩:=hp.no hw;have HD5:Hid (∃j,j<=nx+(i+1)/\Draft w5 B d j (takeL L (P.take (i+1)))):=hide ⟨j,by omega,by rw[Htk.out];unfold take1;rw[if_pos hw];exact hD5⟩;clear hp hD5 hw HPut HD4 HR4 HB4 k0 k1 hj;go_wp2
    go_roundg r
    case measure=>omega
    case rel=>exact⟨i+1,by omega,by go_num,HD5,HR5,HB5⟩
   ·obtain ⟨rfl,hD5⟩:=hp.yes hw;have HD5:Hid (∃j,j<=nx+(i+1)/\Draft w5 B d j (takeL L (P.take (i+1)))):=hide ⟨j+1,by omega,by rw[Htk.out];unfold take1;rw[if_neg hw];exact hD5⟩;clear hp hD5 hw HPut HD4 HR4 HB4 k0 k1 hj;go_wp2
    go_roundg r
    case measure=>omega
    case rel=>exact⟨i+1,by omega,by go_num,HD5,HR5,HB5⟩
theorem zHm {B d nx:Nat} {L:List EA} (w:World) (h:Draft w B d nx L) (nm tn:List UInt8) (hnm:nm.length<=1000000) (hto:tn.length<=1000000) (hT:∀w',Below B w w'->TM w'):
  Calls Tryz.prog 15 #[.pointer (some ⟨d,0,none⟩),.string (txt nm),.string (txt tn)] w (PartD w B d nx (leaveL (pairsE tn) L (pairsE nm))):=by
 have hB:B<=w.heap.size:=by have:=h.ltd;omega
 have hF1:=zD6 tn hto w (hT w (Below.refl _ _));have hF2:=fun w hT=>zD6 nm hnm w hT
 have hok:=zBo nm;have hlk:=zBu tn;obtain⟨P,hP⟩:∃P,pairsE nm=P:=⟨_,rfl⟩;rw[hP] at hF2 hok ⊢;obtain⟨K,hK⟩:∃K,pairsE tn=K:=⟨_,rfl⟩;rw[hK] at hF1 hlk ⊢;obtain⟨m,hm⟩:∃m,P.length=m:=⟨_,rfl⟩;obtain⟨kk,hkk⟩:∃kk,K.length=kk:=⟨_,rfl⟩;rw[hkk] at hlk;have Hm:=hide hm;have Hkk:=hide hkk;have hm3:m<=3:=by rw[<-hm,<-hP];exact zBu nm
 have Hlk:=hide hlk;have HF1:=hide hF1;have HF2:=hide hF2;have Hok:=hide hok;have HD:=hide h;have HT:=hide hT;have HB:=hide hB;clear h hT hF1 hF2 hok hP hm hB hK hkk hlk;generalize txt tn=S at *;generalize txt nm=S2 at *;go_enter Tryz.func15,Tryz.ntmps15;go_wp2_with (go_at_call 37;fail);refine HF1.out.mono ?_;rintro e w2 hpost;obtain⟨Ak,ck,rfl,hHk,hb2,hlow⟩:=hpost.out;have HK2:=hide (RowP.of hHk hlow HD.out.ltd.1);have HD2:=hide (HD.out.grow hb2);have HB2:=hide (hb2.mono HB.out);rw[Hkk.out];clear hpost hHk hb2 hlow HF1 HD;go_wp2_with (go_at_call 37;fail);refine (HF2.out w2 (HT.out w2 HB2.out)).mono ?_;rintro e w3 hpost;obtain⟨A,c,rfl,hH,hb3,hlow⟩:=hpost.out;have HR3:=hide (RowP.of hH hlow HD2.out.ltd.1);have HK3:=hide (HK2.out.keep (.below hb3));have HD3:=hide (HD2.out.grow hb3);have HB3:=hide (HB2.out.trans (hb3.mono (Nat.le_trans HB.out HB2.out.size)));rw[Hm.out];clear hpost hH hb3 hlow HF2 HD2 HK2 HB2;go_wp2
 go_loopg [14] m (fun r s14 wx=>∃i:Nat,i+r=m/\s14=.int .i64 (i:Int)/\Hid (Draft wx B d nx (leaveL K L (P.take i)))/\Hid (RowP wx d A P)/\Hid (RowP wx d Ak K)/\Hid (Below B w wx))
 case atStart=>exact⟨0,by omega,rfl,hide (by rw[List.take_zero,leaveL];exact HD3.out),HR3,HK3,HB3⟩
 case round=>
  obtain⟨i,hig,rfl,hD,hR,hKr,hbr⟩:=hrel;clear HD3 HR3 HK3 HB3;cases gk with
  | zero=>
   obtain rfl:i=m:=by omega
   have hiz:¬((i:Int)<(i:Int)):=by omega
   have htk:P.take i=P:=List.take_of_length_le (by rw[Hm.out];exact Nat.le_refl _);have hDe:=hD.out;rw[htk] at hDe;have HDe:=hide hDe;clear hDe htk hD hR hKr;go_wp2
   go_end0
   exact⟨rfl,⟨nx,Nat.le_refl _,HDe.out⟩,hbr.out⟩
  | succ r=>
   have hi:i<m:=by omega
   have hiz:(i:Int)<(m:Int):=by omega
   obtain⟨q,hq⟩:∃q,P[i]?=some q:=⟨_,List.getElem?_eq_getElem (by rw[Hm.out];exact hi)⟩;have hqo:=Hok.out q (List.mem_of_getElem? hq);have htk:P.take (i+1)=P.take i++[q]:=by rw[List.take_add_one,hq];rfl
   rcases hR.out.out with h0 | ⟨g,o,hAe,hg,hgd,hrd⟩
   ·rw [h0] at hq;simp at hq
   subst hAe;have y1:=hrd.fst i q hq;have y2:=hrd.snd i q hq;have hba:=below1 wr (.cells #[.string (txt q.1),.string (txt q.2)] 75);obtain⟨p0,p1,_,_,_⟩:=Bx.new wr (txt q.1) (txt q.2) 75;have hsm:=zGz hqo;have hBw:B<=wr.heap.size:=Nat.le_trans HB.out hbr.out.size;obtain⟨wa,hwa⟩:∃x,wr.alloc (.cells #[.string (txt q.1),.string (txt q.2)] 75)=x:=⟨_,rfl⟩;have hqlt:wr.heap.size<wa.heap.size:=by rw[<-hwa];simp
   rw[hwa] at hba p0 p1;have HDa:=hide (hD.out.grow hba);have HRa:=hide (hR.out.keep (.below hba));have HKa:=hide (hKr.out.keep (.below hba));have HBa:=hide (hbr.out.trans (hba.mono hBw));have hKH:Has wa wa.heap.size 2 Ak kk (prs K):=by
    rcases HKa.out.out with h0 | ⟨g9,o9,h1,h2,h3,h4⟩
    ·subst h0;obtain rfl:0=kk:=Hkk.out;exact⟨rfl,.inl rfl⟩
    ·rw [<-Hkk.out,h1];exact zJ9 h2 h4
   have hC:=zH1 K q wa Ak kk ck hKH (by have:=Hlk.out;omega);obtain⟨b,hb⟩:∃b,Tr (q∈K)=b:=⟨_,rfl⟩;rw[hb] at hC;have HC:=hide hC;have HDr:=hide (fun (w:World) (h:Draft w B d nx (leaveL K L (P.take i)))=>zPu w h q.1 q.2 hsm.1 hsm.2.1);have Htk:Hid (leaveL K L (P.take (i+1))=leave1 K (leaveL K L (P.take i)) q):=hide (by rw[htk,zDm]);have Hwa:=hide hwa;have Hqlt:=hide (And.intro hqlt (And.intro p0 p1));have Hb:=hide hb;have Hpv:=hide (zB1 hqo);clear hrd hq hqo htk hba hsm hwa hC hD hR hqlt p0 p1 hg hgd hbr hKr hKH hb;obtain⟨T1,hT1⟩:∃x,txt q.1=x:=⟨_,rfl⟩;obtain⟨T2,hT2⟩:∃x,txt q.2=x:=⟨_,rfl⟩;rw[hT1] at HC Hwa Hqlt y1 HDr;rw[hT2] at HC Hwa Hqlt y2 HDr;clear hT1 hT2;go_upto_region 4 with fail;rw[Hwa.out];obtain⟨qb,hqb⟩:∃x,wr.heap.size=x:=⟨_,rfl⟩;rw[hqb] at Hqlt;(try rw[hqb]);clear hqb Hwa y1 y2;have p0:=Hqlt.out.2.1;have p1:=Hqlt.out.2.2;go_wp2_with (go_at_call 40;fail);refine HC.out.mono ?_;rintro e w4 ⟨rfl,hb4⟩;have HD4:=hide (HDa.out.grow hb4);have HR4:=hide (HRa.out.keep (.below hb4));have HK4:=hide (HKa.out.keep (.below hb4));have HB4:=hide (HBa.out.trans (hb4.mono (Nat.le_trans HB.out HBa.out.size)));have k0:=(hb4.cell (p:=⟨qb,0,none⟩) Hqlt.out.1).trans p0;have k1:=(hb4.cell (p:=⟨qb,1,none⟩) Hqlt.out.1).trans p1;clear hb4 HC HDa HRa HKa HBa p0 p1 Hqlt;cases b with
   | true=>
    have HD5:Hid (Draft w4 B d nx (leaveL K L (P.take (i+1)))):=hide (by rw[Htk.out];unfold leave1;rw[if_pos (Tr_iff.1 Hb.out)];exact HD4.out);clear HDr HD4 k0 k1 Hb Htk Hpv;go_wp2
    go_roundg r
    case measure=>omega
    case rel=>exact⟨i+1,by omega,by go_num,HD5,HR4,HK4,HB4⟩
   | false=>
    have hnk:q ∉ K:=fun h=>by have:=Hb.out;rw[zAm h] at this;cases this
    have Hnk:=hide hnk;clear hnk Hb;go_wp2_with (go_at_call 41;fail);refine (HDr.out _ HD4.out).mono ?_;rintro e w5 hp;have HR5:=hide (HR4.out.keep hp.kept);have HK5:=hide (HK4.out.keep hp.kept);have HB5:=hide (HB4.out.trans hp.below);by_cases hw:∃x∈pickE (leaveL K L (P.take i)) q.1,(valV q.1 x).1=q.2
    ·obtain ⟨rfl,hD5⟩:=hp.yes hw;have HD5:Hid (Draft w5 B d nx (leaveL K L (P.take (i+1)))):=hide (by rw[Htk.out];unfold leave1;rw[if_neg Hnk.out];exact hD5);clear hp hD5 hw HDr HD4 HR4 HK4 HB4 k0 k1 Hnk Htk Hpv;go_wp2
     go_roundg r
     case measure=>omega
     case rel=>exact⟨i+1,by omega,by go_num,HD5,HR5,HK5,HB5⟩
    ·obtain ⟨rfl,hD5⟩:=hp.no hw;have HD5:Hid (Draft w5 B d nx (leaveL K L (P.take (i+1)))):=hide (by
      rw[Htk.out]
      unfold leave1
      rw[if_neg Hnk.out]
      have hid:dropV q.1 (pickE (leaveL K L (P.take i)) q.1) q.2=pickE (leaveL K L (P.take i)) q.1:=by
       unfold dropV
       rw[List.filter_eq_self]
       intro x hx
       simp only[decide_eq_true_eq]
       exact fun e=>hw ⟨x,hx,e⟩
      rw[hid,zRf (draft_rf hD5)]
      exact hD5)
     clear hp hD5 hw HDr HD4 HR4 HK4 HB4 k0 k1 Hnk Htk Hpv;go_wp2
     go_roundg r
     case measure=>omega
     case rel=>exact⟨i+1,by omega,by go_num,HD5,HR5,HK5,HB5⟩
end Go.Proofs.YtnccdnfkhohobaaGreatDoor
