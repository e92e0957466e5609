/- Several texts in one: DGather, DMake. By an AI agent. -/
import Derived.Laws.MakeOwn
import Derived.Deep.SlicePairs
import Derived.Test.YtdkekamkmlpnhaaGreatDoorDP
import Derived.Test.YtdkekamkmlpnhaaGreatDoorDY
import Derived.Test.YtdkekamkmlpnhaaGreatDoorEX
import Derived.Test.YtdkekamkmlpnhaaGreatDoorDX
import Derived.Test.YtdkekamkmlpnhaaGreatDoorGrow
import Derived.Test.YtdkekamkmlpnhaaGreatDoorEY
import Derived.Test.YtdkekamkmlpnhaaGreatDoorEN
import Derived.Test.YtdkekamkmlpnhaaGreatDoorMB
import Derived.Test.YtdkekamkmlpnhaaGreatDoorOpens
set_option linter.unusedSimpArgs false
set_option linter.unusedVariables false
set_option maxRecDepth 100000
set_option maxHeartbeats 64000000
namespace Go.Proofs.YtdkekamkmlpnhaaGreatDoor
open Go.RowKit Go.Maps
theorem valV_len (t v:List UInt8):(valV t v).1.length<=1000:=by
 unfold valV;split
 ·exact Nat.le_trans (norm_len t v) (by omega)
 ·split
  ·simp
  ·split
   ·rename_i h;exact (zBt h).2
   ·simp
structure GatherPost (w0:World) (d nx:Nat) (L:List EA) (a:EA) (e:Ending) (w':World):Prop where
 code:e=.returned (.int .i64 (gather1 L a).2)
 below:Below w0.heap.size w0 w'
 draft:(gather1 L a).2=0->Draft w' w0.heap.size d (nx+a.2.length) (gather1 L a).1
theorem zPb {d nx:Nat} {L:List EA} (w0 w:World) (hT:TM w0) (hb:Below w0.heap.size w0 w) (hD:Draft w w0.heap.size d nx L) (a:EA) (V:Option Addr) (n c:Nat) (hV:Has w0 w0.heap.size 1 V n (strs a.2)) (hn:n=a.2.length)
  (ha:a.1.length<=1048576) (hvs:∀v∈a.2,v.length<=1000000) (hnx:nx+a.2.length<=1000000000):
  Calls Tryz.prog 98 #[.pointer (some ⟨d,0,none⟩),.agg #[.string (txt a.1),.slice V n c]] w (GatherPost w0 d nx L a):=by
 suffices H:Calls Tryz.prog 98 #[.pointer (some ⟨d,0,none⟩),.agg #[.string (txt a.1),.slice V n c]] w fun e w'=>∃g,e=.returned (.int .i64 g)/\g=(gather1 L a).2/\Below w0.heap.size w0 w'/\((gather1 L a).2=0->Draft w' w0.heap.size d (nx+a.2.length) (gather1 L a).1) from
  H.mono fun e w' ⟨g,h1,h2,h3,h4⟩=>⟨by rw[h1,h2],h3,h4⟩
 have hb1:=below1 w (.cells #[.string (txt a.1),.slice V n c] 60);have hX:=BoxE.new w (txt a.1) V n c 60;have hTy:=fun w hT=>zB1 (txt a.1) w hT
 simp only[zAf] at hTy;have hB0:w0.heap.size<=w.heap.size:=hb.size;have hD1:=hD.grow hb1;have hbb:=hb.trans (hb1.mono hB0);have hTy1:=hTy _ (hT.below hbb).tt.types;have x0:=hX.c0;have x1:=hX.c1;have HC:=hide hTy1;have HX:=hide hX;have HD:=hide hD1;have HB:=hide hbb;have HT:=hide hT;have HV:=hide hV;have HN:=hide hn;have HVS:=hide hvs;have HNX:=hide hnx;have HS:=hide (Nat.le_trans hB0 hb1.size);clear hTy hTy1 hb1 hX hD1 hbb hD hb hT hV hvs hB0 hn;by_cases h0:(typ a.1).2=0
 ·have hg:gather1 L a=([],17):=by unfold gather1;rw[if_pos h0]
  rw[hg];rw[h0] at HC;generalize txt (typ a.1).1=TN at *;generalize txt a.1=S at *;go_enter Tryz.func98,Tryz.ntmps98;go_wp2_with (go_at_call 104;fail);refine HC.out.mono ?_;rintro e w2 ⟨rfl,hb2⟩;have HB2:=hide (HB.out.trans (hb2.mono HS.out));clear hb2 HB HC x0 x1;go_wp2;go_ret;exact⟨17,rfl,rfl,HB2.out,fun q=>absurd q (by decide)⟩
 ·have q0:((typ a.1).2==0)=false:=beq_false_of_ne h0;obtain⟨t,ht⟩:∃t,(typ a.1).1=t:=⟨_,rfl⟩;have htl:t.length<=1000000:=by rw[<-ht];have:=zI9 a.1;omega
  have Htl:=hide htl;rw[ht] at HC;by_cases hn0:n=0
  ·have hg:gather1 L a=([],19):=by
    unfold gather1;rw[if_neg h0,if_pos (List.length_eq_zero_iff.1 (by have:=HN.out;omega))]
   rw[hg];subst hn0;generalize (typ a.1).2=ty at *;generalize txt t=TN at *;generalize txt a.1=S at *;go_enter Tryz.func98,Tryz.ntmps98;go_wp2_with (go_at_call 104;fail);refine HC.out.mono ?_;rintro e w2 ⟨rfl,hb2⟩;have y1:=(HX.out.grow hb2).c1;have HB2:=hide (HB.out.trans (hb2.mono HS.out));clear hb2 HB HC x0 x1;go_wp2;go_ret;exact⟨19,rfl,rfl,HB2.out,fun q=>absurd q (by decide)⟩
  ·have hne:a.2≠[]:=fun q=>hn0 (by rw[HN.out,q];rfl)
   have hg:gather1 L a=gatherL L t a.2:=by unfold gather1;rw[if_neg h0,if_neg hne,ht]
   rw[hg];obtain⟨LG,hLG⟩:∃LG,(gatherL L t a.2).1=LG:=⟨_,rfl⟩;obtain⟨g,hgg⟩:∃g,(gatherL L t a.2).2=g:=⟨_,rfl⟩;have HG:Hid (gatherL L t a.2=(LG,g)):=hide (Prod.ext hLG hgg);rw[hLG,hgg];have hnb:n<=1000000000:=by have:=HNX.out;have:=HN.out;omega
   have hnz:((n:Int)==0)=false:=beq_false_of_ne (by omega);have HVal:=hide (fun (v:List UInt8) (hv:v∈a.2) (w:World) (hT:TM w)=>zB9 t v htl (HVS.out v hv) w hT);clear hLG hgg hg h0 ht htl ha;generalize (typ a.1).2=ty at *;obtain⟨TN,hTN⟩:∃TN,txt t=TN:=⟨_,rfl⟩;have HTN:=hide hTN;rw[hTN] at HC;clear hTN;generalize txt a.1=S at *;go_enter Tryz.func98,Tryz.ntmps98;go_wp2_with (go_at_call 104;fail);refine HC.out.mono ?_;rintro e w2 ⟨rfl,hb2⟩;have y1:=(HX.out.grow hb2).c1;have HB2:=hide (HB.out.trans (hb2.mono HS.out));have HD2:=hide (HD.out.grow hb2);clear hb2 HB HC x0 x1 HX HD;go_wp2
   go_loopg [26] n (fun r s26 wx=>∃(i:Nat) (Li:List EA),i+r=n/\s26=.int .i64 (i:Int)/\Hid (gatherL Li t (a.2.drop i)=(LG,g))/\Hid (Draft wx w0.heap.size d (nx+i) Li)/\Hid (Below w0.heap.size w0 wx))
   case atStart=>exact⟨0,L,by omega,rfl,hide (by rw[List.drop_zero];exact HG.out),hide (by rw[Nat.add_zero];exact HD2.out),HB2⟩
   case round=>
    obtain⟨i,Li,hig,rfl,hG,hDi,hBi⟩:=hrel;clear y1 HD2 HB2 HG;cases gk with
    | zero=>
     obtain rfl:i=n:=by omega
     have hiz:¬((i:Int)<(i:Int)):=(by omega);have hGe:=hG.out;rw[List.drop_eq_nil_of_le (by rw[<-HN.out];exact Nat.le_refl _)] at hGe;unfold gatherL at hGe;have HGe:=hide hGe;clear hGe hG HVal HV HT HVS;go_wp2;go_ret;obtain⟨e1,e2⟩:=Prod.mk.inj HGe.out;exact⟨0,rfl,e2,hBi.out,fun _=>by rw[<-HN.out,<-e1];exact hDi.out⟩
    | succ r=>
     have hi:i<n:=(by omega);have hiz:(i:Int)<(n:Int):=(by omega);obtain⟨v,hv⟩:∃v,a.2[i]?=some v:=⟨_,List.getElem?_eq_getElem (by rw[<-HN.out];exact hi)⟩;have hvm:=List.mem_of_getElem? hv;have hdrop:a.2.drop i=v::a.2.drop (i+1):=by obtain⟨h1,h2⟩:=List.getElem?_eq_some_iff.1 hv;rw[List.drop_eq_getElem_cons h1,h2]
     obtain⟨gb,o,hVe,hgb,hcell⟩:=HV.out.lies (by unfold strs;rw[List.length_map,<-HN.out];omega);have hcv:=hcell i (.string (txt v)) (by unfold strs;rw[List.getElem?_map,hv];rfl);have hcv:=((hBi.out.cell (p:=⟨gb,o+i,none⟩) hgb).trans hcv);have hvl:=HVS.out v hvm;have HVc:=hide (HVal.out v hvm _ (HT.out.below hBi.out));have hGi:=hG.out;rw[hdrop] at hGi;unfold gatherL at hGi;have HVe:=hide hVe;subst hVe;have Hvl:=hide hvl;by_cases hok:(valV t v).2=0
     ·have qe:((valV t v).2 !=0)=false:=by simp[hok]
      rw[if_neg (by simp[hok])] at hGi;obtain⟨nv,hnv⟩:∃nv,(valV t v).1=nv:=⟨_,rfl⟩;have hvv:valV t v=(nv,0):=Prod.ext hnv hok;have hnl:nv.length<=1000000:=by
       have:=valV_len t v;rw[hnv] at this;omega
      have HP:=hide (fun (w:World) (h:Draft w w0.heap.size d (nx+i) Li)=>dput_any w h t nv v hvv Htl.out hnl (by have:=HNX.out;have:=HN.out;omega));rw[hvv] at HVc;by_cases hin:WithinV t (pickE Li t) v
      ·rw [if_pos hin] at hGi;have HGi:=hide hGi;clear hGi hG HVal HV HVS hcell hvl hdrop hvv hok qe hnv hnl;obtain⟨NV,hNV⟩:∃NV,txt nv=NV:=⟨_,rfl⟩;obtain⟨VV,hVV⟩:∃VV,txt v=VV:=⟨_,rfl⟩;rw[HTN.out,hVV,hNV] at HVc;rw[HTN.out,hVV,hNV] at HP;rw[hVV] at hcv;clear hNV hVV;go_wp2_with (go_at_call 148;fail);refine HVc.out.mono ?_;rintro e w3 ⟨rfl,hb3⟩;have hS3:=hBi.out.size;have HB3:=hide (hBi.out.trans (hb3.mono hS3));have HC3:=hide (HP.out _ (hDi.out.grow hb3));clear hb3 hBi hDi HP HVc hcv hS3;go_wp2_with (go_at_call 149;fail);refine HC3.out.mono ?_;rintro e w4 hp;obtain⟨rfl,_⟩:=hp.no hin;have HB4:=hide (HB3.out.trans hp.below);clear hp HC3 HB3;go_wp2;go_ret;obtain⟨e1,e2⟩:=Prod.mk.inj HGi.out;exact⟨20,rfl,e2,HB4.out,fun q=>absurd (e2.trans q) (by decide)⟩
      ·rw [if_neg hin] at hGi;have HGi:=hide hGi;clear hGi hG HV HVS hcell hvl hdrop hvv hok qe hnv hnl;obtain⟨NV,hNV⟩:∃NV,txt nv=NV:=⟨_,rfl⟩;obtain⟨VV,hVV⟩:∃VV,txt v=VV:=⟨_,rfl⟩;rw[HTN.out,hVV,hNV] at HVc;rw[HTN.out,hVV,hNV] at HP;rw[hVV] at hcv;clear hNV hVV HVal;go_wp2_with (go_at_call 148;fail);refine HVc.out.mono ?_;rintro e w3 ⟨rfl,hb3⟩;have hS3:=hBi.out.size;have HB3:=hide (hBi.out.trans (hb3.mono hS3));have HC3:=hide (HP.out _ (hDi.out.grow hb3));clear hb3 hBi hDi HP HVc hcv hS3;go_wp2_with (go_at_call 149;fail);refine HC3.out.mono ?_;rintro e w4 hp;obtain⟨rfl,hd4⟩:=hp.yes hin;have HB4:=hide (HB3.out.trans hp.below);have HD4:=hide hd4;clear hp HC3 HB3 hd4;go_wp2
       go_roundg r
       case measure=>omega
       case rel=>exact⟨i+1,_,by omega,by go_num,HGi,hide (by have:=HD4.out;rwa [Nat.add_assoc] at this),HB4⟩
     ·have qe:((valV t v).2 !=0)=true:=by simpa using hok
      rw[if_pos hok] at hGi;have HGi:=hide hGi;clear hGi hG HVal HV HVS hcell hvl hdrop hok;generalize (valV t v).2=ve at *;generalize txt (valV t v).1=NV at *;obtain⟨VV,hVV⟩:∃VV,txt v=VV:=⟨_,rfl⟩;rw[HTN.out,hVV] at HVc;rw[hVV] at hcv;clear hVV;go_wp2_with (go_at_call 148;fail);refine HVc.out.mono ?_;rintro e w3 ⟨rfl,hb3⟩;have HB3:=hTz hBi hb3;clear hb3 hBi hDi HVc hcv;go_wp2;go_ret;obtain⟨e1,e2⟩:=Prod.mk.inj HGi.out;exact⟨21,rfl,e2,HB3.out,fun q=>absurd (e2.trans q) (by decide)⟩
def cntE (L:List EA):Nat:=(L.map fun a=>a.2.length).sum
theorem cnt_take {L:List EA} {i:Nat} {a:EA} (h:L[i]?=some a):cntE (L.take (i+1))=cntE (L.take i)+a.2.length:=by
 unfold cntE;rw[List.take_add_one,h];simp
theorem cnt_le (L:List EA) (i:Nat):cntE (L.take i)<=cntE L:=by
 have h:cntE L=cntE (L.take i)+cntE (L.drop i):=by unfold cntE;rw[<-List.sum_append,<-List.map_append,List.take_append_drop]
 omega
theorem zQf (s:List UInt8) (L:List EA) (w:World) (A:Option Addr) (n c:Nat) (xs:List Value) (hA:Has w w.heap.size 2 A n xs) (hL:EAs w w.heap.size xs L) (hT:TM w) (hs:s.length<=1000000) (hn:n<=1000000)
  (hts:∀a∈L,a.1.length<=1048576) (hvs:∀a∈L,∀v∈a.2,v.length<=1000000) (hcnt:cntE L<=1000000):
  Calls Tryz.prog 54 #[.string (txt s),.slice A n c] w (MadePost (makeE s L).1 (makeE s L).2.1 (makeE s L).2.2 w):=by
 have hnl:=hA.eas_n hL;have hb1:=below1 w (.cells #[.string ⟨#[]⟩,.slice none 0 0] 38);have hX:=BoxE.new w ⟨#[]⟩ none 0 0 38;have hXf:∀i,(w.alloc (.cells #[.string ⟨#[]⟩,.slice none 0 0] 38)).frozen? ⟨w.heap.size,i,none⟩=false:=fun i=>World.frozen?_alloc_at _ _ _ _ rfl
 have hA1:=(hA.below hb1).upto hb1.size;have hL1:=hL.grow hb1;have hT1:=hT.below hb1;obtain⟨w1,hw1⟩:∃w1,w.alloc (.cells #[.string ⟨#[]⟩,.slice none 0 0] 38)=w1:=⟨_,rfl⟩;rw[hw1] at hb1 hX hXf hA1 hL1 hT1;have HN:=hide (zI6 s hs w1 hT1);have HX:=hide hX;have HXf:=hide hXf;have HB1:=hide hb1;have HA:=hide hA1;have HL:=hide hL1;have HT:=hide hT1;have Hw1:=hide hw1;have Hn:=hide hnl;have Hts:=hide hts;have Hvs:=hide hvs;have Hcnt:=hide hcnt;clear hA hL hT hX hXf hb1 hA1 hL1 hT1 hw1 hts hvs hcnt hnl;obtain⟨S,hS⟩:∃S,txt s=S:=⟨_,rfl⟩;rw[hS] at HN;rw[hS];clear hS;by_cases hbad:(normT s).2≠0\/(normT s).1=[]
 ·have hmk:makeE s L=([],[],34):=by unfold makeE;rw[if_pos hbad]
  have hnn:nnB s=false:=by
   unfold nnB;rcases hbad with h | h
   ·simp [h]
   ·simp [h]
  rw[hmk];rw[hnn] at HN;generalize txt (normT s).1=NT at *;go_enter Tryz.func54,Tryz.ntmps54;go_upto_region 1 with fail;rw[Hw1.out];obtain⟨q,hq⟩:∃q,w.heap.size=q:=⟨_,rfl⟩;rw[hq] at HX HXf;(try rw[hq]);have Hq:=hide hq;clear hq;go_wp2_with (go_at_call 58;fail);refine HN.out.mono ?_;rintro e w2 ⟨rfl,hb2⟩;have z0:=(HX.out.grow hb2).c0;have z1:=(HX.out.grow hb2).c1;have hf2:∀i,w2.frozen? ⟨q,i,none⟩=false:=fun i=>(hb2.frozen (p:=⟨q,i,none⟩) HX.out.lt).trans (HXf.out i)
  have HB2:=hTz HB1 hb2;clear hb2 HN HA HL;go_wp2
  (try simp only[Exit.inBlock,Exit.then])
  refine bodyPost_ret (v:=.tuple #[.agg #[.string ⟨#[]⟩,.slice none 0 0],.int .i64 34]) ?_ rfl ?_
  ·rw [results_cell_tmp rfl];go_simp
  exact zCu rfl ((HB2.out.setCell (p:=⟨q,0,none⟩) (by rw[Hq.out];exact Nat.le_refl _) _).setCell (p:=⟨q,1,none⟩) (by rw[Hq.out];exact Nat.le_refl _) _)
 ·have h0:(normT s).2=0:=by
   by_cases q:(normT s).2=0
   ·exact q
   ·exact absurd (.inl q) hbad
  have h1:(normT s).1≠[]:=fun q=>hbad (.inr q)
  have hnn:nnB s=true:=by unfold nnB;simp[h0,h1]
  obtain⟨nm,hnm⟩:∃nm,(normT s).1=nm:=⟨_,rfl⟩;have hnorm:normT nm=(nm,0):=by have:=(zBt h0).1;rw[<-hnm,this];exact Prod.ext rfl h0
  rw[hnm] at h1;rw[hnn,hnm] at HN;obtain⟨G,g,hG⟩:∃G g,gatherA [] L=(G,g):=⟨_,_,rfl⟩;have hmk:makeE s L=if g≠0 then ([],[],g) else if endE nm G 64≠0 then ([],[],endE nm G 64) else (nm,G,0):=by
   unfold makeE;rw[if_neg hbad,hnm,<-zHv L [] ⟨.nil,fun a ha=>by simp at ha⟩,hG]
  obtain⟨RM,hRM⟩:∃RM,makeE s L=RM:=⟨_,rfl⟩;rw[hRM] at hmk ⊢;have Hmk:=hide hmk;clear hRM;have Hnorm:=hide (And.intro hnorm h1);have HG:=hide hG;clear hmk hnn hnorm h0 h1 hbad hG hnm;obtain⟨NT,hNT⟩:∃NT,txt nm=NT:=⟨_,rfl⟩;have HNT:=hide hNT;rw[hNT] at HN;clear hNT;go_enter Tryz.func54,Tryz.ntmps54;go_upto_region 1 with fail;rw[Hw1.out];obtain⟨q,hq⟩:∃q,w.heap.size=q:=⟨_,rfl⟩;rw[hq] at HX HXf;(try rw[hq]);have Hq:=hide hq;clear hq;go_wp2_with (go_at_call 58;fail);refine HN.out.mono ?_;rintro e w2 ⟨rfl,hb2⟩;have HX2:=hide (HX.out.grow hb2);have HXf2:Hid (∀i,w2.frozen? ⟨q,i,none⟩=false):=hide fun i=>(hb2.frozen (p:=⟨q,i,none⟩) HX.out.lt).trans (HXf.out i)
  have HB2:=hTz HB1 hb2;have HA2:=hide ((HA.out.below hb2).upto hb2.size);have HL2:=hide (HL.out.grow hb2);have HT2:=hide (HT.out.below hb2);clear hb2 HN HA HL HT HX HXf HB1;go_wp2_with (go_at_call 97;fail);refine (zK9 w2).mono ?_;rintro e w3 hpost;obtain⟨d,rfl,hD3,hb3⟩:=hpost.out;have HD3:=hide hD3;have HB3:=hide hb3;clear hpost hD3 hb3;go_wp2
  go_loopg [23] n (fun r s23 wx=>∃(i:Nat) (Li:List EA),i+r=n/\s23=.int .i64 (i:Int)/\Hid (gatherA Li (L.drop i)=(G,g))/\Hid (Draft wx w2.heap.size d (cntE (L.take i)) Li)/\Hid (Below w2.heap.size w2 wx))
  case atStart=>exact⟨0,[],by omega,rfl,hide (by rw[List.drop_zero];exact HG.out),hide (by rw[List.take_zero];exact HD3.out),HB3⟩
  case round=>
   obtain⟨i,Li,hig,rfl,hG,hD,hbr⟩:=hrel;clear HG HD3 HB3;cases gk with
   | zero=>
    obtain rfl:i=n:=by omega
    have hiz:¬((i:Int)<(i:Int)):=(by omega);have hGe:=hG.out;rw[List.drop_eq_nil_of_le (by rw[<-Hn.out];exact Nat.le_refl _)] at hGe;unfold gatherA at hGe;obtain⟨rfl,rfl⟩:=Prod.mk.inj hGe;have hcn:cntE (L.take i)<=1000000:=Nat.le_trans (cnt_le L i) Hcnt.out;have hE:=end_any wr hD.out nm Hnorm.out.1 Hnorm.out.2 64 (by decide) (HT2.out.below hbr.out) hcn;have hE2:Calls Tryz.prog 99 #[.pointer (some ⟨d,0,none⟩),.string (txt nm),.int .i64 64] wr (MadePost RM.1 RM.2.1 RM.2.2 wr):=hE.mono fun e w' hd=>by
     have hq:=Hmk.out;rw[if_neg (by simp)] at hq;by_cases h0:endE nm Li 64=0
     ·rw [if_neg (by simp[h0])] at hq;rw[hq];exact hd.ok h0
     ·rw [if_pos h0] at hq;rw[hq];exact hd.bad h0
    rw[HNT.out] at hE2;have HE:=hide hE2;have HBr:=hide (HB2.out.trans (hbr.out.mono HB2.out.size));have HXr:=hide (HX2.out.grow hbr.out);have Hfr:Hid (∀i,wr.frozen? ⟨q,i,none⟩=false):=hide fun i=>(hbr.out.frozen (p:=⟨q,i,none⟩) HX2.out.lt).trans (HXf2.out i)
    obtain⟨X1,hX1⟩:∃x,RM.1=x:=⟨_,rfl⟩;obtain⟨X2,hX2⟩:∃x,RM.2.1=x:=⟨_,rfl⟩;obtain⟨X3,hX3⟩:∃x,RM.2.2=x:=⟨_,rfl⟩;rw[hX1,hX2,hX3] at HE;have HXX:=hide (And.intro hX1 (And.intro hX2 hX3));clear hE hE2 hcn hGe hG hD hbr HX2 HXf2 HB2 HA2 HL2 HT2 Hmk hX1 hX2 hX3 Hts Hvs Hcnt;go_wp2_with (go_at_call 99;fail);refine HE.out.mono ?_;rintro e w7 hpost;obtain⟨A7,c7,ys,rfl,hc7,hm7,hH7,hE7,hb7⟩:=hpost.out;have z0:=(HXr.out.grow hb7).c0;have z1:=(HXr.out.grow hb7).c1;have hf7:∀i,w7.frozen? ⟨q,i,none⟩=false:=fun i=>(hb7.frozen (p:=⟨q,i,none⟩) HXr.out.lt).trans (Hfr.out i)
    obtain⟨kk,hkk⟩:∃kk,X2.length=kk:=⟨_,rfl⟩;have Hkk:=hide hkk;obtain⟨TX,hTX⟩:∃TX,txt X1=TX:=⟨_,rfl⟩;have HTX:=hide hTX;have HHE:=hide (And.intro hc7 (And.intro hm7 (And.intro hH7 (And.intro hE7 hb7))));have HB7:=hTz HBr hb7;rw[hkk,hTX];have hqw:q<wr.heap.size:=HXr.out.lt;clear hpost hc7 hm7 hH7 hE7 hb7 hkk hTX HE;go_wp2
    (try simp only[Exit.inBlock,Exit.then])
    refine bodyPost_ret (v:=.tuple #[.agg #[.string TX,.slice A7 kk c7],.int .i64 X3]) ?_ rfl ?_
    ·rw [results_cell_tmp rfl];go_simp
    have far:∀(p:Addr),NewB wr.heap.size w7.heap.size p.block->((w7.setCell ⟨q,0,none⟩ (.string TX)).setCell ⟨q,1,none⟩ (.slice A7 kk c7)).cell? p=w7.cell? p:=fun p hp=>by
     have hne:q≠p.block:=(by have:=hp.1;omega);rw[World.cell?_setCell_far _ _ _ _ hne,World.cell?_setCell_far _ _ _ _ hne]
    have hszz:((w7.setCell ⟨q,0,none⟩ (.string TX)).setCell ⟨q,1,none⟩ (.slice A7 kk c7)).heap.size=w7.heap.size:=(by simp[World.setCell]);have hnew:∀b,NewB wr.heap.size w7.heap.size b->NewB w.heap.size ((w7.setCell ⟨q,0,none⟩ (.string TX)).setCell ⟨q,1,none⟩ (.slice A7 kk c7)).heap.size b:=fun b hb=>⟨Nat.le_trans HBr.out.size hb.1,by rw[hszz];exact hb.2⟩
    obtain⟨k1,k2,k3,k4,k5⟩:=HHE.out;rw[HXX.out.1,HXX.out.2.1,HXX.out.2.2];exact⟨A7,c7,ys,by rw[HTX.out,Hkk.out],k1,k2,k3.move far hnew,k4.move far hnew,(HB7.out.setCell (p:=⟨q,0,none⟩) (by rw[Hq.out];exact Nat.le_refl _) _).setCell (p:=⟨q,1,none⟩) (by rw[Hq.out];exact Nat.le_refl _) _⟩
   | succ r=>
    have hi:i<n:=(by omega);have hiz:(i:Int)<(n:Int):=(by omega);obtain⟨a,ha⟩:∃a,L[i]?=some a:=⟨_,List.getElem?_eq_getElem (by rw[<-Hn.out];exact hi)⟩;have ham:=List.mem_of_getElem? ha;have hdrop:L.drop i=a::L.drop (i+1):=by obtain⟨h1,h2⟩:=List.getElem?_eq_some_iff.1 ha;rw[List.drop_eq_getElem_cons h1,h2]
    have hGi:=hG.out;rw[hdrop] at hGi;unfold gatherA at hGi;obtain⟨ga,o,hAe,hga,hat⟩:=HA2.out.ea HL2.out (fun h=>by rw[h] at ha;simp at ha);obtain⟨V,cv,hat⟩:=hat i a ha;have hat2:=hat.below hga hbr.out;have e0:=hat2.e0;have e1:=hat2.e1;have HAe:=hide hAe;subst hAe;have hcn:=cnt_take ha;have hcle:=cnt_le L (i+1);have hcc:=Hcnt.out;obtain⟨k,hk⟩:∃k,a.2.length=k:=⟨_,rfl⟩;rw[hk] at e1;have hba:=below1 wr (.cells #[.string (txt a.1),.slice V k cv] 60);have hXa:=BoxE.new wr (txt a.1) V k cv 60;have u0:=hXa.c0;have u1:=hXa.c1;have hVh:=hat.has;rw[hk] at hVh;have HGa:=hide (zPb w2 _ HT2.out (hbr.out.trans (hba.mono hbr.out.size)) (hD.out.grow hba) a V k cv hVh hk.symm (Hts.out a ham) (Hvs.out a ham) (by omega));have Hcn:=hide hcn;obtain⟨gc,hgc⟩:∃gc,(gather1 Li a).2=gc:=⟨_,rfl⟩;have Hgc:=hide hgc;rw[hgc] at hGi;have Hk:=hide hk;clear hcn hcle hcc hba hXa hVh hat hat2 ham ha hdrop hG hD hk hgc;obtain⟨TA,hTA⟩:∃TA,txt a.1=TA:=⟨_,rfl⟩;rw[hTA] at e0 u0 u1 HGa;clear hTA;by_cases hg0:gc=0
    ·subst hg0;rw[if_neg (by simp)] at hGi;have HGi:=hide hGi;clear hGi;go_wp2_with (go_at_call 98;fail);refine HGa.out.mono ?_;rintro e w5 hp;obtain rfl:e=.returned (.int .i64 0):=by rw[hp.code,Hgc.out]
     have HD5:=hide (hp.draft Hgc.out);have HB5:=hide hp.below;clear hp HGa e0 e1 u0 u1 hbr;go_wp2
     go_roundg r
     case measure=>omega
     case rel=>exact⟨i+1,_,by omega,by go_num,HGi,hide (by rw[Hcn.out];exact HD5.out),HB5⟩
    ·have hgz:(gc !=0)=true:=by simpa using hg0
     rw[if_pos hg0] at hGi;obtain⟨rfl,rfl⟩:=Prod.mk.inj hGi;have hq:=Hmk.out;rw[if_pos hg0] at hq;have Hq2:=hide hq;have HX5:=HX2;clear hGi hq;go_wp2_with (go_at_call 98;fail);refine HGa.out.mono ?_;rintro e w5 hp;obtain rfl:e=.returned (.int .i64 gc):=by rw[hp.code,Hgc.out]
     have HB5:=hide hp.below;have z0:=(HX2.out.grow hp.below).c0;have z1:=(HX2.out.grow hp.below).c1;have hf5:∀i,w5.frozen? ⟨q,i,none⟩=false:=fun i=>(hp.below.frozen (p:=⟨q,i,none⟩) HX2.out.lt).trans (HXf2.out i)
     have HBe:=hide (HB2.out.trans (hp.below.mono HB2.out.size));clear hp HGa e0 e1 u0 u1 hbr;go_wp2
     (try simp only[Exit.inBlock,Exit.then])
     refine bodyPost_ret (v:=.tuple #[.agg #[.string ⟨#[]⟩,.slice none 0 0],.int .i64 gc]) ?_ rfl ?_
     ·rw [results_cell_tmp rfl];go_simp
     rw[Hq2.out];exact zCu rfl ((HBe.out.setCell (p:=⟨q,0,none⟩) (by rw[Hq.out];exact Nat.le_refl _) _).setCell (p:=⟨q,1,none⟩) (by rw[Hq.out];exact Nat.le_refl _) _)
end Go.Proofs.YtdkekamkmlpnhaaGreatDoor
namespace Go.Proofs.YtdkekamkmlpnhaaGreatDoor
open Go.RowKit
open Go Go.RowKit
section
variable {w wx w':World} {q h:Nat} {SN:ByteArray} {Ae:Option Addr} {ne ce:Nat} {ys:List Value} {acc:List EA}
end
end Go.Proofs.YtdkekamkmlpnhaaGreatDoor
namespace Go.Proofs.YtdkekamkmlpnhaaGreatDoor
open Go Go.RowKit
end Go.Proofs.YtdkekamkmlpnhaaGreatDoor
namespace Go.Proofs.YtdkekamkmlpnhaaGreatDoor
open Go.RowKit Go.Maps
noncomputable def dropV (t:List UInt8) (l:List (List UInt8)) (n:List UInt8):List (List UInt8):=l.filter fun u=>decide ((valV t u).1≠n)
noncomputable def addL (L:List EA) (t:List UInt8) (vs:List (List UInt8)):List EA × Int:=
 if vs=[] then ([],19) else if (gatherL L t vs).2=0 then gatherL L t vs else ([],20)
noncomputable def replaceL (L:List EA) (t:List UInt8) (vs:List (List UInt8)):List EA × Int:=
 if (gatherL (setE L t []) t vs).2=0 then gatherL (setE L t []) t vs else ([],20)
open Classical in
noncomputable def dropsL (t:List UInt8):List EA->List (List UInt8)->List EA × Int
 | L,[]=>(L,0)
 | L,v::vs=>if ∃x∈pickE L t,(valV t x).1=(valV t v).1 then dropsL t (setE L t (dropV t (pickE L t) (valV t v).1)) vs else ([],16)
noncomputable def removeL (L:List EA) (t:List UInt8) (vs:List (List UInt8)):List EA × Int:=
 if pickE L t=[] then ([],16) else if vs=[] then (setE L t [],0) else dropsL t L vs
end Go.Proofs.YtdkekamkmlpnhaaGreatDoor
namespace Go.Proofs.YtdkekamkmlpnhaaGreatDoor
open Go.RowKit Flt
def RaiseR (x:Int) (v u s:List UInt8):Prop:=
 (x=3/\∃a b,IsInt v a/\IsInt u b/\IsInt s (a+b))\/(x=4/\∃a b c d,Small a/\Small b/\Small c/\Small d/\v=text a b/\u=text c d/\Small (a+c)/\Small (b+d)/\s=text (a+c) (b+d))
end Go.Proofs.YtdkekamkmlpnhaaGreatDoor
namespace Go.Proofs.YtdkekamkmlpnhaaGreatDoor
open Go Go.RowKit Go.Maps
open Classical in
noncomputable def sumV (x:Int) (v u:List UInt8):List UInt8:=if h:∃s,RaiseR x v u s then Classical.choose h else []
open Classical in
noncomputable def incL (L:List EA) (t:List UInt8) (x:Int) (vs:List (List UInt8)):List EA × Int:=
 if ¬(x=3\/x=4)\/vs.length≠1 then ([],19) else if pickE L t=[] then ([],16)
 else if ∃v∈pickE L t,¬∃s,RaiseR x v (vs.headD []) s then ([],19) else (setE L t ((pickE L t).map fun v=>sumV x v (vs.headD [])),0)
end Go.Proofs.YtdkekamkmlpnhaaGreatDoor
namespace Go.Proofs.YtdkekamkmlpnhaaGreatDoor
open Go Go.RowKit Go.Maps
open Classical in
noncomputable def changeL (L:List EA) (op:Int) (a:EA):List EA × Int:=
 if (typ a.1).2=0 then ([],17) else if op<0\/3<op then ([],2) else if ¬(∀v∈a.2,(valV (typ a.1).1 v).2=0) then ([],21)
 else if op=0 then addL L (typ a.1).1 a.2 else if op=1 then removeL L (typ a.1).1 a.2 else if op=2 then replaceL L (typ a.1).1 a.2
 else incL L (typ a.1).1 (typ a.1).2 a.2
abbrev CH:=Int × EA
noncomputable def changesL:List EA->List CH->List EA × Int
 | L,[]=>(L,0)
 | L,c::r=>if (changeL L c.1 c.2).2≠0 then ([],(changeL L c.1 c.2).2) else changesL (changeL L c.1 c.2).1 r
end Go.Proofs.YtdkekamkmlpnhaaGreatDoor
namespace Go.Proofs.YtdkekamkmlpnhaaGreatDoor
open Go Go.RowKit
theorem zKk (L:List EA) (c:CH) (r:List CH):changesL L (c::r)=if (changeL L c.1 c.2).2≠0 then ([],(changeL L c.1 c.2).2) else changesL (changeL L c.1 c.2).1 r:=by rw[changesL]
structure Added (L:List EA) (name v:List UInt8) (M:List EA):Prop where
 typ0:(typ name).2≠0
 ok:(valV (typ name).1 v).2=0
 new:¬WithinV (typ name).1 (pickE L (typ name).1) v
 is:M=setE L (typ name).1 (pickE L (typ name).1++[v])
theorem added {L M:List EA} {name v:List UInt8} (h:OkE L) (hc:changesL L [(0,(name,[v]))]=(M,0)):Added L name v M:=by
 rw[zKk] at hc;by_cases q:(changeL L 0 (name,[v])).2≠0
 ·rw [if_pos q] at hc;exact absurd (Prod.mk.inj hc).2 q
 ·rw [if_neg q,changesL] at hc;have e1:=(Prod.mk.inj hc).1;have q:(changeL L 0 (name,[v])).2=0:=by simpa using q
  unfold changeL at q e1;split at q
  ·simp at q
  ·rename_i h0;rw[if_neg h0] at e1;split at q
   ·simp at q
   ·rename_i h1;rw[if_neg h1] at e1;split at q
    ·simp at q
    ·rename_i h2;rw[if_neg h2] at e1;rw[if_pos rfl] at q e1;unfold addL at q e1;rw[if_neg (by simp)] at q e1;have hok:=Classical.not_not.1 h2 v (by simp);by_cases hw:WithinV (typ name).1 (pickE L (typ name).1) v
     ·exfalso;have hg:(gatherL L (typ name).1 [v]).2≠0:=by
       unfold gatherL;rw[if_neg (by simp[hok]),if_pos hw];simp
      rw[if_neg hg] at q;simp at q
     ·have hg:gatherL L (typ name).1 [v]=(setE L (typ name).1 (pickE L (typ name).1++[v]),0):=by
       unfold gatherL;rw[if_neg (by simp[hok]),if_neg hw];unfold gatherL;rfl
      simp only at e1;rw[hg,if_pos rfl] at e1;exact⟨h0,hok,hw,e1.symm⟩
end Go.Proofs.YtdkekamkmlpnhaaGreatDoor
namespace Go.Proofs.YtdkekamkmlpnhaaGreatDoor.Opens
open Go Go.ChangeShapes Go.WideShapes Go.ChangeAt Go.RowKit Go.Deep
theorem self_txtE (s:ByteArray):txt s.data.toList=s:=ByteArray.ext (Array.ext' (by simp[txt]))
theorem zQl {H:Type}:∀d:DataW H,1<=Rows.uptoBulk d:=by
 intro d;cases d with
 | lit l=>cases l<;>simp[Rows.uptoBulk]
 | _=>simp[Rows.uptoBulk]
theorem zDz {H:Type} (D:Nat->DataW H):∀l:List Nat,l.length<=Rows.uptoBulkAll (l.map D)
 | []=>by simp[Rows.uptoBulkAll]
 | r::l=>by
  have h1:=zQl (D r);have h2:=zDz D l;simp only[List.map_cons,List.length_cons,Rows.uptoBulkAll];omega
theorem zD4 {H:Type} (D:Nat->DataW H):∀{l:List Nat} {r:Nat},r∈l->Rows.uptoBulk (D r)<=Rows.uptoBulkAll (l.map D)
 | s::l,r,h=>by
  simp only[List.map_cons,Rows.uptoBulkAll];cases List.mem_cons.1 h with
  | inl e=>subst e;omega
  | inr e=>have:=zD4 D e;omega
structure Sm1 (N:Nat) (a:EA):Prop where
 name:a.1.length<=N
 vals:a.2.length<=N
 each:∀u∈a.2,u.length<=N
theorem Sm1.mono {N M:Nat} {a:EA} (h:Sm1 N a) (hM:N<=M):Sm1 M a:=⟨Nat.le_trans h.name hM,Nat.le_trans h.vals hM,fun u hu=>Nat.le_trans (h.each u hu) hM⟩
structure SmE (N:Nat) (L:List EA):Prop where
 len:L.length<=N
 each:∀a∈L,Sm1 N a
theorem SmE.mono {N M:Nat} {L:List EA} (h:SmE N L) (hM:N<=M):SmE M L:=⟨Nat.le_trans h.len hM,fun a ha=>(h.each a ha).mono hM⟩
structure SmN (N:Nat) (L:List EN):Prop where
 len:L.length<=N
 each:∀e∈L,e.1.length<=N/\SmE N e.2
theorem flat2E (f:Nat->List Value):∀(n:Nat),(∀i,i<n->(f i).length=2)->((List.range n).flatMap f).length=n*2/\∀j u,((List.range n).flatMap f)[j]?=some u->j/2<n/\(f (j/2))[j % 2]?=some u
 | 0,_=>⟨rfl,fun j u h=>by simp at h⟩
 | n+1,h=>by
  obtain⟨h1,h2⟩:=flat2E f n (fun i hi=>h i (by omega));have h7:=h n (by omega);rw[List.range_succ,List.flatMap_append];simp only[List.flatMap_cons,List.flatMap_nil,List.append_nil];refine⟨by rw[List.length_append,h1,h7];omega,fun j u hu=>?_⟩;by_cases hj:j<n*2
  ·rw [List.getElem?_append_left (by rw[h1];exact hj)] at hu;obtain⟨h3,h4⟩:=h2 j u hu;exact⟨by omega,h4⟩
  ·rw [List.getElem?_append_right (by rw[h1];omega),h1] at hu;have hl:=(List.getElem?_eq_some_iff.1 hu).1;have e1:j/2=n:=by omega
   have e2:j % 2=j-n*2:=by omega
   rw[e1,e2];exact⟨by omega,hu⟩
theorem zGs (f:Nat->List Value):∀(n:Nat),(∀i,i<n->(f i).length=2)->∀i,i<n->((List.range n).flatMap f)[i*2]?=(f i)[0]?/\((List.range n).flatMap f)[i*2+1]?=(f i)[1]?
 | 0,_,i,hi=>by omega
 | n+1,h,i,hi=>by
  have hlen:=(flat2E f n (fun i hi=>h i (by omega))).1;rw[List.range_succ,List.flatMap_append];simp only[List.flatMap_cons,List.flatMap_nil,List.append_nil];by_cases hin:i<n
  ·rw [List.getElem?_append_left (by omega),List.getElem?_append_left (by omega)];exact zGs f n (fun i hi=>h i (by omega)) i hin
  ·obtain rfl:i=n:=by omega
   rw[List.getElem?_append_right (by omega),List.getElem?_append_right (by omega),hlen];constructor
   ·congr 1;omega
   ·congr 1;omega
theorem zKy {H:Type} {enc:TypeId × Value->H} {P:Program} {W:World} {base fuel:Nat} {sp:Nat->Bool} {held:Bool} {t e:TypeId} {v:Value} {x:DataW H × List MemPlace}
  (ht:P.underlying t=some (.slice e)) (ce:P.cellsOf e=1) (he:P.underlying e=some .string) (h:DataW.trod enc P W base sp held fuel t [v]=some x):
  ∃A c L,v=.slice A L.length c/\L.length<=c/\c<=maxLen/\Has W W.heap.size 1 A L.length (strs L)/\L.length<=Rows.uptoBulk x.1/\∀u∈L,u.length<=Rows.uptoBulk x.1:=by
 rcases open_slice1 ht ce h with⟨hcs,hx⟩ | ⟨a,len,cap,m,k,V,D,Pl,hcs,hb,hl,hm,hmm,hx,hall⟩
 ·simp at hcs;subst hcs;exact⟨none,0,[],rfl,by simp,by simp,Has.nil,by simp,fun u hu=>by cases hu⟩
 ·simp at hcs;subst hcs;have hlm:len<=m:=by rw[hmm];split<;>omega
  have each:∀i,i<len->∃q:List UInt8,W.cell? (a.add i)=some (.string (txt q))/\D i=.lit (.string q):=by
   intro i hi;obtain⟨h0,h1⟩:=hall i (by omega);obtain⟨s,hs,hd,_⟩:=DataW.trod_string he h1;have:V i=.string s:=by simpa using hs
   exact⟨s.data.toList,by rw[self_txtE,h0,this],by simpa using congrArg Prod.fst hd⟩
  obtain⟨q,hq⟩:=choose_lt each;refine⟨some a,cap,(List.range len).map q,by simp,by simp;omega,by omega,?_,?_,?_⟩
  ·rw [List.length_map,List.length_range];refine⟨by simp[strs],?_⟩;rcases Nat.eq_zero_or_pos len with h0 | h0
   ·subst h0;exact .inl rfl
   ·refine .inr ⟨a,rfl,?_,fun j u hu=>?_⟩
    ·have:=World.block_lt_of_cell? W _ (hq 0 h0).1
     rwa [zA6] at this
    ·have hj:j<len:=by
      have:=(List.getElem?_eq_some_iff.1 hu).1;simpa[strs] using this
     rw[(hq j hj).1];simpa[strs,List.getElem?_range hj] using hu
  ·rw [show x.1=_ from congrArg Prod.fst hx];have hbk:=zDz D (List.range len);simp only[Rows.uptoBulk,List.length_map,List.length_range] at hbk ⊢;omega
  ·intro u hu;obtain⟨i,hi,rfl⟩:=List.mem_map.1 hu;have h2:=zD4 D hi;rw[(hq i (List.mem_range.1 hi)).2] at h2;rw[show x.1=_ from congrArg Prod.fst hx];simp only[Rows.uptoBulk] at h2 ⊢;omega
theorem zDv {H:Type} {enc:TypeId × Value->H} {P:Program} {W:World} {base fuel:Nat} {sp:Nat->Bool} {held:Bool} {t E e5:TypeId} {f0 f1:Field} {v:Value} {x:DataW H × List MemPlace}
  (ht:P.underlying t=some (.slice E)) (hE:P.underlying E=some (.struct #[f0,f1])) (cE:P.cellsOf E=2) (o0:f0.offset=0) (o1:f1.offset=1) (c0:P.cellsOf f0.type=1) (c1:P.cellsOf f1.type=1)
  (s0:P.underlying f0.type=some .string) (s1:P.underlying f1.type=some (.slice e5)) (ce5:P.cellsOf e5=1) (se5:P.underlying e5=some .string) (h:DataW.trod enc P W base sp held fuel t [v]=some x):
  ∃A c xs L,v=.slice A L.length c/\L.length<=c/\c<=maxLen/\Has W W.heap.size 2 A L.length xs/\EAs W W.heap.size xs L/\SmE (Rows.uptoBulk x.1) L:=by
 rcases open_slice ht h with⟨hcs,hx⟩ | ⟨ad,n,c,m,k,D,Pl,hcs,hb,hl,hm,hmm,hx,hall⟩
 ·simp at hcs;subst hcs;exact⟨none,0,[],[],rfl,by simp,by simp,Has.nil,⟨rfl,fun i a ha=>by simp at ha⟩,by simp,fun a ha=>by cases ha⟩
 ·simp at hcs;subst hcs;have hlm:n<=m:=by rw[hmm];split<;>omega
  have each:∀i,i<n->∃q:List Value × EA,(∀j u,q.1[j]?=some u->W.cell? ((ad.add (i*2)).add j)=some u)/\q.1.length=2/\(∃V cv,q.1=[.string (txt q.2.1),.slice V q.2.2.length cv]/\q.2.2.length<=cv/\cv<=maxLen/\Has W W.heap.size 1 V q.2.2.length (strs q.2.2))/\Sm1 (Rows.uptoBulk (D i)) q.2:=by
   intro i hi;obtain⟨cs',h1,h2⟩:=hall i (by omega);rw[cE] at h1;obtain⟨xs,m2,rfl,hDx,hl2,hxl,hf2⟩:=DataW.trod_struct hE h2;rw[cE] at hl2
   match cs',hl2 with
   | [v0,v1],_=>
    have hx2:xs.length=2:=by simpa using hxl
    match xs,hx2 with
    | [y0,y1],_=>
     have g0:=hf2 0 f0 rfl;have g1:=hf2 1 f1 rfl;simp[o0,c0] at g0;simp[o1,c1] at g1;obtain⟨a,ha,hy0,_⟩:=DataW.trod_string s0 g0;simp only[List.cons.injEq,and_true] at ha;subst ha;obtain⟨V,cv,L,hv1,k1,k2,hV,kb1,kb2⟩:=zKy s1 ce5 se5 g1;subst hv1;have e0:D i=.agg [y0.1,y1.1]:=by simpa using congrArg Prod.fst hDx
     have e1:y0.1=.lit (.string a.data.toList):=(by simpa using congrArg Prod.fst hy0);have hD0:a.data.toList.length<=Rows.uptoBulk (D i):=(by rw[e0,e1];simp only[Rows.uptoBulk,Rows.uptoBulkAll];omega);have hD1:Rows.uptoBulk y1.1<=Rows.uptoBulk (D i):=(by rw[e0];simp only[Rows.uptoBulk,Rows.uptoBulkAll];omega);obtain⟨_,_,hcell⟩:=World.cells?_some h1;refine⟨([.string a,.slice V L.length cv],(a.data.toList,L)),fun j u hu=>?_,rfl,⟨V,cv,by simp only[self_txtE],k1,k2,hV⟩,⟨hD0,by simp only;omega,fun u hu=>Nat.le_trans (kb2 u hu) hD1⟩⟩;have hj:j<2:=(List.getElem?_eq_some_iff.1 hu).1;rw[hcell j hj];exact hu
  haveI:Inhabited EA:=⟨([],[])⟩
  obtain⟨q,hq⟩:=choose_lt each;have hflat:=flat2E (fun i=>(q i).1) n (fun i hi=>(hq i hi).2.1);have hat:=zGs (fun i=>(q i).1) n (fun i hi=>(hq i hi).2.1);refine⟨some ad,c,(List.range n).flatMap fun i=>(q i).1,(List.range n).map fun i=>(q i).2,by simp,by simp;omega,by omega,⟨by rw[hflat.1];simp,?_⟩,⟨by rw[hflat.1];simp,fun i a ha=>?_⟩,?_,?_⟩
  ·rcases Nat.eq_zero_or_pos n with h0 | h0
   ·subst h0;exact .inl rfl
   ·refine .inr ⟨ad,rfl,?_,fun j u hu=>?_⟩
    ·obtain ⟨h1,h2,_⟩:=hq 0 h0;have:=World.block_lt_of_cell? W _ (h1 0 _ (List.getElem?_eq_getElem (by omega)))
     rwa [zA6,zA6] at this
    ·obtain ⟨h1,h2⟩:=hflat.2 j u hu;have:=(hq (j/2) h1).1 (j % 2) u h2;rw[zLx] at this
     rwa [show j/2*2+j % 2=j by omega] at this
  ·have hi:i<n:=by
    have:=(List.getElem?_eq_some_iff.1 ha).1;simpa using this
   obtain rfl:(q i).2=a:=by simpa[List.getElem?_range hi] using ha
   obtain⟨_,_,hP,_⟩:=hq i hi;obtain⟨e0,e1⟩:=hat i hi;obtain⟨V,cv,h1,k1,k2,h2⟩:=hP;exact⟨V,cv,by rw[e0,h1];rfl,by rw[e1,h1];rfl,k1,k2,h2⟩
  ·rw [show x.1=_ from congrArg Prod.fst hx];have hbk:=zDz D (List.range n);simp only[Rows.uptoBulk,List.length_map,List.length_range] at hbk ⊢;omega
  ·intro a ha;have hle:∀i,i<n->Rows.uptoBulk (D i)<=Rows.uptoBulk x.1:=fun i hi=>by
    rw[show x.1=_ from congrArg Prod.fst hx];have h2:=zD4 D (List.mem_range.2 hi);simp only[Rows.uptoBulk];omega
   obtain⟨i,hi,rfl⟩:=List.mem_map.1 ha;have hi:=List.mem_range.1 hi;exact (hq i hi).2.2.2.mono (hle i hi)
theorem zOo {H:Type} {enc:TypeId × Value->H} {P:Program} {W:World} {base fuel:Nat} {sp:Nat->Bool} {held:Bool} {t E E2 e5:TypeId} {f0 f1 h0 h1:Field} {v:Value} {x:DataW H × List MemPlace}
  (ht:P.underlying t=some (.slice E)) (hE:P.underlying E=some (.struct #[f0,f1])) (cE:P.cellsOf E=2) (o0:f0.offset=0) (o1:f1.offset=1) (c0:P.cellsOf f0.type=1) (c1:P.cellsOf f1.type=1)
  (s0:P.underlying f0.type=some .string) (s1:P.underlying f1.type=some (.slice E2)) (hE2:P.underlying E2=some (.struct #[h0,h1])) (cE2:P.cellsOf E2=2) (p0:h0.offset=0) (p1:h1.offset=1) (d0:P.cellsOf h0.type=1) (d1:P.cellsOf h1.type=1)
  (r0:P.underlying h0.type=some .string) (r1:P.underlying h1.type=some (.slice e5)) (ce5:P.cellsOf e5=1) (se5:P.underlying e5=some .string) (h:DataW.trod enc P W base sp held fuel t [v]=some x):
  ∃A c xs L,v=.slice A L.length c/\L.length<=c/\c<=maxLen/\Has W W.heap.size 2 A L.length xs/\ENs W W.heap.size xs L/\SmN (Rows.uptoBulk x.1) L:=by
 rcases open_slice ht h with⟨hcs,hx⟩ | ⟨ad,n,c,m,k,D,Pl,hcs,hb,hl,hm,hmm,hx,hall⟩
 ·simp at hcs;subst hcs;exact⟨none,0,[],[],rfl,by simp,by simp,Has.nil,⟨rfl,fun i a ha=>by simp at ha⟩,by simp,fun a ha=>by cases ha⟩
 ·simp at hcs;subst hcs;have hlm:n<=m:=by rw[hmm];split<;>omega
  have each:∀i,i<n->∃q:List Value × EN,(∀j u,q.1[j]?=some u->W.cell? ((ad.add (i*2)).add j)=some u)/\q.1.length=2/\(∃V cv ys,q.1=[.string (txt q.2.1),.slice V q.2.2.length cv]/\q.2.2.length<=cv/\cv<=maxLen/\Has W W.heap.size 2 V q.2.2.length ys/\EAs W W.heap.size ys q.2.2)/\(q.2.1.length<=Rows.uptoBulk (D i)/\SmE (Rows.uptoBulk (D i)) q.2.2):=by
   intro i hi;obtain⟨cs',h1,h2⟩:=hall i (by omega);rw[cE] at h1;obtain⟨xs,m2,rfl,hDx,hl2,hxl,hf2⟩:=DataW.trod_struct hE h2;rw[cE] at hl2
   match cs',hl2 with
   | [v0,v1],_=>
    have hx2:xs.length=2:=by simpa using hxl
    match xs,hx2 with
    | [y0,y1],_=>
     have g0:=hf2 0 f0 rfl;have g1:=hf2 1 f1 rfl;simp[o0,c0] at g0;simp[o1,c1] at g1;obtain⟨a,ha,hy0,_⟩:=DataW.trod_string s0 g0;simp only[List.cons.injEq,and_true] at ha;subst ha;obtain⟨V,cv,ys,L,hv1,k1,k2,hV,hA,kb⟩:=zDv s1 hE2 cE2 p0 p1 d0 d1 r0 r1 ce5 se5 g1;subst hv1;have e0:D i=.agg [y0.1,y1.1]:=by simpa using congrArg Prod.fst hDx
     have e1:y0.1=.lit (.string a.data.toList):=(by simpa using congrArg Prod.fst hy0);have hD0:a.data.toList.length<=Rows.uptoBulk (D i):=(by rw[e0,e1];simp only[Rows.uptoBulk,Rows.uptoBulkAll];omega);have hD1:Rows.uptoBulk y1.1<=Rows.uptoBulk (D i):=(by rw[e0];simp only[Rows.uptoBulk,Rows.uptoBulkAll];omega);obtain⟨_,_,hcell⟩:=World.cells?_some h1;refine⟨([.string a,.slice V L.length cv],(a.data.toList,L)),fun j u hu=>?_,rfl,⟨V,cv,ys,by simp only[self_txtE],k1,k2,hV,hA⟩,⟨hD0,kb.mono hD1⟩⟩;have hj:j<2:=(List.getElem?_eq_some_iff.1 hu).1;rw[hcell j hj];exact hu
  haveI:Inhabited EN:=⟨([],[])⟩
  obtain⟨q,hq⟩:=choose_lt each;have hflat:=flat2E (fun i=>(q i).1) n (fun i hi=>(hq i hi).2.1);have hat:=zGs (fun i=>(q i).1) n (fun i hi=>(hq i hi).2.1);refine⟨some ad,c,(List.range n).flatMap fun i=>(q i).1,(List.range n).map fun i=>(q i).2,by simp,by simp;omega,by omega,⟨by rw[hflat.1];simp,?_⟩,⟨by rw[hflat.1];simp,fun i a ha=>?_⟩,?_,?_⟩
  ·rcases Nat.eq_zero_or_pos n with g0 | g0
   ·subst g0;exact .inl rfl
   ·refine .inr ⟨ad,rfl,?_,fun j u hu=>?_⟩
    ·obtain ⟨h1,h2,_⟩:=hq 0 g0;have:=World.block_lt_of_cell? W _ (h1 0 _ (List.getElem?_eq_getElem (by omega)))
     rwa [zA6,zA6] at this
    ·obtain ⟨h1,h2⟩:=hflat.2 j u hu;have:=(hq (j/2) h1).1 (j % 2) u h2;rw[zLx] at this
     rwa [show j/2*2+j % 2=j by omega] at this
  ·have hi:i<n:=by
    have:=(List.getElem?_eq_some_iff.1 ha).1;simpa using this
   obtain rfl:(q i).2=a:=by simpa[List.getElem?_range hi] using ha
   obtain⟨_,_,hP,_⟩:=hq i hi;obtain⟨e0,e1⟩:=hat i hi;obtain⟨V,cv,ys,h1,k1,k2,h2,h3⟩:=hP;exact⟨V,cv,ys,by rw[e0,h1];rfl,by rw[e1,h1];rfl,k1,k2,h2,h3⟩
  ·rw [show x.1=_ from congrArg Prod.fst hx];have hbk:=zDz D (List.range n);simp only[Rows.uptoBulk,List.length_map,List.length_range] at hbk ⊢;omega
  ·intro a ha;have hle:∀i,i<n->Rows.uptoBulk (D i)<=Rows.uptoBulk x.1:=fun i hi=>by
    rw[show x.1=_ from congrArg Prod.fst hx];have h2:=zD4 D (List.mem_range.2 hi);simp only[Rows.uptoBulk];omega
   obtain⟨i,hi,rfl⟩:=List.mem_map.1 ha;have hi:=List.mem_range.1 hi;exact⟨Nat.le_trans (hq i hi).2.2.2.1 (hle i hi),(hq i hi).2.2.2.2.mono (hle i hi)⟩
theorem open_eattrs {H:Type} {enc:TypeId × Value->H} {P:Program} {W:World} {r:Reach} {base b0:Nat} {sp:Nat->Bool} {held:Bool} {t E e5:TypeId} {v:Value} {d:DataW H} {p:List MemPlace} {f0 f1:Field}
  (ht:P.underlying t=some (.slice E)) (hE:P.underlying E=some (.struct #[f0,f1])) (cE:P.cellsOf E=2) (o0:f0.offset=0) (o1:f1.offset=1) (c0:P.cellsOf f0.type=1) (c1:P.cellsOf f1.type=1)
  (s0:P.underlying f0.type=some .string) (s1:P.underlying f1.type=some (.slice e5)) (ce5:P.cellsOf e5=1) (se5:P.underlying e5=some .string) (hv:Value.okWide P W r b0 t v) (h:DataW.Trod enc P W base sp held t v d p):
  ∃A c xs L,v=.slice A L.length c/\L.length<=c/\c<=maxLen/\Has W W.heap.size 2 A L.length xs/\EAs W W.heap.size xs L/\SmE (Rows.uptoBulk d) L:=by
 obtain⟨A,n,c,rfl⟩:=okWide_slice ht hv;obtain⟨fuel,hf⟩:=h;exact zDv ht hE cE o0 o1 c0 c1 s0 s1 ce5 se5 (x:=(d,p)) (by simpa[Value.cells] using hf)
theorem zKr {H:Type} {enc:TypeId × Value->H} {P:Program} {W:World} {r:Reach} {base b0:Nat} {sp:Nat->Bool} {held:Bool} {t E E2 e5:TypeId} {v:Value} {d:DataW H} {p:List MemPlace} {f0 f1 h0 h1:Field}
  (ht:P.underlying t=some (.slice E)) (hE:P.underlying E=some (.struct #[f0,f1])) (cE:P.cellsOf E=2) (o0:f0.offset=0) (o1:f1.offset=1) (c0:P.cellsOf f0.type=1) (c1:P.cellsOf f1.type=1)
  (s0:P.underlying f0.type=some .string) (s1:P.underlying f1.type=some (.slice E2)) (hE2:P.underlying E2=some (.struct #[h0,h1])) (cE2:P.cellsOf E2=2) (p0:h0.offset=0) (p1:h1.offset=1) (d0:P.cellsOf h0.type=1) (d1:P.cellsOf h1.type=1)
  (r0:P.underlying h0.type=some .string) (r1:P.underlying h1.type=some (.slice e5)) (ce5:P.cellsOf e5=1) (se5:P.underlying e5=some .string) (hv:Value.okWide P W r b0 t v) (h:DataW.Trod enc P W base sp held t v d p):
  ∃A c xs L,v=.slice A L.length c/\L.length<=c/\c<=maxLen/\Has W W.heap.size 2 A L.length xs/\ENs W W.heap.size xs L/\SmN (Rows.uptoBulk d) L:=by
 obtain⟨A,n,c,rfl⟩:=okWide_slice ht hv;obtain⟨fuel,hf⟩:=h;exact zOo ht hE cE o0 o1 c0 c1 s0 s1 hE2 cE2 p0 p1 d0 d1 r0 r1 ce5 se5 (x:=(d,p)) (by simpa[Value.cells] using hf)
theorem open_entry {H:Type} {enc:TypeId × Value->H} {P:Program} {W:World} {r:Reach} {base b0:Nat} {sp:Nat->Bool} {held:Bool} {E E2 e5:TypeId} {v:Value} {d:DataW H} {p:List MemPlace} {f0 f1 h0 h1:Field}
  (hE:P.underlying E=some (.struct #[f0,f1])) (cE:P.cellsOf E=2) (o0:f0.offset=0) (o1:f1.offset=1) (c0:P.cellsOf f0.type=1) (c1:P.cellsOf f1.type=1)
  (s0:P.underlying f0.type=some .string) (s1:P.underlying f1.type=some (.slice E2)) (hE2:P.underlying E2=some (.struct #[h0,h1])) (cE2:P.cellsOf E2=2) (p0:h0.offset=0) (p1:h1.offset=1) (d0:P.cellsOf h0.type=1) (d1:P.cellsOf h1.type=1)
  (r0:P.underlying h0.type=some .string) (r1:P.underlying h1.type=some (.slice e5)) (ce5:P.cellsOf e5=1) (se5:P.underlying e5=some .string)
  (hval:Value.okWide P W r b0 E v) (h:DataW.Trod enc P W base sp held E v d p):
  ∃(A:Option Addr) (c:Nat) (ys:List Value) (e:EN),v=.agg #[.string (txt e.1),.slice A e.2.length c]/\e.2.length<=c/\c<=maxLen/\Has W W.heap.size 2 A e.2.length ys/\EAs W W.heap.size ys e.2/\e.1.length<=Rows.uptoBulk d/\SmE (Rows.uptoBulk d) e.2:=by
 simp only[Value.okWide,hE] at hval;obtain⟨cs,rfl,_⟩:=hval;obtain⟨fuel,hf⟩:=h;obtain⟨l⟩:=cs;obtain⟨xs,m,rfl,hDx,hl,hxl,hf2⟩:=DataW.trod_struct hE hf;simp only[Value.cells] at hl hf2;rw[cE] at hl
 match l,hl with
 | [v0,v1],_=>
  have hx2:xs.length=2:=by simpa using hxl
  match xs,hx2 with
  | [y0,y1],_=>
   have g0:=hf2 0 f0 rfl;have g1:=hf2 1 f1 rfl;simp[o0,c0] at g0;simp[o1,c1] at g1;obtain⟨a,ha,hy0,_⟩:=DataW.trod_string s0 g0;simp only[List.cons.injEq,and_true] at ha;subst ha;obtain⟨V,cv,ys,L,hv1,k1,k2,hV,hA,kb⟩:=zDv s1 hE2 cE2 p0 p1 d0 d1 r0 r1 ce5 se5 g1;subst hv1;have e0:d=.agg [y0.1,y1.1]:=by simpa using congrArg Prod.fst hDx
   have e1:y0.1=.lit (.string a.data.toList):=by simpa using congrArg Prod.fst hy0
   have hD0:a.data.toList.length<=Rows.uptoBulk d:=by rw[e0,e1];simp only[Rows.uptoBulk,Rows.uptoBulkAll];omega
   have hD1:Rows.uptoBulk y1.1<=Rows.uptoBulk d:=by rw[e0];simp only[Rows.uptoBulk,Rows.uptoBulkAll];omega
   exact⟨V,cv,ys,(a.data.toList,L),by simp only[self_txtE],k1,k2,hV,hA,hD0,kb.mono hD1⟩
end Go.Proofs.YtdkekamkmlpnhaaGreatDoor.Opens
namespace Go.Proofs.YtdkekamkmlpnhaaGreatDoor
open Go Go.RowKit
open Go Go.RowKit Go.Proofs.YtdkekamkmlpnhaaGreatDoor.Opens
structure TB (w:World) (q:Nat) (S:ByteArray) (A:Option Addr) (n c:Nat) (xs:List Value) (L:List EA):Prop where
 box:BoxE w q S A n c
 has:Has w w.heap.size 2 A n xs
 attrs:EAs w w.heap.size xs L
section
variable {w w':World} {h lo n:Nat} {A:Option Addr} {ys:List Value} {L:List EA}
end
end Go.Proofs.YtdkekamkmlpnhaaGreatDoor
namespace Go.Proofs.YtdkekamkmlpnhaaGreatDoor
open Go.RowKit
theorem ENs.snoc {w:World} {B:Nat} {xs:List Value} {L:List EN} (h:ENs w B xs L) {a:EN} {A:Option Addr} {c:Nat} {ys:List Value} (hc:a.2.length<=c) (hm:c<=maxLen) (hH:Has w B 2 A a.2.length ys) (hE:EAs w B ys a.2):ENs w B (xs++[.string (txt a.1),.slice A a.2.length c]) (L++[a]):=
 (h.ensP.snoc hc hm hH.hasP hE.easP).ens fun b hb=>hb
section
variable {w w':World} {B base:Nat} {E:TypeId} {v v':Value} {zs:List Value} {L:List EN}
end
end Go.Proofs.YtdkekamkmlpnhaaGreatDoor
