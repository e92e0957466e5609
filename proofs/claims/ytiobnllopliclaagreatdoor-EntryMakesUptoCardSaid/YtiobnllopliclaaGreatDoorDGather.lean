/- The program's gather: an attribute's values put behind those of its type. By an AI agent. -/
import Derived.Test.YtiobnllopliclaaGreatDoorDPutL
import Derived.Test.YtiobnllopliclaaGreatDoorDZ
import Derived.Test.YtiobnllopliclaaGreatDoorEX
set_option maxRecDepth 100000
set_option maxHeartbeats 32000000
namespace Go.Proofs.YtiobnllopliclaaGreatDoor
open Go.RowKit Go.Maps
set_option linter.unusedVariables false
set_option linter.unusedSimpArgs false
theorem valV_len (t v:List UInt8):(valV t v).1.length≤1000:=by
 unfold valV
 split
 ·exact Nat.le_trans (norm_len t v) (by omega)
 ·split
  ·simp
  ·split
   ·rename_i h
    exact (norm_again h).2
   ·simp
structure GatherPost (w0:World) (d nx:Nat) (L:List EA) (a:EA) (e:Ending) (w':World):Prop where
 code:e=.returned (.int .i64 (gather1 L a).2)
 below:Below w0.heap.size w0 w'
 draft:(gather1 L a).2=0→Draft w' w0.heap.size d (nx+a.2.length) (gather1 L a).1
theorem gather_any {d nx:Nat} {L:List EA} (w0 w:World) (hT:TM w0) (hb:Below w0.heap.size w0 w) (hD:Draft w w0.heap.size d nx L) (a:EA) (V:Option Addr) (n c:Nat) (hV:Has w0 w0.heap.size 1 V n (strs a.2)) (hn:n=a.2.length)
  (ha:a.1.length≤1048576) (hvs:∀v∈a.2,v.length≤1000000) (hnx:nx+a.2.length≤1000000000):
  Calls Tryz.prog 33 #[.pointer (some ⟨d,0,none⟩),.agg #[.string (txt a.1),.slice V n c]] w (GatherPost w0 d nx L a):=by
 suffices H:Calls Tryz.prog 33 #[.pointer (some ⟨d,0,none⟩),.agg #[.string (txt a.1),.slice V n c]] w fun e w'=>∃g,e=.returned (.int .i64 g)∧g=(gather1 L a).2∧Below w0.heap.size w0 w'∧((gather1 L a).2=0→Draft w' w0.heap.size d (nx+a.2.length) (gather1 L a).1) from
  H.mono fun e w' ⟨g,h1,h2,h3,h4⟩=>⟨by rw[h1,h2],h3,h4⟩
 have hb1:=below1 w (.cells #[.string (txt a.1),.slice V n c] 52)
 have hX:=BoxE.new w (txt a.1) V n c 52
 have hTy:=fun w hT=>type_any (txt a.1) w hT
 simp only[txt_toList] at hTy
 have hB0:w0.heap.size≤w.heap.size:=hb.size
 have hD1:=hD.grow hb1
 have hbb:=hb.trans (hb1.mono hB0)
 have hTy1:=hTy _ (hT.below hbb).tt.types
 have x0:=hX.c0
 have x1:=hX.c1
 have HC:=hide hTy1
 have HX:=hide hX
 have HD:=hide hD1
 have HB:=hide hbb
 have HT:=hide hT
 have HV:=hide hV
 have HN:=hide hn
 have HVS:=hide hvs
 have HNX:=hide hnx
 have HS:=hide (Nat.le_trans hB0 hb1.size)
 clear hTy hTy1 hb1 hX hD1 hbb hD hb hT hV hvs hB0 hn
 by_cases h0:(typ a.1).2=0
 ·have hg:gather1 L a=([],17):=by unfold gather1;rw[if_pos h0]
  rw[hg]
  rw[h0] at HC
  generalize txt (typ a.1).1=TN at *
  generalize txt a.1=S at *
  go_enter Tryz.func33,Tryz.ntmps33
  go_wp2_with (go_at_call 61;fail)
  refine HC.out.mono ?_
  rintro e w2 ⟨rfl,hb2⟩
  have HB2:=hide (HB.out.trans (hb2.mono HS.out))
  clear hb2 HB HC x0 x1
  go_wp2
  go_ret
  exact⟨17,rfl,rfl,HB2.out,fun q=>absurd q (by decide)⟩
 ·have q0:((typ a.1).2==0)=false:=beq_false_of_ne h0
  obtain⟨t,ht⟩:∃t,(typ a.1).1=t:=⟨_,rfl⟩
  have htl:t.length≤1000000:=by rw[←ht];have:=typ_small a.1;omega
  have Htl:=hide htl
  rw[ht] at HC
  by_cases hn0:n=0
  ·have hg:gather1 L a=([],19):=by
    unfold gather1
    rw[if_neg h0,if_pos (List.length_eq_zero_iff.1 (by have:=HN.out;omega))]
   rw[hg]
   subst hn0
   generalize (typ a.1).2=ty at *
   generalize txt t=TN at *
   generalize txt a.1=S at *
   go_enter Tryz.func33,Tryz.ntmps33
   go_wp2_with (go_at_call 61;fail)
   refine HC.out.mono ?_
   rintro e w2 ⟨rfl,hb2⟩
   have y1:=(HX.out.grow hb2).c1
   have HB2:=hide (HB.out.trans (hb2.mono HS.out))
   clear hb2 HB HC x0 x1
   go_wp2
   go_ret
   exact⟨19,rfl,rfl,HB2.out,fun q=>absurd q (by decide)⟩
  ·have hne:a.2≠[]:=fun q=>hn0 (by rw[HN.out,q];rfl)
   have hg:gather1 L a=gatherL L t a.2:=by
    unfold gather1
    rw[if_neg h0,if_neg hne,ht]
   rw[hg]
   obtain⟨LG,hLG⟩:∃LG,(gatherL L t a.2).1=LG:=⟨_,rfl⟩
   obtain⟨g,hgg⟩:∃g,(gatherL L t a.2).2=g:=⟨_,rfl⟩
   have HG:Hid (gatherL L t a.2=(LG,g)):=hide (Prod.ext hLG hgg)
   rw[hLG,hgg]
   have hnb:n≤1000000000:=by have:=HNX.out;have:=HN.out;omega
   have hnz:((n:Int)==0)=false:=beq_false_of_ne (by omega)
   have HVal:=hide (fun (v:List UInt8) (hv:v∈a.2) (w:World) (hT:TM w)=>pvalue_big t v htl (HVS.out v hv) w hT)
   clear hLG hgg hg h0 ht htl ha
   generalize (typ a.1).2=ty at *
   obtain⟨TN,hTN⟩:∃TN,txt t=TN:=⟨_,rfl⟩
   have HTN:=hide hTN
   rw[hTN] at HC
   clear hTN
   generalize txt a.1=S at *
   go_enter Tryz.func33,Tryz.ntmps33
   go_wp2_with (go_at_call 61;fail)
   refine HC.out.mono ?_
   rintro e w2 ⟨rfl,hb2⟩
   have y1:=(HX.out.grow hb2).c1
   have HB2:=hide (HB.out.trans (hb2.mono HS.out))
   have HD2:=hide (HD.out.grow hb2)
   clear hb2 HB HC x0 x1 HX HD
   go_wp2
   go_loopg [26] n (fun r s26 wx=>∃(i:Nat) (Li:List EA),i+r=n∧s26=.int .i64 (i:Int)∧Hid (gatherL Li t (a.2.drop i)=(LG,g))∧Hid (Draft wx w0.heap.size d (nx+i) Li)∧Hid (Below w0.heap.size w0 wx))
   case atStart=>exact⟨0,L,by omega,rfl,hide (by rw[List.drop_zero];exact HG.out),hide (by rw[Nat.add_zero];exact HD2.out),HB2⟩
   case round=>
    obtain⟨i,Li,hig,rfl,hG,hDi,hBi⟩:=hrel
    clear y1 HD2 HB2 HG
    cases gk with
    | zero=>
     obtain rfl:i=n:=by omega
     have hiz:¬((i:Int)<(i:Int)):=by omega
     have hGe:=hG.out
     rw[List.drop_eq_nil_of_le (by rw[←HN.out];exact Nat.le_refl _)] at hGe
     unfold gatherL at hGe
     have HGe:=hide hGe
     clear hGe hG HVal HV HT HVS
     go_wp2
     go_ret
     obtain⟨e1,e2⟩:=Prod.mk.inj HGe.out
     exact⟨0,rfl,e2,hBi.out,fun _=>by rw[←HN.out,←e1];exact hDi.out⟩
    | succ r=>
     have hi:i<n:=by omega
     have hiz:(i:Int)<(n:Int):=by omega
     obtain⟨v,hv⟩:∃v,a.2[i]?=some v:=⟨_,List.getElem?_eq_getElem (by rw[←HN.out];exact hi)⟩
     have hvm:=List.mem_of_getElem? hv
     have hdrop:a.2.drop i=v::a.2.drop (i+1):=by
      obtain⟨h1,h2⟩:=List.getElem?_eq_some_iff.1 hv
      rw[List.drop_eq_getElem_cons h1,h2]
     obtain⟨gb,o,hVe,hgb,hcell⟩:=HV.out.lies (by unfold strs;rw[List.length_map,←HN.out];omega)
     have hcv:=hcell i (.string (txt v)) (by unfold strs;rw[List.getElem?_map,hv];rfl)
     have hcv:=((hBi.out.cell (p:=⟨gb,o+i,none⟩) hgb).trans hcv)
     have hvl:=HVS.out v hvm
     have HVc:=hide (HVal.out v hvm _ (HT.out.below hBi.out))
     have hGi:=hG.out
     rw[hdrop] at hGi
     unfold gatherL at hGi
     have HVe:=hide hVe
     subst hVe
     have Hvl:=hide hvl
     by_cases hok:(valV t v).2=0
     ·have qe:((valV t v).2 !=0)=false:=by simp[hok]
      rw[if_neg (by simp[hok])] at hGi
      obtain⟨nv,hnv⟩:∃nv,(valV t v).1=nv:=⟨_,rfl⟩
      have hvv:valV t v=(nv,0):=Prod.ext hnv hok
      have hnl:nv.length≤1000000:=by
       have:=valV_len t v
       rw[hnv] at this
       omega
      have HP:=hide (fun (w:World) (h:Draft w w0.heap.size d (nx+i) Li)=>dput_any w h t nv v hvv Htl.out hnl (by have:=HNX.out;have:=HN.out;omega))
      rw[hvv] at HVc
      by_cases hin:WithinV t (pickE Li t) v
      ·rw [if_pos hin] at hGi
       have HGi:=hide hGi
       clear hGi hG HVal HV HVS hcell hvl hdrop hvv hok qe hnv hnl
       obtain⟨NV,hNV⟩:∃NV,txt nv=NV:=⟨_,rfl⟩
       obtain⟨VV,hVV⟩:∃VV,txt v=VV:=⟨_,rfl⟩
       rw[HTN.out,hVV,hNV] at HVc
       rw[HTN.out,hVV,hNV] at HP
       rw[hVV] at hcv
       clear hNV hVV
       go_wp2_with (go_at_call 64;fail)
       refine HVc.out.mono ?_
       rintro e w3 ⟨rfl,hb3⟩
       have hS3:=hBi.out.size
       have HB3:=hide (hBi.out.trans (hb3.mono hS3))
       have HC3:=hide (HP.out _ (hDi.out.grow hb3))
       clear hb3 hBi hDi HP HVc hcv hS3
       go_wp2_with (go_at_call 65;fail)
       refine HC3.out.mono ?_
       rintro e w4 hp
       obtain⟨rfl,_⟩:=hp.no hin
       have HB4:=hide (HB3.out.trans hp.below)
       clear hp HC3 HB3
       go_wp2
       go_ret
       obtain⟨e1,e2⟩:=Prod.mk.inj HGi.out
       exact⟨20,rfl,e2,HB4.out,fun q=>absurd (e2.trans q) (by decide)⟩
      ·rw [if_neg hin] at hGi
       have HGi:=hide hGi
       clear hGi hG HV HVS hcell hvl hdrop hvv hok qe hnv hnl
       obtain⟨NV,hNV⟩:∃NV,txt nv=NV:=⟨_,rfl⟩
       obtain⟨VV,hVV⟩:∃VV,txt v=VV:=⟨_,rfl⟩
       rw[HTN.out,hVV,hNV] at HVc
       rw[HTN.out,hVV,hNV] at HP
       rw[hVV] at hcv
       clear hNV hVV HVal
       go_wp2_with (go_at_call 64;fail)
       refine HVc.out.mono ?_
       rintro e w3 ⟨rfl,hb3⟩
       have hS3:=hBi.out.size
       have HB3:=hide (hBi.out.trans (hb3.mono hS3))
       have HC3:=hide (HP.out _ (hDi.out.grow hb3))
       clear hb3 hBi hDi HP HVc hcv hS3
       go_wp2_with (go_at_call 65;fail)
       refine HC3.out.mono ?_
       rintro e w4 hp
       obtain⟨rfl,hd4⟩:=hp.yes hin
       have HB4:=hide (HB3.out.trans hp.below)
       have HD4:=hide hd4
       clear hp HC3 HB3 hd4
       go_wp2
       go_roundg r
       case measure=>omega
       case rel=>exact⟨i+1,_,by omega,by go_num,HGi,hide (by have:=HD4.out;rwa [Nat.add_assoc] at this),HB4⟩
     ·have qe:((valV t v).2 !=0)=true:=by simpa using hok
      rw[if_pos hok] at hGi
      have HGi:=hide hGi
      clear hGi hG HVal HV HVS hcell hvl hdrop hok
      generalize (valV t v).2=ve at *
      generalize txt (valV t v).1=NV at *
      obtain⟨VV,hVV⟩:∃VV,txt v=VV:=⟨_,rfl⟩
      rw[HTN.out,hVV] at HVc
      rw[hVV] at hcv
      clear hVV
      go_wp2_with (go_at_call 64;fail)
      refine HVc.out.mono ?_
      rintro e w3 ⟨rfl,hb3⟩
      have HB3:=hide (hBi.out.trans (hb3.mono hBi.out.size))
      clear hb3 hBi hDi HVc hcv
      go_wp2
      go_ret
      obtain⟨e1,e2⟩:=Prod.mk.inj HGi.out
      exact⟨21,rfl,e2,HB3.out,fun q=>absurd (e2.trans q) (by decide)⟩
end Go.Proofs.YtiobnllopliclaaGreatDoor
