/- Several texts in one: HOne, HFew, HEval. By an AI agent. -/
import Derived.Test.YtaolhefllfnmiaaGreatDoorHX
import Derived.Deep.CutBlock
import Derived.Test.YtaolhefllfnmiaaGreatDoorHY
set_option maxRecDepth 100000
set_option maxHeartbeats 64000000
namespace Go.Proofs.YtaolhefllfnmiaaGreatDoor
open Go.RowKit
set_option linter.unusedVariables false
noncomputable def pieceV (a f l:List UInt8) (any:List (List UInt8)) (ty:Int) (x:List UInt8):Bool:=(norm a x).2==0&&piecesV f l any (norm a x).1 (ty==1)
noncomputable def oneV (L:List At2) (k:Int) (a v f l:List UInt8) (any:List (List UInt8)):Int:=
 if (typ a).2=0 then -1
 else if k=7 then (if 0<(valsV L a).length then 1 else 0)
 else if k=4 then (if 2<(typ a).2 then -1 else if (valsV L a).any (pieceV a f l any (typ a).2) then 1 else 0)
 else if (valV a v).2≠0∨((k=5∨k=6)∧((typ a).2=2∨(typ a).2=5)) then -1
 else if (valsV L a).any (matchV k a v) then 1 else 0
structure AsOk (L:List At2):Prop where
 ty:∀a∈L,a.1.length≤281474976710656
 val:∀a∈L,∀x∈a.2,x.length≤1000000
 tot:(L.flatMap (·.2)).length≤900000
theorem AsOk.mem {L:List At2} (h:AsOk L) {n x:List UInt8} (hx:x∈valsV L n):x.length≤1000000:=by
 unfold valsV at hx
 obtain⟨a,ha,hx⟩:=List.mem_flatMap.1 hx
 split at hx
 ·exact h.val a ha x hx
 ·cases hx
theorem rone_any (k:Int) (a v f l:List UInt8) (any:List (List UInt8)) (ps:List FT) (ha:a.length≤3000) (hv:v.length≤3000) (hfl:f.length≤1000) (hll:l.length≤1000) (hal:∀x∈any,x.length≤1000)
  (L:List At2) (hok:AsOk L) (w:World) (A:Option Addr) (n c:Nat) (xs:List Value) (hA:Has w w.heap.size 2 A n xs) (hL:AsIn w w.heap.size xs L) (hn:n≤1000000)
  (u0 u1 u2 u3 u4 u5 u6:Value) (hF:FIn w w.heap.size (.mk k a v f l any ps) [u0,u1,u2,u3,u4,u5,u6]) (hT:TM w):
  Calls Tryz.prog 51 #[.agg #[u0,u1,u2,u3,u4,u5,u6],.slice A n c] w fun e w'=>e=.returned (.int .i64 (oneV L k a v f l any))∧Below w.heap.size w w':=by
 have hF0:=hF
 simp only[FIn] at hF
 obtain⟨Aa,ca,D,dd,ys,hcs,_⟩:=hF
 cases hcs
 obtain⟨m,hm⟩:∃m,any.length=m:=⟨_,rfl⟩
 obtain⟨np,hnp⟩:∃np,ps.length=np:=⟨_,rfl⟩
 obtain⟨R,hR⟩:∃R,oneV L k a v f l any=R:=⟨_,rfl⟩
 rw[hR]
 have hX:=Box7.new w k (txt a) (txt v) (txt f) (txt l) Aa any.length ca D ps.length dd 25
 have hb0:=below1 w (.cells #[.int .i64 k,.string (txt a),.string (txt v),.string (txt f),.string (txt l),.slice Aa any.length ca,.slice D ps.length dd] 25)
 obtain⟨w1,hw1⟩:∃w1,(w.alloc (.cells #[.int .i64 k,.string (txt a),.string (txt v),.string (txt f),.string (txt l),.slice Aa any.length ca,.slice D ps.length dd] 25))=w1:=⟨_,rfl⟩
 rw[hw1] at hX hb0
 have hT1:=hT.below hb0
 have hF1:=hF0.grow hb0
 have hA1:=(hA.below hb0).upto hb0.size
 have hL1:=hL.grow hb0
 rw[hm,hnp] at hX hw1 hF1 ⊢
 have hTy:=fun w=>rtype_any (txt a) (by rw[txt_size];omega) w
 simp only[txt_toList] at hTy
 have hVs:=fun w hA hL=>rvalues_any L a w A n c xs hA hL hn (by omega) hok.ty hok.tot
 have hNo:=fun (x:List UInt8) (hx:x.length≤1000000) w hT=>rnormal_any (txt a) (txt x) (by rw[txt_size];omega) (by rw[txt_size];omega) w hT
 simp only[txt_toList] at hNo
 have hPi:=fun (x:List UInt8) (sm:Bool) w hF=>rpieces_any k a v f l any ps (norm a x).1 sm (by have:=norm_len a x;omega) hfl hll hal w (.int .i64 k) (.string (txt a)) (.string (txt v)) (.string (txt f)) (.string (txt l)) (.slice Aa m ca) (.slice D np dd) hF
 have hMa:=fun (x:List UInt8) (hx:x.length≤1000000) w hF hT=>rmatches_any k a v f l any ps x ha hv hx w (.int .i64 k) (.string (txt a)) (.string (txt v)) (.string (txt f)) (.string (txt l)) (.slice Aa m ca) (.slice D np dd) hF hT
 have hVv:=fun w hT=>rvalue_any a v ha hv w hT
 have hvm:=fun x (hx:x∈valsV L a)=>hok.mem hx
 have hRd:R=if (typ a).2=0 then -1 else if k=7 then (if 0<(valsV L a).length then 1 else 0) else if k=4 then (if 2<(typ a).2 then -1 else if (valsV L a).any (pieceV a f l any (typ a).2) then 1 else 0)
   else if (valV a v).2≠0∨((k=5∨k=6)∧((typ a).2=2∨(typ a).2=5)) then -1 else if (valsV L a).any (matchV k a v) then 1 else 0:=by rw[←hR];rfl
 obtain⟨tn,htn⟩:∃tn,txt (typ a).1=tn:=⟨_,rfl⟩
 have htyr:0≤(typ a).2∧(typ a).2≤5:=typ_range a
 obtain⟨ty,hty⟩:∃ty,(typ a).2=ty:=⟨_,rfl⟩
 obtain⟨VS,hVS⟩:∃VS,valsV L a=VS:=⟨_,rfl⟩
 obtain⟨e2,he2⟩:∃e2,(valV a v).2=e2:=⟨_,rfl⟩
 obtain⟨s2,hs2⟩:∃s2,txt (valV a v).1=s2:=⟨_,rfl⟩
 rw[hty,htn] at hTy
 rw[hty,hVS,he2] at hRd
 rw[hty] at htyr
 rw[hVS] at hVs hvm
 rw[he2,hs2] at hVv
 obtain⟨nv,hnv⟩:∃nv,VS.length=nv:=⟨_,rfl⟩
 have hnv9:nv≤900000:=by rw[←hnv,←hVS];exact Nat.le_trans (vals_len L a) hok.tot
 rw[hnv] at hVs hRd
 have HTy:=hide (hTy w1)
 have HVs:=hide hVs
 have HNo:=hide hNo
 have HPi:=hide hPi
 have HMa:=hide hMa
 have HVv:=hide hVv
 have Hvm:=hide hvm
 have HX:=hide hX
 have HB:=hide hb0
 have HT:=hide hT1
 have HF:=hide hF1
 have HA:=hide hA1
 have HL:=hide hL1
 have Hnv:=hide hnv
 have Hw1:=hide hw1
 clear hTy hVs hNo hPi hMa hVv hvm hb0 hT1 hF1 hA1 hL1 hnv hR hm hnp htn hty hVS he2 hs2 hF0 hA hL hT hok hn hfl hll hal hw1
 obtain⟨_,c0,c1,c2,c3,c4,c5,c6⟩:=hX
 generalize hsa:txt a=sa at *
 generalize txt v=sv at *
 generalize txt f=sf at *
 generalize txt l=sl at *
 rw[←Hw1.out] at c0 c1 c2 c3 c4 c5 c6
 by_cases t0:ty=0
 ·rw [if_pos t0] at hRd
  have hr:=hide hRd
  subst t0
  clear hRd
  go_enter Tryz.func51,Tryz.ntmps51
  go_wp2_with (go_at_call 74;fail)
  rw[Hw1.out]
  refine HTy.out.mono ?_
  rintro e w3 ⟨rfl,hb3⟩
  have HX3:=hide (HX.out.below HX.out.lt hb3)
  have HT3:=hide (HT.out.below hb3)
  have HF3:=hide (HF.out.grow hb3)
  have HA3:=hide ((HA.out.below hb3).upto hb3.size)
  have HL3:=hide (HL.out.grow hb3)
  have HB3:=hide (HB.out.trans (hb3.mono HB.out.size))
  clear HTy HX HT HF HA HL HB hb3 Hw1 c0 c1 c2 c3 c4 c5 c6
  obtain⟨_,c0,c1,c2,c3,c4,c5,c6⟩:=HX3.out
  clear HNo HPi HMa HVv Hvm HVs HF3 HA3 HL3 HT3 HX3 Hnv
  go_wp2
  go_ret
  exact⟨by rw[hr.out];rfl,HB3.out⟩
 rw[if_neg t0] at hRd
 have z0:(ty==0)=false:=beq_false_of_ne t0
 by_cases k7:k=7
 ·rw [if_pos k7] at hRd
  subst k7
  by_cases hn0:0<nv
  ·rw [if_pos hn0] at hRd
   have hr:=hide hRd
   have zn:(0:Int)<(nv:Int):=by omega
   have zd:decide ((0:Int)<(nv:Int))=true:=decide_eq_true zn
   clear hRd
   go_enter Tryz.func51,Tryz.ntmps51
   go_wp2_with (go_at_call 74;fail)
   rw[Hw1.out]
   refine HTy.out.mono ?_
   rintro e w3 ⟨rfl,hb3⟩
   have HX3:=hide (HX.out.below HX.out.lt hb3)
   have HT3:=hide (HT.out.below hb3)
   have HF3:=hide (HF.out.grow hb3)
   have HA3:=hide ((HA.out.below hb3).upto hb3.size)
   have HL3:=hide (HL.out.grow hb3)
   have HB3:=hide (HB.out.trans (hb3.mono HB.out.size))
   clear HTy HX HT HF HA HL HB hb3 Hw1 c0 c1 c2 c3 c4 c5 c6
   obtain⟨_,c0,c1,c2,c3,c4,c5,c6⟩:=HX3.out
   have hvs:=HVs.out w3 HA3.out HL3.out
   go_wp2_with (go_at_call 75;fail)
   refine hvs.mono ?_
   rintro e w4 ⟨v7,rfl,hown,hb4⟩
   obtain⟨A7,c7,hv7,_,hH7⟩:=own_form hown
   subst hv7
   have HX4:=hide (HX3.out.below HX3.out.lt hb4)
   have HT4:=hide (HT3.out.below hb4)
   have HF4:=hide (HF3.out.grow hb4)
   have HB4:=hide (HB3.out.trans (hb4.mono HB3.out.size))
   have HH7:=hide hH7
   clear hvs HVs HX3 HT3 HF3 HA3 HL3 HB3 hb4 hown hH7 c0 c1 c2 c3 c4 c5 c6
   obtain⟨_,c0,c1,c2,c3,c4,c5,c6⟩:=HX4.out
   clear HNo HPi HMa HVv Hvm HF4 HT4 HX4 HH7 Hnv
   go_wp2_with (go_at_call 76;fail)
   refine (rtruth_any _ _).mono ?_
   rintro e w5 ⟨rfl,hw5⟩
   obtain rfl:=hw5.symm
   clear hw5
   go_wp2
   go_ret
   exact⟨by rw[hr.out];rfl,HB4.out⟩
  ·rw [if_neg hn0] at hRd
   have hr:=hide hRd
   have zn:¬((0:Int)<(nv:Int)):=by omega
   have zd:decide ((0:Int)<(nv:Int))=false:=decide_eq_false zn
   clear hRd
   go_enter Tryz.func51,Tryz.ntmps51
   go_wp2_with (go_at_call 74;fail)
   rw[Hw1.out]
   refine HTy.out.mono ?_
   rintro e w3 ⟨rfl,hb3⟩
   have HX3:=hide (HX.out.below HX.out.lt hb3)
   have HT3:=hide (HT.out.below hb3)
   have HF3:=hide (HF.out.grow hb3)
   have HA3:=hide ((HA.out.below hb3).upto hb3.size)
   have HL3:=hide (HL.out.grow hb3)
   have HB3:=hide (HB.out.trans (hb3.mono HB.out.size))
   clear HTy HX HT HF HA HL HB hb3 Hw1 c0 c1 c2 c3 c4 c5 c6
   obtain⟨_,c0,c1,c2,c3,c4,c5,c6⟩:=HX3.out
   have hvs:=HVs.out w3 HA3.out HL3.out
   go_wp2_with (go_at_call 75;fail)
   refine hvs.mono ?_
   rintro e w4 ⟨v7,rfl,hown,hb4⟩
   obtain⟨A7,c7,hv7,_,hH7⟩:=own_form hown
   subst hv7
   have HX4:=hide (HX3.out.below HX3.out.lt hb4)
   have HT4:=hide (HT3.out.below hb4)
   have HF4:=hide (HF3.out.grow hb4)
   have HB4:=hide (HB3.out.trans (hb4.mono HB3.out.size))
   have HH7:=hide hH7
   clear hvs HVs HX3 HT3 HF3 HA3 HL3 HB3 hb4 hown hH7 c0 c1 c2 c3 c4 c5 c6
   obtain⟨_,c0,c1,c2,c3,c4,c5,c6⟩:=HX4.out
   clear HNo HPi HMa HVv Hvm HF4 HT4 HX4 HH7 Hnv
   go_wp2_with (go_at_call 76;fail)
   refine (rtruth_any _ _).mono ?_
   rintro e w5 ⟨rfl,hw5⟩
   obtain rfl:=hw5.symm
   clear hw5
   go_wp2
   go_ret
   exact⟨by rw[hr.out];rfl,HB4.out⟩
 rw[if_neg k7] at hRd
 have z7:(k==7)=false:=beq_false_of_ne k7
 by_cases k4:k=4
 ·rw [if_pos k4] at hRd
  subst k4
  by_cases t2:2<ty
  ·rw [if_pos t2] at hRd
   have hr:=hide hRd
   clear hRd
   go_enter Tryz.func51,Tryz.ntmps51
   go_wp2_with (go_at_call 74;fail)
   rw[Hw1.out]
   refine HTy.out.mono ?_
   rintro e w3 ⟨rfl,hb3⟩
   have HX3:=hide (HX.out.below HX.out.lt hb3)
   have HT3:=hide (HT.out.below hb3)
   have HF3:=hide (HF.out.grow hb3)
   have HA3:=hide ((HA.out.below hb3).upto hb3.size)
   have HL3:=hide (HL.out.grow hb3)
   have HB3:=hide (HB.out.trans (hb3.mono HB.out.size))
   clear HTy HX HT HF HA HL HB hb3 Hw1 c0 c1 c2 c3 c4 c5 c6
   obtain⟨_,c0,c1,c2,c3,c4,c5,c6⟩:=HX3.out
   have hvs:=HVs.out w3 HA3.out HL3.out
   go_wp2_with (go_at_call 75;fail)
   refine hvs.mono ?_
   rintro e w4 ⟨v7,rfl,hown,hb4⟩
   obtain⟨A7,c7,hv7,_,hH7⟩:=own_form hown
   subst hv7
   have HX4:=hide (HX3.out.below HX3.out.lt hb4)
   have HT4:=hide (HT3.out.below hb4)
   have HF4:=hide (HF3.out.grow hb4)
   have HB4:=hide (HB3.out.trans (hb4.mono HB3.out.size))
   have HH7:=hide hH7
   clear hvs HVs HX3 HT3 HF3 HA3 HL3 HB3 hb4 hown hH7 c0 c1 c2 c3 c4 c5 c6
   obtain⟨_,c0,c1,c2,c3,c4,c5,c6⟩:=HX4.out
   clear HNo HPi HMa HVv Hvm HF4 HT4 HX4 HH7 Hnv
   go_wp2
   go_ret
   exact⟨by rw[hr.out];rfl,HB4.out⟩
  ·rw [if_neg t2] at hRd
   have hr:=hide hRd
   clear hRd
   go_enter Tryz.func51,Tryz.ntmps51
   go_wp2_with (go_at_call 74;fail)
   rw[Hw1.out]
   refine HTy.out.mono ?_
   rintro e w3 ⟨rfl,hb3⟩
   have HX3:=hide (HX.out.below HX.out.lt hb3)
   have HT3:=hide (HT.out.below hb3)
   have HF3:=hide (HF.out.grow hb3)
   have HA3:=hide ((HA.out.below hb3).upto hb3.size)
   have HL3:=hide (HL.out.grow hb3)
   have HB3:=hide (HB.out.trans (hb3.mono HB.out.size))
   clear HTy HX HT HF HA HL HB hb3 Hw1 c0 c1 c2 c3 c4 c5 c6
   obtain⟨_,c0,c1,c2,c3,c4,c5,c6⟩:=HX3.out
   have hvs:=HVs.out w3 HA3.out HL3.out
   go_wp2_with (go_at_call 75;fail)
   refine hvs.mono ?_
   rintro e w4 ⟨v7,rfl,hown,hb4⟩
   obtain⟨A7,c7,hv7,_,hH7⟩:=own_form hown
   subst hv7
   have HX4:=hide (HX3.out.below HX3.out.lt hb4)
   have HT4:=hide (HT3.out.below hb4)
   have HF4:=hide (HF3.out.grow hb4)
   have HB4:=hide (HB3.out.trans (hb4.mono HB3.out.size))
   have HH7:=hide hH7
   clear hvs HVs HX3 HT3 HF3 HA3 HL3 HB3 hb4 hown hH7 c0 c1 c2 c3 c4 c5 c6
   obtain⟨_,c0,c1,c2,c3,c4,c5,c6⟩:=HX4.out
   go_wp2
   go_loopg [40] nv (fun r s40 wx=>∃j:Nat,j+r=nv∧s40=.int .i64 (j:Int)∧Hid (Below w4.heap.size w4 wx)∧Hid (∀x∈VS.take j,pieceV a f l any ty x=false))
   case atStart=>exact⟨0,by omega,rfl,hide (Below.refl _ _),hide (fun x hx=>by simp at hx)⟩
   case round=>
    obtain⟨j,hjg,rfl,hb5,hpre⟩:=hrel
    clear c0 c1 c2 c3 c4 c5 c6
    have hX5:=HX4.out.below HX4.out.lt hb5.out
    have hB5:=HB4.out.trans (hb5.out.mono HB4.out.size)
    obtain⟨_,c0,c1,c2,c3,c4,c5,c6⟩:=hX5
    cases gk with
    | zero=>
     obtain rfl:j=nv:=by omega
     have hjz:¬((j:Int)<(j:Int)):=by omega
     have hq:Hid (R=0):=hide (by
      have:=hpre.out
      rw[List.take_of_length_le (by rw[Hnv.out];exact Nat.le_refl _)] at this
      rw[hr.out,if_neg]
      simp only[List.any_eq_true,not_exists,not_and]
      intro x hx h
      rw[this x hx] at h
      cases h)
     clear HNo HPi HMa HVv Hvm HF4 HT4 HX4 HH7 HB4 hpre hr
     go_wp2
     go_ret
     exact⟨by rw[hq.out];rfl,hB5⟩
    | succ r=>
     have hj:j<nv:=by omega
     have hjz:(j:Int)<(nv:Int):=by omega
     have hx:j<VS.length:=by rw[Hnv.out];exact hj
     obtain⟨x,hx⟩:∃x,VS[j]?=some x:=⟨_,List.getElem?_eq_getElem hx⟩
     have hxm:=List.mem_of_getElem? hx
     have hxl:=Hvm.out x hxm
     obtain⟨g,o,hAe,hg,hc⟩:=HH7.out.texts (fun h=>by rw[h] at hx;simp at hx)
     subst hAe
     have hdr:Below wr.heap.size wr wr.drew:=(Below.refl _ _).drew
     have hwd:Below w4.heap.size w4 wr.drew:=hb5.out.trans (hdr.mono hb5.out.size)
     have HXd:=hide (HX4.out.below HX4.out.lt hwd)
     have HFd:=hide (HF4.out.grow hwd)
     have HTd:=hide (HT4.out.below hwd)
     have hx0:=(hwd.cell (p:=⟨g,o+j,none⟩) hg).trans (hc j x hx)
     have hgd:g<wr.drew.heap.size:=Nat.lt_of_lt_of_le hg hwd.size
     have hcall:=HNo.out x hxl wr.drew HTd.out.tt
     have hpi:=HPi.out x (ty==1)
     obtain⟨e5,he5⟩:∃e5,(norm a x).2=e5:=⟨_,rfl⟩
     have hpd:pieceV a f l any ty x=(e5==0&&piecesV f l any (norm a x).1 (ty==1)):=by unfold pieceV;rw[he5]
     obtain⟨pb,hpb⟩:∃pb,piecesV f l any (norm a x).1 (ty==1)=pb:=⟨_,rfl⟩
     rw[he5] at hcall
     rw[hpb] at hpd hpi
     have hyes:pieceV a f l any ty x=true→Hid (R=1):=fun h=>hide (by
      rw[hr.out,if_pos]
      simp only[List.any_eq_true]
      exact⟨x,hxm,h⟩)
     have hno:pieceV a f l any ty x=false→Hid (∀y∈VS.take (j+1),pieceV a f l any ty y=false):=fun h=>hide (fun y hy=>by
      rw[List.take_add_one,hx] at hy
      simp only[Option.toList_some,List.mem_append,List.mem_singleton] at hy
      rcases hy with hy | rfl
      ·exact hpre.out y hy
      ·exact h)
     have HYes:=hide hyes
     have HNon:=hide hno
     have Hpd:=hide hpd
     have Hpi:=hide hpi
     have HB4s:=HB4.out.size
     clear HNo HPi HMa HVv Hvm hpre hr hyes hno hpd hpi hc hx hxm hxl he5 hpb
     generalize txt x=sx at *
     generalize txt (norm a x).1=sn at *
     go_wp2_with fail
     refine grow_begin (by kernel_rfl) ?_
     clear c0 c1 c2 c3 c4 c5 c6 hdr
     generalize wr.drew=wd at *
     refine grow_take 0 (some 44) (v:=?va1q0) rfl rfl (by kernel_rfl) (by kernel_rfl) (by kernel_rfl) (fun _ _ _ h=>h) (by rfl) (fun W hW=>?ya1q0) ?_
     case ya1q0=>
      go_simp<;>with_reducible rfl
     simp only[Act.put,List.setIfInBounds_toArray,List.set_cons_zero,List.set_cons_succ]
     refine grow_take 1 (some 45) (v:=?va1q1) rfl rfl (by kernel_rfl) (by kernel_rfl) (by kernel_rfl) (fun _ _ _ h=>h) (by rfl) (fun W hW=>?ya1q1) ?_
     case ya1q1=>
      have h1:=(HXd.out.below HXd.out.lt hW).c1
      go_simp<;>with_reducible rfl
     simp only[Act.put,List.setIfInBounds_toArray,List.set_cons_zero,List.set_cons_succ]
     refine grow_take 2 (some 46) (v:=?va1q2) rfl rfl (by kernel_rfl) (by kernel_rfl) (by kernel_rfl) (fun _ _ _ h=>h) (by rfl) (fun W hW=>?ya1q2) ?_
     case ya1q2=>
      go_simp<;>with_reducible rfl
     simp only[Act.put,List.setIfInBounds_toArray,List.set_cons_zero,List.set_cons_succ]
     refine grow_take 3 (some 47) (v:=?va1q3) rfl rfl (by kernel_rfl) (by kernel_rfl) (by kernel_rfl) (fun _ _ _ h=>h) (by rfl) (fun W hW=>?ya1q3) ?_
     case ya1q3=>
      go_simp<;>with_reducible rfl
     simp only[Act.put,List.setIfInBounds_toArray,List.set_cons_zero,List.set_cons_succ]
     refine grow_take 4 (some 48) (v:=?va1q4) rfl rfl (by kernel_rfl) (by kernel_rfl) (by kernel_rfl) (fun _ _ _ h=>h) (by rfl) (fun W hW=>?ya1q4) ?_
     case ya1q4=>
      go_simp<;>with_reducible rfl
     simp only[Act.put,List.setIfInBounds_toArray,List.set_cons_zero,List.set_cons_succ]
     refine grow_take 5 (some 49) (v:=?va1q5) rfl rfl (by kernel_rfl) (by kernel_rfl) (by kernel_rfl) (fun _ _ _ h=>h) (by rfl) (fun W hW=>?ya1q5) ?_
     case ya1q5=>
      have h1:=(Below.cell (p:=⟨g,o+j,none⟩) hW hgd).trans hx0
      go_simp<;>with_reducible rfl
     simp only[Act.put,List.setIfInBounds_toArray,List.set_cons_zero,List.set_cons_succ]
     refine grow_only 6 rfl (by kernel_rfl) (fun K hK=>?_)
     go_simp
     refine hcall.mono ?_
     rintro e w7 ⟨rfl,hb7⟩
     have HX7:=hide (HXd.out.below HXd.out.lt hb7)
     have HF7:=hide (HFd.out.grow hb7)
     have HW7:=hide (hwd.trans (hb7.mono hwd.size))
     refine hK.out _ _ hb7 ?_
     clear hK K hb7 hcall hwd hx0 HXd HFd HTd hgd
     try simp only[Act.put,List.setIfInBounds_toArray,List.set_cons_zero,List.set_cons_succ]
     refine grow_take 7 (some 43) (v:=?va1q7) rfl rfl (by kernel_rfl) (by kernel_rfl) (by kernel_rfl) (fun _ _ _ h=>h) (by rfl) (fun W hW=>?ya1q7) ?_
     case ya1q7=>
      go_simp<;>with_reducible rfl
     simp only[Act.put,List.setIfInBounds_toArray,List.set_cons_zero,List.set_cons_succ]
     refine grow_take 8 (some 51) (v:=?va1q8) rfl rfl (by kernel_rfl) (by kernel_rfl) (by kernel_rfl) (fun _ _ _ h=>h) (by rfl) (fun W hW=>?ya1q8) ?_
     case ya1q8=>
      go_simp<;>with_reducible rfl
     simp only[Act.put,List.setIfInBounds_toArray,List.set_cons_zero,List.set_cons_succ]
     refine grow_take 9 (some 52) (v:=?va1q9) rfl rfl (by kernel_rfl) (by kernel_rfl) (by kernel_rfl) (fun _ _ _ h=>h) (by rfl) (fun W hW=>?ya1q9) ?_
     case ya1q9=>
      go_simp<;>with_reducible rfl
     simp only[Act.put,List.setIfInBounds_toArray,List.set_cons_zero,List.set_cons_succ]
     refine grow_take 10 (some 9) (v:=?va1q10) rfl rfl (by kernel_rfl) (by kernel_rfl) (by kernel_rfl) (fun _ _ _ h=>h) (by rfl) (fun W hW=>?ya1q10) ?_
     case ya1q10=>
      go_simp<;>with_reducible rfl
     simp only[Act.put,List.setIfInBounds_toArray,List.set_cons_zero,List.set_cons_succ]
     refine grow_take 11 (some 10) (v:=?va1q11) rfl rfl (by kernel_rfl) (by kernel_rfl) (by kernel_rfl) (fun _ _ _ h=>h) (by rfl) (fun W hW=>?ya1q11) ?_
     case ya1q11=>
      go_simp<;>with_reducible rfl
     simp only[Act.put,List.setIfInBounds_toArray,List.set_cons_zero,List.set_cons_succ]
     refine grow_done (by kernel_rfl) ?_ _
     have hX7:=HX7.out
     have HB7:=hide (HB4.out.trans (HW7.out.mono HB4s))
     obtain⟨_,c0,c1,c2,c3,c4,c5,c6⟩:=hX7
     by_cases h5:e5=0
     ·subst h5
      have hp7:=Hpi.out w7 HF7.out
      have hpd:=Hpd.out
      clear Hpi Hpd HF7
      cases pb with
      | true=>
       have hq:=HYes.out (by rw[hpd];rfl)
       clear HYes HNon hpd
       go_wp2_with (go_at_call 78;fail)
       refine hp7.mono ?_
       rintro e w8 ⟨rfl,hb8⟩
       have hB8:=HB7.out.trans (hb8.mono HB7.out.size)
       clear hp7 hb8 c0 c1 c2 c3 c4 c5 c6
       go_wp2
       go_ret
       exact⟨by rw[hq.out];rfl,hB8⟩
      | false=>
       have hq:=HNon.out (by rw[hpd];rfl)
       clear HYes HNon hpd
       go_wp2_with (go_at_call 78;fail)
       refine hp7.mono ?_
       rintro e w8 ⟨rfl,hb8⟩
       have hW8:=hide (HW7.out.trans (hb8.mono HW7.out.size))
       clear hp7 hb8 c0 c1 c2 c3 c4 c5 c6
       go_wp2
       go_roundg r
       case measure=>omega
       case rel=>exact⟨j+1,by omega,by go_num,hW8,hq⟩
     ·have z5:(e5==0)=false:=beq_false_of_ne h5
      have hq:=HNon.out (by rw[Hpd.out,z5];rfl)
      clear HYes HNon Hpd Hpi HF7 h5
      go_wp2
      go_roundg r
      case measure=>omega
      case rel=>exact⟨j+1,by omega,by go_num,HW7,hq⟩
 rw[if_neg k4] at hRd
 have z4:(k==4)=false:=beq_false_of_ne k4
 by_cases q2:e2=0
 ·have y2:(e2==0)=true:=by rw[q2];rfl
  have y2':(e2 !=0)=false:=by unfold bne;rw[y2];rfl
  by_cases q5:(k=5∨k=6)∧(ty=2∨ty=5)
  ·rw [if_pos (Or.inr q5)] at hRd
   have hr:=hide hRd
   clear hRd q2 k4 k7 t0
   obtain⟨rfl | rfl,rfl | rfl⟩:=q5
   ·go_enter Tryz.func51,Tryz.ntmps51
    go_wp2_with (go_at_call 74;fail)
    rw[Hw1.out]
    refine HTy.out.mono ?_
    rintro e w3 ⟨rfl,hb3⟩
    have HX3:=hide (HX.out.below HX.out.lt hb3)
    have HT3:=hide (HT.out.below hb3)
    have HF3:=hide (HF.out.grow hb3)
    have HA3:=hide ((HA.out.below hb3).upto hb3.size)
    have HL3:=hide (HL.out.grow hb3)
    have HB3:=hide (HB.out.trans (hb3.mono HB.out.size))
    clear HTy HX HT HF HA HL HB hb3 Hw1 c0 c1 c2 c3 c4 c5 c6
    obtain⟨_,c0,c1,c2,c3,c4,c5,c6⟩:=HX3.out
    have hvs:=HVs.out w3 HA3.out HL3.out
    go_wp2_with (go_at_call 75;fail)
    refine hvs.mono ?_
    rintro e w4 ⟨v7,rfl,hown,hb4⟩
    obtain⟨A7,c7,hv7,_,hH7⟩:=own_form hown
    subst hv7
    have HX4:=hide (HX3.out.below HX3.out.lt hb4)
    have HT4:=hide (HT3.out.below hb4)
    have HF4:=hide (HF3.out.grow hb4)
    have HB4:=hide (HB3.out.trans (hb4.mono HB3.out.size))
    have HH7:=hide hH7
    clear hvs HVs HX3 HT3 HF3 HA3 HL3 HB3 hb4 hown hH7 c0 c1 c2 c3 c4 c5 c6
    obtain⟨_,c0,c1,c2,c3,c4,c5,c6⟩:=HX4.out
    have hvv:=HVv.out w4 HT4.out
    go_wp2_with (go_at_call 79;fail)
    refine hvv.mono ?_
    rintro e w5 ⟨rfl,hb5⟩
    have HX5:=hide (HX4.out.below HX4.out.lt hb5)
    have HT5:=hide (HT4.out.below hb5)
    have HF5:=hide (HF4.out.grow hb5)
    have HB5:=hide (HB4.out.trans (hb5.mono HB4.out.size))
    replace HH7:=hide ((HH7.out.below hb5).upto hb5.size)
    clear hvv HVv HX4 HT4 HF4 HB4 hb5 c0 c1 c2 c3 c4 c5 c6
    obtain⟨_,c0,c1,c2,c3,c4,c5,c6⟩:=HX5.out
    clear HNo HPi HMa Hvm HF5 HT5 HX5 HH7 Hnv
    go_wp2
    go_ret
    exact⟨by rw[hr.out];rfl,HB5.out⟩
   ·go_enter Tryz.func51,Tryz.ntmps51
    go_wp2_with (go_at_call 74;fail)
    rw[Hw1.out]
    refine HTy.out.mono ?_
    rintro e w3 ⟨rfl,hb3⟩
    have HX3:=hide (HX.out.below HX.out.lt hb3)
    have HT3:=hide (HT.out.below hb3)
    have HF3:=hide (HF.out.grow hb3)
    have HA3:=hide ((HA.out.below hb3).upto hb3.size)
    have HL3:=hide (HL.out.grow hb3)
    have HB3:=hide (HB.out.trans (hb3.mono HB.out.size))
    clear HTy HX HT HF HA HL HB hb3 Hw1 c0 c1 c2 c3 c4 c5 c6
    obtain⟨_,c0,c1,c2,c3,c4,c5,c6⟩:=HX3.out
    have hvs:=HVs.out w3 HA3.out HL3.out
    go_wp2_with (go_at_call 75;fail)
    refine hvs.mono ?_
    rintro e w4 ⟨v7,rfl,hown,hb4⟩
    obtain⟨A7,c7,hv7,_,hH7⟩:=own_form hown
    subst hv7
    have HX4:=hide (HX3.out.below HX3.out.lt hb4)
    have HT4:=hide (HT3.out.below hb4)
    have HF4:=hide (HF3.out.grow hb4)
    have HB4:=hide (HB3.out.trans (hb4.mono HB3.out.size))
    have HH7:=hide hH7
    clear hvs HVs HX3 HT3 HF3 HA3 HL3 HB3 hb4 hown hH7 c0 c1 c2 c3 c4 c5 c6
    obtain⟨_,c0,c1,c2,c3,c4,c5,c6⟩:=HX4.out
    have hvv:=HVv.out w4 HT4.out
    go_wp2_with (go_at_call 79;fail)
    refine hvv.mono ?_
    rintro e w5 ⟨rfl,hb5⟩
    have HX5:=hide (HX4.out.below HX4.out.lt hb5)
    have HT5:=hide (HT4.out.below hb5)
    have HF5:=hide (HF4.out.grow hb5)
    have HB5:=hide (HB4.out.trans (hb5.mono HB4.out.size))
    replace HH7:=hide ((HH7.out.below hb5).upto hb5.size)
    clear hvv HVv HX4 HT4 HF4 HB4 hb5 c0 c1 c2 c3 c4 c5 c6
    obtain⟨_,c0,c1,c2,c3,c4,c5,c6⟩:=HX5.out
    clear HNo HPi HMa Hvm HF5 HT5 HX5 HH7 Hnv
    go_wp2
    go_ret
    exact⟨by rw[hr.out];rfl,HB5.out⟩
   ·go_enter Tryz.func51,Tryz.ntmps51
    go_wp2_with (go_at_call 74;fail)
    rw[Hw1.out]
    refine HTy.out.mono ?_
    rintro e w3 ⟨rfl,hb3⟩
    have HX3:=hide (HX.out.below HX.out.lt hb3)
    have HT3:=hide (HT.out.below hb3)
    have HF3:=hide (HF.out.grow hb3)
    have HA3:=hide ((HA.out.below hb3).upto hb3.size)
    have HL3:=hide (HL.out.grow hb3)
    have HB3:=hide (HB.out.trans (hb3.mono HB.out.size))
    clear HTy HX HT HF HA HL HB hb3 Hw1 c0 c1 c2 c3 c4 c5 c6
    obtain⟨_,c0,c1,c2,c3,c4,c5,c6⟩:=HX3.out
    have hvs:=HVs.out w3 HA3.out HL3.out
    go_wp2_with (go_at_call 75;fail)
    refine hvs.mono ?_
    rintro e w4 ⟨v7,rfl,hown,hb4⟩
    obtain⟨A7,c7,hv7,_,hH7⟩:=own_form hown
    subst hv7
    have HX4:=hide (HX3.out.below HX3.out.lt hb4)
    have HT4:=hide (HT3.out.below hb4)
    have HF4:=hide (HF3.out.grow hb4)
    have HB4:=hide (HB3.out.trans (hb4.mono HB3.out.size))
    have HH7:=hide hH7
    clear hvs HVs HX3 HT3 HF3 HA3 HL3 HB3 hb4 hown hH7 c0 c1 c2 c3 c4 c5 c6
    obtain⟨_,c0,c1,c2,c3,c4,c5,c6⟩:=HX4.out
    have hvv:=HVv.out w4 HT4.out
    go_wp2_with (go_at_call 79;fail)
    refine hvv.mono ?_
    rintro e w5 ⟨rfl,hb5⟩
    have HX5:=hide (HX4.out.below HX4.out.lt hb5)
    have HT5:=hide (HT4.out.below hb5)
    have HF5:=hide (HF4.out.grow hb5)
    have HB5:=hide (HB4.out.trans (hb5.mono HB4.out.size))
    replace HH7:=hide ((HH7.out.below hb5).upto hb5.size)
    clear hvv HVv HX4 HT4 HF4 HB4 hb5 c0 c1 c2 c3 c4 c5 c6
    obtain⟨_,c0,c1,c2,c3,c4,c5,c6⟩:=HX5.out
    clear HNo HPi HMa Hvm HF5 HT5 HX5 HH7 Hnv
    go_wp2
    go_ret
    exact⟨by rw[hr.out];rfl,HB5.out⟩
   ·go_enter Tryz.func51,Tryz.ntmps51
    go_wp2_with (go_at_call 74;fail)
    rw[Hw1.out]
    refine HTy.out.mono ?_
    rintro e w3 ⟨rfl,hb3⟩
    have HX3:=hide (HX.out.below HX.out.lt hb3)
    have HT3:=hide (HT.out.below hb3)
    have HF3:=hide (HF.out.grow hb3)
    have HA3:=hide ((HA.out.below hb3).upto hb3.size)
    have HL3:=hide (HL.out.grow hb3)
    have HB3:=hide (HB.out.trans (hb3.mono HB.out.size))
    clear HTy HX HT HF HA HL HB hb3 Hw1 c0 c1 c2 c3 c4 c5 c6
    obtain⟨_,c0,c1,c2,c3,c4,c5,c6⟩:=HX3.out
    have hvs:=HVs.out w3 HA3.out HL3.out
    go_wp2_with (go_at_call 75;fail)
    refine hvs.mono ?_
    rintro e w4 ⟨v7,rfl,hown,hb4⟩
    obtain⟨A7,c7,hv7,_,hH7⟩:=own_form hown
    subst hv7
    have HX4:=hide (HX3.out.below HX3.out.lt hb4)
    have HT4:=hide (HT3.out.below hb4)
    have HF4:=hide (HF3.out.grow hb4)
    have HB4:=hide (HB3.out.trans (hb4.mono HB3.out.size))
    have HH7:=hide hH7
    clear hvs HVs HX3 HT3 HF3 HA3 HL3 HB3 hb4 hown hH7 c0 c1 c2 c3 c4 c5 c6
    obtain⟨_,c0,c1,c2,c3,c4,c5,c6⟩:=HX4.out
    have hvv:=HVv.out w4 HT4.out
    go_wp2_with (go_at_call 79;fail)
    refine hvv.mono ?_
    rintro e w5 ⟨rfl,hb5⟩
    have HX5:=hide (HX4.out.below HX4.out.lt hb5)
    have HT5:=hide (HT4.out.below hb5)
    have HF5:=hide (HF4.out.grow hb5)
    have HB5:=hide (HB4.out.trans (hb5.mono HB4.out.size))
    replace HH7:=hide ((HH7.out.below hb5).upto hb5.size)
    clear hvv HVv HX4 HT4 HF4 HB4 hb5 c0 c1 c2 c3 c4 c5 c6
    obtain⟨_,c0,c1,c2,c3,c4,c5,c6⟩:=HX5.out
    clear HNo HPi HMa Hvm HF5 HT5 HX5 HH7 Hnv
    go_wp2
    go_ret
    exact⟨by rw[hr.out];rfl,HB5.out⟩
  ·rw [if_neg (by omega)] at hRd
   have hr:=hide hRd
   by_cases k56:k=5∨k=6
   ·have ht2:(ty==2)=false:=beq_false_of_ne (by omega)
    have ht5:(ty==5)=false:=beq_false_of_ne (by omega)
    clear hRd q2 k4 k7 t0 q5
    rcases k56 with rfl | rfl
    ·go_enter Tryz.func51,Tryz.ntmps51
     go_wp2_with (go_at_call 74;fail)
     rw[Hw1.out]
     refine HTy.out.mono ?_
     rintro e w3 ⟨rfl,hb3⟩
     have HX3:=hide (HX.out.below HX.out.lt hb3)
     have HT3:=hide (HT.out.below hb3)
     have HF3:=hide (HF.out.grow hb3)
     have HA3:=hide ((HA.out.below hb3).upto hb3.size)
     have HL3:=hide (HL.out.grow hb3)
     have HB3:=hide (HB.out.trans (hb3.mono HB.out.size))
     clear HTy HX HT HF HA HL HB hb3 Hw1 c0 c1 c2 c3 c4 c5 c6
     obtain⟨_,c0,c1,c2,c3,c4,c5,c6⟩:=HX3.out
     have hvs:=HVs.out w3 HA3.out HL3.out
     go_wp2_with (go_at_call 75;fail)
     refine hvs.mono ?_
     rintro e w4 ⟨v7,rfl,hown,hb4⟩
     obtain⟨A7,c7,hv7,_,hH7⟩:=own_form hown
     subst hv7
     have HX4:=hide (HX3.out.below HX3.out.lt hb4)
     have HT4:=hide (HT3.out.below hb4)
     have HF4:=hide (HF3.out.grow hb4)
     have HB4:=hide (HB3.out.trans (hb4.mono HB3.out.size))
     have HH7:=hide hH7
     clear hvs HVs HX3 HT3 HF3 HA3 HL3 HB3 hb4 hown hH7 c0 c1 c2 c3 c4 c5 c6
     obtain⟨_,c0,c1,c2,c3,c4,c5,c6⟩:=HX4.out
     have hvv:=HVv.out w4 HT4.out
     go_wp2_with (go_at_call 79;fail)
     refine hvv.mono ?_
     rintro e w5 ⟨rfl,hb5⟩
     have HX5:=hide (HX4.out.below HX4.out.lt hb5)
     have HT5:=hide (HT4.out.below hb5)
     have HF5:=hide (HF4.out.grow hb5)
     have HB5:=hide (HB4.out.trans (hb5.mono HB4.out.size))
     replace HH7:=hide ((HH7.out.below hb5).upto hb5.size)
     clear hvv HVv HX4 HT4 HF4 HB4 hb5 c0 c1 c2 c3 c4 c5 c6
     obtain⟨_,c0,c1,c2,c3,c4,c5,c6⟩:=HX5.out
     go_wp2
     go_loopg [93] nv (fun r s93 wx=>∃j:Nat,j+r=nv∧s93=.int .i64 (j:Int)∧Hid (Below w5.heap.size w5 wx)∧Hid (∀x∈VS.take j,matchV 5 a v x=false))
     case atStart=>exact⟨0,by omega,rfl,hide (Below.refl _ _),hide (fun x hx=>by simp at hx)⟩
     case round=>
      obtain⟨j,hjg,rfl,hb6,hpre⟩:=hrel
      clear c0 c1 c2 c3 c4 c5 c6
      have hX6:=HX5.out.below HX5.out.lt hb6.out
      have hB6:=HB5.out.trans (hb6.out.mono HB5.out.size)
      obtain⟨_,c0,c1,c2,c3,c4,c5,c6⟩:=hX6
      cases gk with
      | zero=>
       obtain rfl:j=nv:=by omega
       have hjz:¬((j:Int)<(j:Int)):=by omega
       have hq:Hid (R=0):=hide (by
        have:=hpre.out
        rw[List.take_of_length_le (by rw[Hnv.out];exact Nat.le_refl _)] at this
        rw[hr.out,if_neg]
        simp only[List.any_eq_true,not_exists,not_and]
        intro x hx h
        rw[this x hx] at h
        cases h)
       clear HNo HPi HMa Hvm HF5 HT5 HX5 HH7 HB5 hpre hr
       go_wp2
       go_ret
       exact⟨by rw[hq.out];rfl,hB6⟩
      | succ r=>
       have hj:j<nv:=by omega
       have hjz:(j:Int)<(nv:Int):=by omega
       have hx:j<VS.length:=by rw[Hnv.out];exact hj
       obtain⟨x,hx⟩:∃x,VS[j]?=some x:=⟨_,List.getElem?_eq_getElem hx⟩
       have hxm:=List.mem_of_getElem? hx
       have hxl:=Hvm.out x hxm
       obtain⟨g,o,hAe,hg,hc⟩:=HH7.out.texts (fun h=>by rw[h] at hx;simp at hx)
       subst hAe
       have hdr:Below wr.heap.size wr wr.drew:=(Below.refl _ _).drew
       have hwd:Below w5.heap.size w5 wr.drew:=hb6.out.trans (hdr.mono hb6.out.size)
       have HXd:=hide (HX5.out.below HX5.out.lt hwd)
       have HFd:=hide (HF5.out.grow hwd)
       have HTd:=hide (HT5.out.below hwd)
       have hx0:=(hwd.cell (p:=⟨g,o+j,none⟩) hg).trans (hc j x hx)
       have hgd:g<wr.drew.heap.size:=Nat.lt_of_lt_of_le hg hwd.size
       have hcall:=HMa.out x hxl wr.drew HFd.out HTd.out
       obtain⟨pb,hpb⟩:∃pb,matchV 5 a v x=pb:=⟨_,rfl⟩
       rw[hpb] at hcall
       have hyes:pb=true→Hid (R=1):=fun h=>hide (by
        rw[hr.out,if_pos]
        simp only[List.any_eq_true]
        exact⟨x,hxm,by rw[hpb];exact h⟩)
       have hno:pb=false→Hid (∀y∈VS.take (j+1),matchV 5 a v y=false):=fun h=>hide (fun y hy=>by
        rw[List.take_add_one,hx] at hy
        simp only[Option.toList_some,List.mem_append,List.mem_singleton] at hy
        rcases hy with hy | rfl
        ·exact hpre.out y hy
        ·rw [hpb];exact h)
       have HYes:=hide hyes
       have HNon:=hide hno
       have HB5s:=HB5.out.size
       clear HNo HPi HMa Hvm hpre hr hyes hno hc hx hxm hxl hpb
       generalize txt x=sx at *
       go_wp2_with fail
       refine grow_begin (by kernel_rfl) ?_
       clear c0 c1 c2 c3 c4 c5 c6 hdr
       generalize wr.drew=wd at *
       refine grow_take 0 (some 96) (v:=?vb2q0) rfl rfl (by kernel_rfl) (by kernel_rfl) (by kernel_rfl) (fun _ _ _ h=>h) (by rfl) (fun W hW=>?yb2q0) ?_
       case yb2q0=>
        obtain⟨_,d0,d1,d2,d3,d4,d5,d6⟩:=HXd.out.below HXd.out.lt hW
        go_simp<;>with_reducible rfl
       simp only[Act.put,List.setIfInBounds_toArray,List.set_cons_zero,List.set_cons_succ]
       refine grow_take 1 (some 97) (v:=?vb2q1) rfl rfl (by kernel_rfl) (by kernel_rfl) (by kernel_rfl) (fun _ _ _ h=>h) (by rfl) (fun W hW=>?yb2q1) ?_
       case yb2q1=>
        go_simp<;>with_reducible rfl
       simp only[Act.put,List.setIfInBounds_toArray,List.set_cons_zero,List.set_cons_succ]
       refine grow_take 2 (some 98) (v:=?vb2q2) rfl rfl (by kernel_rfl) (by kernel_rfl) (by kernel_rfl) (fun _ _ _ h=>h) (by rfl) (fun W hW=>?yb2q2) ?_
       case yb2q2=>
        go_simp<;>with_reducible rfl
       simp only[Act.put,List.setIfInBounds_toArray,List.set_cons_zero,List.set_cons_succ]
       refine grow_take 3 (some 99) (v:=?vb2q3) rfl rfl (by kernel_rfl) (by kernel_rfl) (by kernel_rfl) (fun _ _ _ h=>h) (by rfl) (fun W hW=>?yb2q3) ?_
       case yb2q3=>
        go_simp<;>with_reducible rfl
       simp only[Act.put,List.setIfInBounds_toArray,List.set_cons_zero,List.set_cons_succ]
       refine grow_take 4 (some 100) (v:=?vb2q4) rfl rfl (by kernel_rfl) (by kernel_rfl) (by kernel_rfl) (fun _ _ _ h=>h) (by rfl) (fun W hW=>?yb2q4) ?_
       case yb2q4=>
        have h1:=(Below.cell (p:=⟨g,o+j,none⟩) hW hgd).trans hx0
        go_simp<;>with_reducible rfl
       simp only[Act.put,List.setIfInBounds_toArray,List.set_cons_zero,List.set_cons_succ]
       refine grow_only 5 rfl (by kernel_rfl) (fun K hK=>?_)
       go_simp
       refine hcall.mono ?_
       rintro e w7 ⟨rfl,hb7⟩
       have HW7:=hide (hwd.trans (hb7.mono hwd.size))
       refine hK.out _ _ hb7 ?_
       clear hK K hb7 hcall hwd hx0 HXd HFd HTd hgd
       try simp only[Act.put,List.setIfInBounds_toArray,List.set_cons_zero,List.set_cons_succ]
       refine grow_done (by kernel_rfl) ?_ _
       have HB7:=hide (HB5.out.trans (HW7.out.mono HB5s))
       cases pb with
       | true=>
        have hq:=HYes.out rfl
        clear HYes HNon
        go_wp2
        go_ret
        exact⟨by rw[hq.out];rfl,HB7.out⟩
       | false=>
        have hq:=HNon.out rfl
        clear HYes HNon
        go_wp2
        go_roundg r
        case measure=>omega
        case rel=>exact⟨j+1,by omega,by go_num,HW7,hq⟩
    ·go_enter Tryz.func51,Tryz.ntmps51
     go_wp2_with (go_at_call 74;fail)
     rw[Hw1.out]
     refine HTy.out.mono ?_
     rintro e w3 ⟨rfl,hb3⟩
     have HX3:=hide (HX.out.below HX.out.lt hb3)
     have HT3:=hide (HT.out.below hb3)
     have HF3:=hide (HF.out.grow hb3)
     have HA3:=hide ((HA.out.below hb3).upto hb3.size)
     have HL3:=hide (HL.out.grow hb3)
     have HB3:=hide (HB.out.trans (hb3.mono HB.out.size))
     clear HTy HX HT HF HA HL HB hb3 Hw1 c0 c1 c2 c3 c4 c5 c6
     obtain⟨_,c0,c1,c2,c3,c4,c5,c6⟩:=HX3.out
     have hvs:=HVs.out w3 HA3.out HL3.out
     go_wp2_with (go_at_call 75;fail)
     refine hvs.mono ?_
     rintro e w4 ⟨v7,rfl,hown,hb4⟩
     obtain⟨A7,c7,hv7,_,hH7⟩:=own_form hown
     subst hv7
     have HX4:=hide (HX3.out.below HX3.out.lt hb4)
     have HT4:=hide (HT3.out.below hb4)
     have HF4:=hide (HF3.out.grow hb4)
     have HB4:=hide (HB3.out.trans (hb4.mono HB3.out.size))
     have HH7:=hide hH7
     clear hvs HVs HX3 HT3 HF3 HA3 HL3 HB3 hb4 hown hH7 c0 c1 c2 c3 c4 c5 c6
     obtain⟨_,c0,c1,c2,c3,c4,c5,c6⟩:=HX4.out
     have hvv:=HVv.out w4 HT4.out
     go_wp2_with (go_at_call 79;fail)
     refine hvv.mono ?_
     rintro e w5 ⟨rfl,hb5⟩
     have HX5:=hide (HX4.out.below HX4.out.lt hb5)
     have HT5:=hide (HT4.out.below hb5)
     have HF5:=hide (HF4.out.grow hb5)
     have HB5:=hide (HB4.out.trans (hb5.mono HB4.out.size))
     replace HH7:=hide ((HH7.out.below hb5).upto hb5.size)
     clear hvv HVv HX4 HT4 HF4 HB4 hb5 c0 c1 c2 c3 c4 c5 c6
     obtain⟨_,c0,c1,c2,c3,c4,c5,c6⟩:=HX5.out
     go_wp2
     go_loopg [93] nv (fun r s93 wx=>∃j:Nat,j+r=nv∧s93=.int .i64 (j:Int)∧Hid (Below w5.heap.size w5 wx)∧Hid (∀x∈VS.take j,matchV 6 a v x=false))
     case atStart=>exact⟨0,by omega,rfl,hide (Below.refl _ _),hide (fun x hx=>by simp at hx)⟩
     case round=>
      obtain⟨j,hjg,rfl,hb6,hpre⟩:=hrel
      clear c0 c1 c2 c3 c4 c5 c6
      have hX6:=HX5.out.below HX5.out.lt hb6.out
      have hB6:=HB5.out.trans (hb6.out.mono HB5.out.size)
      obtain⟨_,c0,c1,c2,c3,c4,c5,c6⟩:=hX6
      cases gk with
      | zero=>
       obtain rfl:j=nv:=by omega
       have hjz:¬((j:Int)<(j:Int)):=by omega
       have hq:Hid (R=0):=hide (by
        have:=hpre.out
        rw[List.take_of_length_le (by rw[Hnv.out];exact Nat.le_refl _)] at this
        rw[hr.out,if_neg]
        simp only[List.any_eq_true,not_exists,not_and]
        intro x hx h
        rw[this x hx] at h
        cases h)
       clear HNo HPi HMa Hvm HF5 HT5 HX5 HH7 HB5 hpre hr
       go_wp2
       go_ret
       exact⟨by rw[hq.out];rfl,hB6⟩
      | succ r=>
       have hj:j<nv:=by omega
       have hjz:(j:Int)<(nv:Int):=by omega
       have hx:j<VS.length:=by rw[Hnv.out];exact hj
       obtain⟨x,hx⟩:∃x,VS[j]?=some x:=⟨_,List.getElem?_eq_getElem hx⟩
       have hxm:=List.mem_of_getElem? hx
       have hxl:=Hvm.out x hxm
       obtain⟨g,o,hAe,hg,hc⟩:=HH7.out.texts (fun h=>by rw[h] at hx;simp at hx)
       subst hAe
       have hdr:Below wr.heap.size wr wr.drew:=(Below.refl _ _).drew
       have hwd:Below w5.heap.size w5 wr.drew:=hb6.out.trans (hdr.mono hb6.out.size)
       have HXd:=hide (HX5.out.below HX5.out.lt hwd)
       have HFd:=hide (HF5.out.grow hwd)
       have HTd:=hide (HT5.out.below hwd)
       have hx0:=(hwd.cell (p:=⟨g,o+j,none⟩) hg).trans (hc j x hx)
       have hgd:g<wr.drew.heap.size:=Nat.lt_of_lt_of_le hg hwd.size
       have hcall:=HMa.out x hxl wr.drew HFd.out HTd.out
       obtain⟨pb,hpb⟩:∃pb,matchV 6 a v x=pb:=⟨_,rfl⟩
       rw[hpb] at hcall
       have hyes:pb=true→Hid (R=1):=fun h=>hide (by
        rw[hr.out,if_pos]
        simp only[List.any_eq_true]
        exact⟨x,hxm,by rw[hpb];exact h⟩)
       have hno:pb=false→Hid (∀y∈VS.take (j+1),matchV 6 a v y=false):=fun h=>hide (fun y hy=>by
        rw[List.take_add_one,hx] at hy
        simp only[Option.toList_some,List.mem_append,List.mem_singleton] at hy
        rcases hy with hy | rfl
        ·exact hpre.out y hy
        ·rw [hpb];exact h)
       have HYes:=hide hyes
       have HNon:=hide hno
       have HB5s:=HB5.out.size
       clear HNo HPi HMa Hvm hpre hr hyes hno hc hx hxm hxl hpb
       generalize txt x=sx at *
       go_wp2_with fail
       refine grow_begin (by kernel_rfl) ?_
       clear c0 c1 c2 c3 c4 c5 c6 hdr
       generalize wr.drew=wd at *
       refine grow_take 0 (some 96) (v:=?vb3q0) rfl rfl (by kernel_rfl) (by kernel_rfl) (by kernel_rfl) (fun _ _ _ h=>h) (by rfl) (fun W hW=>?yb3q0) ?_
       case yb3q0=>
        obtain⟨_,d0,d1,d2,d3,d4,d5,d6⟩:=HXd.out.below HXd.out.lt hW
        go_simp<;>with_reducible rfl
       simp only[Act.put,List.setIfInBounds_toArray,List.set_cons_zero,List.set_cons_succ]
       refine grow_take 1 (some 97) (v:=?vb3q1) rfl rfl (by kernel_rfl) (by kernel_rfl) (by kernel_rfl) (fun _ _ _ h=>h) (by rfl) (fun W hW=>?yb3q1) ?_
       case yb3q1=>
        go_simp<;>with_reducible rfl
       simp only[Act.put,List.setIfInBounds_toArray,List.set_cons_zero,List.set_cons_succ]
       refine grow_take 2 (some 98) (v:=?vb3q2) rfl rfl (by kernel_rfl) (by kernel_rfl) (by kernel_rfl) (fun _ _ _ h=>h) (by rfl) (fun W hW=>?yb3q2) ?_
       case yb3q2=>
        go_simp<;>with_reducible rfl
       simp only[Act.put,List.setIfInBounds_toArray,List.set_cons_zero,List.set_cons_succ]
       refine grow_take 3 (some 99) (v:=?vb3q3) rfl rfl (by kernel_rfl) (by kernel_rfl) (by kernel_rfl) (fun _ _ _ h=>h) (by rfl) (fun W hW=>?yb3q3) ?_
       case yb3q3=>
        go_simp<;>with_reducible rfl
       simp only[Act.put,List.setIfInBounds_toArray,List.set_cons_zero,List.set_cons_succ]
       refine grow_take 4 (some 100) (v:=?vb3q4) rfl rfl (by kernel_rfl) (by kernel_rfl) (by kernel_rfl) (fun _ _ _ h=>h) (by rfl) (fun W hW=>?yb3q4) ?_
       case yb3q4=>
        have h1:=(Below.cell (p:=⟨g,o+j,none⟩) hW hgd).trans hx0
        go_simp<;>with_reducible rfl
       simp only[Act.put,List.setIfInBounds_toArray,List.set_cons_zero,List.set_cons_succ]
       refine grow_only 5 rfl (by kernel_rfl) (fun K hK=>?_)
       go_simp
       refine hcall.mono ?_
       rintro e w7 ⟨rfl,hb7⟩
       have HW7:=hide (hwd.trans (hb7.mono hwd.size))
       refine hK.out _ _ hb7 ?_
       clear hK K hb7 hcall hwd hx0 HXd HFd HTd hgd
       try simp only[Act.put,List.setIfInBounds_toArray,List.set_cons_zero,List.set_cons_succ]
       refine grow_done (by kernel_rfl) ?_ _
       have HB7:=hide (HB5.out.trans (HW7.out.mono HB5s))
       cases pb with
       | true=>
        have hq:=HYes.out rfl
        clear HYes HNon
        go_wp2
        go_ret
        exact⟨by rw[hq.out];rfl,HB7.out⟩
       | false=>
        have hq:=HNon.out rfl
        clear HYes HNon
        go_wp2
        go_roundg r
        case measure=>omega
        case rel=>exact⟨j+1,by omega,by go_num,HW7,hq⟩
   ·have hk5:(k==5)=false:=beq_false_of_ne (by omega)
    have hk6:(k==6)=false:=beq_false_of_ne (by omega)
    clear hRd q2 k4 k7 t0 q5 k56
    go_enter Tryz.func51,Tryz.ntmps51
    go_wp2_with (go_at_call 74;fail)
    rw[Hw1.out]
    refine HTy.out.mono ?_
    rintro e w3 ⟨rfl,hb3⟩
    have HX3:=hide (HX.out.below HX.out.lt hb3)
    have HT3:=hide (HT.out.below hb3)
    have HF3:=hide (HF.out.grow hb3)
    have HA3:=hide ((HA.out.below hb3).upto hb3.size)
    have HL3:=hide (HL.out.grow hb3)
    have HB3:=hide (HB.out.trans (hb3.mono HB.out.size))
    clear HTy HX HT HF HA HL HB hb3 Hw1 c0 c1 c2 c3 c4 c5 c6
    obtain⟨_,c0,c1,c2,c3,c4,c5,c6⟩:=HX3.out
    have hvs:=HVs.out w3 HA3.out HL3.out
    go_wp2_with (go_at_call 75;fail)
    refine hvs.mono ?_
    rintro e w4 ⟨v7,rfl,hown,hb4⟩
    obtain⟨A7,c7,hv7,_,hH7⟩:=own_form hown
    subst hv7
    have HX4:=hide (HX3.out.below HX3.out.lt hb4)
    have HT4:=hide (HT3.out.below hb4)
    have HF4:=hide (HF3.out.grow hb4)
    have HB4:=hide (HB3.out.trans (hb4.mono HB3.out.size))
    have HH7:=hide hH7
    clear hvs HVs HX3 HT3 HF3 HA3 HL3 HB3 hb4 hown hH7 c0 c1 c2 c3 c4 c5 c6
    obtain⟨_,c0,c1,c2,c3,c4,c5,c6⟩:=HX4.out
    have hvv:=HVv.out w4 HT4.out
    go_wp2_with (go_at_call 79;fail)
    refine hvv.mono ?_
    rintro e w5 ⟨rfl,hb5⟩
    have HX5:=hide (HX4.out.below HX4.out.lt hb5)
    have HT5:=hide (HT4.out.below hb5)
    have HF5:=hide (HF4.out.grow hb5)
    have HB5:=hide (HB4.out.trans (hb5.mono HB4.out.size))
    replace HH7:=hide ((HH7.out.below hb5).upto hb5.size)
    clear hvv HVv HX4 HT4 HF4 HB4 hb5 c0 c1 c2 c3 c4 c5 c6
    obtain⟨_,c0,c1,c2,c3,c4,c5,c6⟩:=HX5.out
    go_wp2
    go_loopg [93] nv (fun r s93 wx=>∃j:Nat,j+r=nv∧s93=.int .i64 (j:Int)∧Hid (Below w5.heap.size w5 wx)∧Hid (∀x∈VS.take j,matchV k a v x=false))
    case atStart=>exact⟨0,by omega,rfl,hide (Below.refl _ _),hide (fun x hx=>by simp at hx)⟩
    case round=>
     obtain⟨j,hjg,rfl,hb6,hpre⟩:=hrel
     clear c0 c1 c2 c3 c4 c5 c6
     have hX6:=HX5.out.below HX5.out.lt hb6.out
     have hB6:=HB5.out.trans (hb6.out.mono HB5.out.size)
     obtain⟨_,c0,c1,c2,c3,c4,c5,c6⟩:=hX6
     cases gk with
     | zero=>
      obtain rfl:j=nv:=by omega
      have hjz:¬((j:Int)<(j:Int)):=by omega
      have hq:Hid (R=0):=hide (by
       have:=hpre.out
       rw[List.take_of_length_le (by rw[Hnv.out];exact Nat.le_refl _)] at this
       rw[hr.out,if_neg]
       simp only[List.any_eq_true,not_exists,not_and]
       intro x hx h
       rw[this x hx] at h
       cases h)
      clear HNo HPi HMa Hvm HF5 HT5 HX5 HH7 HB5 hpre hr
      go_wp2
      go_ret
      exact⟨by rw[hq.out];rfl,hB6⟩
     | succ r=>
      have hj:j<nv:=by omega
      have hjz:(j:Int)<(nv:Int):=by omega
      have hx:j<VS.length:=by rw[Hnv.out];exact hj
      obtain⟨x,hx⟩:∃x,VS[j]?=some x:=⟨_,List.getElem?_eq_getElem hx⟩
      have hxm:=List.mem_of_getElem? hx
      have hxl:=Hvm.out x hxm
      obtain⟨g,o,hAe,hg,hc⟩:=HH7.out.texts (fun h=>by rw[h] at hx;simp at hx)
      subst hAe
      have hdr:Below wr.heap.size wr wr.drew:=(Below.refl _ _).drew
      have hwd:Below w5.heap.size w5 wr.drew:=hb6.out.trans (hdr.mono hb6.out.size)
      have HXd:=hide (HX5.out.below HX5.out.lt hwd)
      have HFd:=hide (HF5.out.grow hwd)
      have HTd:=hide (HT5.out.below hwd)
      have hx0:=(hwd.cell (p:=⟨g,o+j,none⟩) hg).trans (hc j x hx)
      have hgd:g<wr.drew.heap.size:=Nat.lt_of_lt_of_le hg hwd.size
      have hcall:=HMa.out x hxl wr.drew HFd.out HTd.out
      obtain⟨pb,hpb⟩:∃pb,matchV k a v x=pb:=⟨_,rfl⟩
      rw[hpb] at hcall
      have hyes:pb=true→Hid (R=1):=fun h=>hide (by
       rw[hr.out,if_pos]
       simp only[List.any_eq_true]
       exact⟨x,hxm,by rw[hpb];exact h⟩)
      have hno:pb=false→Hid (∀y∈VS.take (j+1),matchV k a v y=false):=fun h=>hide (fun y hy=>by
       rw[List.take_add_one,hx] at hy
       simp only[Option.toList_some,List.mem_append,List.mem_singleton] at hy
       rcases hy with hy | rfl
       ·exact hpre.out y hy
       ·rw [hpb];exact h)
      have HYes:=hide hyes
      have HNon:=hide hno
      have HB5s:=HB5.out.size
      clear HNo HPi HMa Hvm hpre hr hyes hno hc hx hxm hxl hpb
      generalize txt x=sx at *
      go_wp2_with fail
      refine grow_begin (by kernel_rfl) ?_
      clear c0 c1 c2 c3 c4 c5 c6 hdr
      generalize wr.drew=wd at *
      refine grow_take 0 (some 96) (v:=?vb4q0) rfl rfl (by kernel_rfl) (by kernel_rfl) (by kernel_rfl) (fun _ _ _ h=>h) (by rfl) (fun W hW=>?yb4q0) ?_
      case yb4q0=>
       obtain⟨_,d0,d1,d2,d3,d4,d5,d6⟩:=HXd.out.below HXd.out.lt hW
       go_simp<;>with_reducible rfl
      simp only[Act.put,List.setIfInBounds_toArray,List.set_cons_zero,List.set_cons_succ]
      refine grow_take 1 (some 97) (v:=?vb4q1) rfl rfl (by kernel_rfl) (by kernel_rfl) (by kernel_rfl) (fun _ _ _ h=>h) (by rfl) (fun W hW=>?yb4q1) ?_
      case yb4q1=>
       go_simp<;>with_reducible rfl
      simp only[Act.put,List.setIfInBounds_toArray,List.set_cons_zero,List.set_cons_succ]
      refine grow_take 2 (some 98) (v:=?vb4q2) rfl rfl (by kernel_rfl) (by kernel_rfl) (by kernel_rfl) (fun _ _ _ h=>h) (by rfl) (fun W hW=>?yb4q2) ?_
      case yb4q2=>
       go_simp<;>with_reducible rfl
      simp only[Act.put,List.setIfInBounds_toArray,List.set_cons_zero,List.set_cons_succ]
      refine grow_take 3 (some 99) (v:=?vb4q3) rfl rfl (by kernel_rfl) (by kernel_rfl) (by kernel_rfl) (fun _ _ _ h=>h) (by rfl) (fun W hW=>?yb4q3) ?_
      case yb4q3=>
       go_simp<;>with_reducible rfl
      simp only[Act.put,List.setIfInBounds_toArray,List.set_cons_zero,List.set_cons_succ]
      refine grow_take 4 (some 100) (v:=?vb4q4) rfl rfl (by kernel_rfl) (by kernel_rfl) (by kernel_rfl) (fun _ _ _ h=>h) (by rfl) (fun W hW=>?yb4q4) ?_
      case yb4q4=>
       have h1:=(Below.cell (p:=⟨g,o+j,none⟩) hW hgd).trans hx0
       go_simp<;>with_reducible rfl
      simp only[Act.put,List.setIfInBounds_toArray,List.set_cons_zero,List.set_cons_succ]
      refine grow_only 5 rfl (by kernel_rfl) (fun K hK=>?_)
      go_simp
      refine hcall.mono ?_
      rintro e w7 ⟨rfl,hb7⟩
      have HW7:=hide (hwd.trans (hb7.mono hwd.size))
      refine hK.out _ _ hb7 ?_
      clear hK K hb7 hcall hwd hx0 HXd HFd HTd hgd
      try simp only[Act.put,List.setIfInBounds_toArray,List.set_cons_zero,List.set_cons_succ]
      refine grow_done (by kernel_rfl) ?_ _
      have HB7:=hide (HB5.out.trans (HW7.out.mono HB5s))
      cases pb with
      | true=>
       have hq:=HYes.out rfl
       clear HYes HNon
       go_wp2
       go_ret
       exact⟨by rw[hq.out];rfl,HB7.out⟩
      | false=>
       have hq:=HNon.out rfl
       clear HYes HNon
       go_wp2
       go_roundg r
       case measure=>omega
       case rel=>exact⟨j+1,by omega,by go_num,HW7,hq⟩
 ·have y2:(e2==0)=false:=beq_false_of_ne q2
  have y2':(e2 !=0)=true:=by unfold bne;rw[y2];rfl
  rw[if_pos (Or.inl q2)] at hRd
  have hr:=hide hRd
  clear hRd q2 k4 k7 t0
  go_enter Tryz.func51,Tryz.ntmps51
  go_wp2_with (go_at_call 74;fail)
  rw[Hw1.out]
  refine HTy.out.mono ?_
  rintro e w3 ⟨rfl,hb3⟩
  have HX3:=hide (HX.out.below HX.out.lt hb3)
  have HT3:=hide (HT.out.below hb3)
  have HF3:=hide (HF.out.grow hb3)
  have HA3:=hide ((HA.out.below hb3).upto hb3.size)
  have HL3:=hide (HL.out.grow hb3)
  have HB3:=hide (HB.out.trans (hb3.mono HB.out.size))
  clear HTy HX HT HF HA HL HB hb3 Hw1 c0 c1 c2 c3 c4 c5 c6
  obtain⟨_,c0,c1,c2,c3,c4,c5,c6⟩:=HX3.out
  have hvs:=HVs.out w3 HA3.out HL3.out
  go_wp2_with (go_at_call 75;fail)
  refine hvs.mono ?_
  rintro e w4 ⟨v7,rfl,hown,hb4⟩
  obtain⟨A7,c7,hv7,_,hH7⟩:=own_form hown
  subst hv7
  have HX4:=hide (HX3.out.below HX3.out.lt hb4)
  have HT4:=hide (HT3.out.below hb4)
  have HF4:=hide (HF3.out.grow hb4)
  have HB4:=hide (HB3.out.trans (hb4.mono HB3.out.size))
  have HH7:=hide hH7
  clear hvs HVs HX3 HT3 HF3 HA3 HL3 HB3 hb4 hown hH7 c0 c1 c2 c3 c4 c5 c6
  obtain⟨_,c0,c1,c2,c3,c4,c5,c6⟩:=HX4.out
  have hvv:=HVv.out w4 HT4.out
  go_wp2_with (go_at_call 79;fail)
  refine hvv.mono ?_
  rintro e w5 ⟨rfl,hb5⟩
  have HX5:=hide (HX4.out.below HX4.out.lt hb5)
  have HT5:=hide (HT4.out.below hb5)
  have HF5:=hide (HF4.out.grow hb5)
  have HB5:=hide (HB4.out.trans (hb5.mono HB4.out.size))
  replace HH7:=hide ((HH7.out.below hb5).upto hb5.size)
  clear hvv HVv HX4 HT4 HF4 HB4 hb5 c0 c1 c2 c3 c4 c5 c6
  obtain⟨_,c0,c1,c2,c3,c4,c5,c6⟩:=HX5.out
  clear HNo HPi HMa Hvm HF5 HT5 HX5 HH7 Hnv
  go_wp2
  go_ret
  exact⟨by rw[hr.out];rfl,HB5.out⟩
end Go.Proofs.YtaolhefllfnmiaaGreatDoor
namespace Go.Proofs.YtaolhefllfnmiaaGreatDoor
open Go.RowKit
set_option linter.unusedVariables false
def wX (l:List (List UInt8)):Nat:=(l.map fun x=>x.length/100).sum
def wA (a:At2):Nat:=1+a.2.length+wX a.2
def wL (L:List At2):Nat:=(L.map wA).sum
theorem wX_take {l:List (List UInt8)} {i:Nat} {x:List UInt8} (h:l[i]?=some x):wX (l.take (i+1))=wX (l.take i)+x.length/100:=by
 unfold wX
 rw[List.take_add_one,h]
 simp
theorem wL_take {L:List At2} {i:Nat} {a:At2} (h:L[i]?=some a):wL (L.take (i+1))=wL (L.take i)+wA a:=by
 unfold wL
 rw[List.take_add_one,h]
 simp
theorem wX_le:∀(l:List (List UInt8)) (i:Nat),wX (l.take i)≤wX l
 | [],i=>by simp
 | p::r,0=>by simp[wX]
 | p::r,i+1=>by have:=wX_le r i;simp only[wX,List.take_succ_cons,List.map_cons,List.sum_cons] at this ⊢;omega
theorem wL_le:∀(L:List At2) (i:Nat),wL (L.take i)≤wL L
 | [],i=>by simp
 | p::r,0=>by simp[wL]
 | p::r,i+1=>by have:=wL_le r i;simp only[wL,List.take_succ_cons,List.map_cons,List.sum_cons] at this ⊢;omega
theorem rsmall9_any (L:List At2) (hbd:wL L≤1000000000) (w:World) (h:Nat) (A:Option Addr) (n c:Nat) (xs:List Value) (hE:Two w h (.string ⟨#[]⟩) (.slice A n c)) (hA:Has w w.heap.size 2 A n xs) (hL:AsIn w w.heap.size xs L) (hn:n≤maxLen)
  (b:Bool) (hb:b=decide (1+wL L≤3000)):
  Calls Tryz.prog 34 #[.slice (some ⟨h,0,none⟩) 1 1] w fun e w'=>e=.returned (.bool b)∧w'=w:=by
 have hln:L.length=n:=by have h1:=hA.1;have h2:=hL.len;omega
 have hni:(n:Int)≤9223372036854775807:=by unfold maxLen at hn;omega
 obtain⟨e0,e1,hlt⟩:=hE
 have HA:=hide hA
 have HL:=hide hL
 have Hln:=hide hln
 have Hb:=hide hb
 have Hbd:=hide hbd
 clear hA hL hln hb hbd hn
 go_enter Tryz.func34,Tryz.ntmps34
 go_wp2
 go_loopg [3,9] 1 (fun r s3 s9 wx=>((r=1∧s9=.int .i64 0∧s3=.int .i64 0)∨(r=0∧s9=.int .i64 1∧Hid (b=true)))∧wx=w)
 case atStart=>exact⟨.inl ⟨rfl,rfl,rfl⟩,rfl⟩
 case round=>
  obtain⟨hcs,hw⟩:=hrel
  obtain rfl:=hw.symm
  clear hw
  rcases hcs with⟨rfl,rfl,rfl⟩ | ⟨rfl,rfl,hbt⟩
  ·go_wp2
   go_loopg [3,28] n (fun r s3 s28 wx=>∃j q:Nat,j+r=n∧s28=.int .i64 (j:Int)∧s3=.int .i64 (q:Int)∧q≤1000000001∧Hid (q=1+wL (L.take j))∧wx=w)
   case atStart=>exact⟨0,1,by omega,rfl,rfl,by omega,hide (by simp[wL]),rfl⟩
   case round=>
    obtain⟨j,q,hjg,rfl,rfl,hq9,hpre,hw⟩:=hrel
    obtain rfl:=hw.symm
    clear hw
    cases gk with
    | zero=>
     obtain rfl:j=n:=by omega
     have hjz:¬((j:Int)<(j:Int)):=by omega
     have hqe:Hid (q=1+wL L):=hide (by
      have:=hpre.out
      rwa [List.take_of_length_le (by rw[Hln.out];exact Nat.le_refl _)] at this)
     by_cases h3:3000<q
     ·have z3:(3000:Int)<(q:Int):=by omega
      have hbf:Hid (b=false):=hide (by rw[Hb.out,←hqe.out];simp;omega)
      clear HA HL Hln Hb Hbd hpre hqe
      go_wp2
      go_ret
      exact⟨by rw[hbf.out];rfl,rfl⟩
     ·have z3:¬((3000:Int)<(q:Int)):=by omega
      have hbt:Hid (b=true):=hide (by rw[Hb.out,←hqe.out];simp;omega)
      clear hpre hqe
      go_wp2
      go_roundg 0
      case measure=>omega
      case rel=>exact⟨.inr ⟨rfl,rfl,hbt⟩,rfl⟩
    | succ r=>
     have hj:j<n:=by omega
     have hjz:(j:Int)<(n:Int):=by omega
     obtain⟨a,ha⟩:∃a,L[j]?=some a:=⟨_,List.getElem?_eq_getElem (by rw[Hln.out];exact hj)⟩
     obtain⟨g,o,hAe,hg,hat⟩:=HA.out.attr HL.out (fun h=>by rw[h] at ha;simp at ha)
     subst hAe
     obtain⟨V,cv,x0,x1,hV⟩:=hat j a ha
     have hst:=wL_take ha
     have hle:=wL_le L (j+1)
     rw[hst,wA] at hle
     obtain⟨qn,hqn⟩:∃qn,a.2.length=qn:=⟨_,rfl⟩
     rw[hqn] at x1 hV hle
     have hbd:=Hbd.out
     have hpo:=hpre.out
     have hqn9:qn≤1000000000:=by omega
     have hws:∀i,q+1+qn+wX (a.2.take i)≤1000000001:=fun i=>by have:=wX_le a.2 i;omega
     have Hws:=hide hws
     have HV:=hide hV
     have Hqn:=hide hqn
     have hnext:Hid (q+1+qn+wX a.2=1+wL (L.take (j+1))):=hide (by rw[hst,wA,hqn];omega)
     clear hle hbd hpo hws hV hqn hst hat ha hpre
     go_wp2
     go_loopg [3,54] qn (fun r2 s3 s54 wx=>∃i p:Nat,i+r2=qn∧s54=.int .i64 (i:Int)∧s3=.int .i64 (p:Int)∧p≤1000000001∧Hid (p=q+1+qn+wX (a.2.take i))∧wx=w)
     case atStart=>exact⟨0,q+1+qn,by omega,rfl,by go_num,by have:=Hws.out 0;simp[wX] at this;omega,hide (by simp[wX]),rfl⟩
     case round=>
      obtain⟨i,p,hig,rfl,rfl,hp9,hpre2,hw⟩:=hrel
      obtain rfl:=hw.symm
      clear hw
      cases gk with
      | zero=>
       obtain rfl:i=qn:=by omega
       have hiz:¬((i:Int)<(i:Int)):=by omega
       have hpe:Hid (p=1+wL (L.take (j+1))):=hide (by
        have:=hpre2.out
        rw[List.take_of_length_le (by rw[Hqn.out];exact Nat.le_refl _)] at this
        rw[this];exact hnext.out)
       clear Hws HV Hqn hnext hpre2
       go_wp2
       go_roundg r
       case measure=>omega
       case rel=>exact⟨j+1,p,by omega,by go_num,rfl,hp9,hpe,rfl⟩
      | succ r2=>
       have hi:i<qn:=by omega
       have hiz:(i:Int)<(qn:Int):=by omega
       obtain⟨x,hx⟩:∃x,a.2[i]?=some x:=⟨_,List.getElem?_eq_getElem (by rw[Hqn.out];exact hi)⟩
       have HV1:=HV.out
       obtain⟨g2,o2,hVe,hg2,hc2⟩:=HV1.texts (fun h=>by rw[h] at hx;simp at hx)
       subst hVe
       have y0:=hc2 i x hx
       have hxs:=txt_size x
       have hw2:=wX_take hx
       have hlim:=Hws.out (i+1)
       have hpo:=hpre2.out
       obtain⟨dx,hdx⟩:∃dx,x.length/100=dx:=⟨_,rfl⟩
       rw[hw2,hdx] at hlim
       have hp2:Hid (p+dx=q+1+qn+wX (a.2.take (i+1))):=hide (by rw[hw2,hdx,hpo];omega)
       have hplim:p+dx≤1000000001:=by omega
       have d1:((txt x).size:Int)/100=(dx:Int):=by omega
       have d2:Int.tdiv ((txt x).size:Int) 100=(dx:Int):=by rw[Int.tdiv_eq_ediv_of_nonneg (by omega)];exact d1
       generalize txt x=sx at *
       clear Hws HV Hqn hnext hpre2 hxs hw2 hlim hpo hdx hx hc2 HV1
       go_wp2
       go_roundg r2
       case measure=>omega
       case rel=>exact⟨i+1,p+dx,by omega,by go_num,by go_num,hplim,hp2,rfl⟩
  ·have hq:=hbt
   clear HA HL Hln Hb Hbd
   go_wp2
   go_ret
   exact⟨by rw[hq.out];rfl,rfl⟩
theorem few7_any (L:List At2) (hbd:wL L≤1000000000) (w:World) (A:Option Addr) (n c:Nat) (xs:List Value) (hA:Has w w.heap.size 2 A n xs) (hL:AsIn w w.heap.size xs L) (hn:n≤maxLen):
  Calls Tryz.prog 20 #[.slice A n c] w fun e w'=>e=.returned (.bool (decide (1+wL L≤3000)))∧Below w.heap.size w w':=by
 have hb0:=below1 w (.cells #[.string ⟨#[]⟩,.slice A n c] 66)
 have hE:=Two.new w (.string ⟨#[]⟩) (.slice A n c) 66
 have hcall:=rsmall9_any L hbd _ w.heap.size A n c xs hE ((hA.below hb0).upto hb0.size) (hL.grow hb0) hn _ rfl
 generalize decide (1+wL L≤3000)=b at *
 clear hA hL hE hbd
 go_enter Tryz.func20,Tryz.ntmps20
 go_wp2_with (go_at_call 34;fail)
 refine hcall.mono ?_
 rintro e w1 ⟨rfl,hw1⟩
 subst hw1
 clear hcall
 go_wp2
 go_ret
 exact⟨rfl,hb0⟩
theorem wX_mem:∀{l:List (List UInt8)} {x:List UInt8},x∈l→x.length/100≤wX l
 | p::r,x,h=>by
  simp only[wX,List.map_cons,List.sum_cons]
  rcases List.mem_cons.1 h with rfl | h
  ·omega
  ·have:=wX_mem h;unfold wX at this;omega
theorem wL_mem:∀{L:List At2} {a:At2},a∈L→wA a≤wL L
 | p::r,a,h=>by
  simp only[wL,List.map_cons,List.sum_cons]
  rcases List.mem_cons.1 h with rfl | h
  ·omega
  ·have:=wL_mem h;unfold wL at this;omega
theorem wL_tot:∀L:List At2,L.length+(L.flatMap (·.2)).length≤wL L
 | []=>by simp[wL]
 | p::r=>by
  have:=wL_tot r
  simp only[wL,wA,List.map_cons,List.sum_cons,List.flatMap_cons,List.length_append,List.length_cons] at this ⊢
  omega
theorem asok_of_few {L:List At2} (h:1+wL L≤3000) (hty:∀a∈L,a.1.length≤281474976710656):AsOk L∧L.length≤3000:=by
 have ht:=wL_tot L
 refine⟨⟨hty,fun a ha x hx=>?_,by omega⟩,by omega⟩
 have h1:=wL_mem ha
 have h2:=wX_mem hx
 unfold wA at h1
 omega
end Go.Proofs.YtaolhefllfnmiaaGreatDoor
namespace Go.Proofs.YtaolhefllfnmiaaGreatDoor
open Go.RowKit
set_option linter.unusedVariables false
def combV (k:Int) (es:List Int) (o:Int):Int:=
 if k=2 then (match es with | e::_=>if e<0 then e else 1-e | []=>0)
 else if k=0∨k=1 then (if es.contains k then k else if es.any (fun e=>decide (e<0)) then -1 else 1-k)
 else o
mutual
noncomputable def FT.evalT (L:List At2):FT→Int
 | .mk k a v f l any ps=>combV k (FT.evalL L ps) (oneV L k a v f l any)
noncomputable def FT.evalL (L:List At2):List FT→List Int
 | []=>[]
 | p::r=>FT.evalT L p::FT.evalL L r
end
theorem FT.evalL_map (L:List At2):∀ps:List FT,FT.evalL L ps=ps.map (FT.evalT L)
 | []=>rfl
 | p::r=>by simp[FT.evalL,FT.evalL_map L r]
theorem one_range (L:List At2) (k:Int) (a v f l:List UInt8) (any:List (List UInt8)): -1≤oneV L k a v f l any∧oneV L k a v f l any≤1:=by
 unfold oneV
 repeat' split
 all_goals omega
theorem FT.eval_range (L:List At2) (t:FT): -1≤t.evalT L∧t.evalT L≤1:=by
 induction t using FT.induct
 rename_i k a v f l any ps ih
 have ho:=one_range L k a v f l any
 simp only[FT.evalT,FT.evalL_map,combV]
 split
 ·cases ps with
  | nil=>simp
  | cons p r=>
   have:=ih p (by simp)
   simp only[List.map_cons]
   split<;>omega
 ·split
  ·split
   ·omega
   ·split<;>omega
  ·exact ho
noncomputable def FT.evalV (L:List At2) (t:FT):Int:=if t.formed then t.evalT L else -1
theorem comb_hit {k:Int} {es:List Int} {o:Int} (hk:k=0∨k=1) (h:k∈es):combV k es o=k:=by
 unfold combV
 rw[if_neg (by omega),if_pos hk,if_pos (by simpa using h)]
theorem comb_end {k:Int} {es:List Int} {o:Int} (hk:k=0∨k=1) (h:∀e∈es,e≠k) (b:Bool) (hb:es.any (fun e=>decide (e<0))=b):combV k es o=if b then -1 else 1-k:=by
 unfold combV
 rw[if_neg (by omega),if_pos hk,if_neg (by simp only[List.contains_iff_mem];exact fun hm=>h k hm rfl),hb]
theorem reval_any (L:List At2) (hok:AsOk L) (n:Nat) (hn:n≤1000000) (t:FT):t.all=true→∀(w:World) (A:Option Addr) (c:Nat) (xs:List Value) (u0 u1 u2 u3 u4 u5 u6:Value),Has w w.heap.size 2 A n xs→AsIn w w.heap.size xs L→FIn w w.heap.size t [u0,u1,u2,u3,u4,u5,u6]→TM w→
  Calls Tryz.prog 36 #[.agg #[u0,u1,u2,u3,u4,u5,u6],.slice A n c] w fun e w'=>e=.returned (.int .i64 (t.evalT L))∧Below w.heap.size w w':=by
 induction t using FT.induct
 rename_i k a v f l any ps ih
 intro hall w A c xs u0 u1 u2 u3 u4 u5 u6 hA hL hF hT
 have hF0:=hF
 simp only[FIn] at hF
 obtain⟨Aa,ca,D,dd,ys,hcs,⟨hml,hnl⟩,_,hD,hP⟩:=hF
 cases hcs
 unfold maxLen at hnl
 rw[FT.all_mk,Bool.and_eq_true] at hall
 obtain⟨hbr,hpa⟩:=hall
 have hBi:=FT.bare_is hbr
 have hbn:=FT.bare_not a v f l any ps
 obtain⟨m,hm⟩:∃m,any.length=m:=⟨_,rfl⟩
 obtain⟨np,hnp⟩:∃np,ps.length=np:=⟨_,rfl⟩
 have hnl1:(np:Int)≤9223372036854775807:=by omega
 have hX:=Box7.new w k (txt a) (txt v) (txt f) (txt l) Aa any.length ca D ps.length dd 25
 have hb0:=below1 w (.cells #[.int .i64 k,.string (txt a),.string (txt v),.string (txt f),.string (txt l),.slice Aa any.length ca,.slice D ps.length dd] 25)
 obtain⟨w1,hw1⟩:∃w1,(w.alloc (.cells #[.int .i64 k,.string (txt a),.string (txt v),.string (txt f),.string (txt l),.slice Aa any.length ca,.slice D ps.length dd] 25))=w1:=⟨_,rfl⟩
 rw[hw1] at hX hb0
 have hF1:=hF0.grow hb0
 have hT1:=hT.below hb0
 have hA1:=(hA.below hb0).upto hb0.size
 have hL1:=hL.grow hb0
 rw[hm,hnp] at hX hw1 hF1 ⊢
 have hOne:=rone_any k a v f l any ps (by have:=hBi.la;omega) (by have:=hBi.lv;omega) (by have:=hBi.lf;omega) (by have:=hBi.ll;omega) (fun x hx=>by have:=hBi.lx x hx;omega) L hok w1 A n c xs hA1 hL1 hn _ _ _ _ _ _ _ hF1 hT1
 have hEs:FT.evalL L ps=ps.map (FT.evalT L):=FT.evalL_map L ps
 obtain⟨R,hR⟩:∃R,FT.evalT L (.mk k a v f l any ps)=R:=⟨_,rfl⟩
 have hRd:R=combV k (ps.map (FT.evalT L)) (oneV L k a v f l any):=by rw[←hR,FT.evalT,hEs]
 rw[hR]
 obtain⟨oo,hoo⟩:∃oo,oneV L k a v f l any=oo:=⟨_,rfl⟩
 rw[hoo] at hRd hOne
 have hk:=hBi.kind
 have hbr2:k=2→np=1:=fun h=>by
  subst h
  rw[hbn] at hbr
  simp only[Bool.and_eq_true,beq_iff_eq] at hbr
  rw[←hnp];exact hbr.2
 have HPa:=hide (fun p hp=>List.all_eq_true.1 hpa p hp)
 have HD:=hide hD
 have HP:=hide hP
 have Hih:=hide ih
 have Hnp:=hide hnp
 have HX:=hide hX
 have HB:=hide hb0
 have HT:=hide hT1
 have HA:=hide hA1
 have HL:=hide hL1
 have HOne:=hide hOne
 have Hw1:=hide hw1
 clear ih hD hP hnp hb0 hT1 hA1 hL1 hOne hw1 hpa hbr hBi hbn hEs hR hoo hm hml hnl hF0 hF1 hT hA hL
 obtain⟨_,c0,c1,c2,c3,c4,c5,c6⟩:=hX
 generalize txt a=sa at *
 generalize txt v=sv at *
 generalize txt f=sf at *
 generalize txt l=sl at *
 rw[←Hw1.out] at c0 c1 c2 c3 c4 c5 c6
 by_cases k2:k=2
 ·obtain rfl:=hbr2 k2
  subst k2
  obtain⟨p,hp⟩:∃p,ps[0]?=some p:=⟨_,List.getElem?_eq_getElem (by rw[Hnp.out];omega)⟩
  have hes:ps.map (FT.evalT L)=[p.evalT L]:=by
   have h1:=Hnp.out
   match ps,h1,hp with
   | [q],_,hp=>simp at hp;subst hp;rfl
  have hpm:=List.mem_of_getElem? hp
  obtain⟨g,o,hDe,hg,hparts⟩:=HD.out.part HP.out (fun h=>by rw[h] at hp;simp at hp)
  subst hDe
  obtain⟨u0,u1,u2,u3,u4,u5,u6,hpart⟩:=hparts 0 p hp
  rw[Nat.zero_mul,Nat.add_zero] at hpart
  have hpt:=hpart.below HB.out
  have hcall:=Hih.out p hpm (HPa.out p hpm) w1 A c xs u0 u1 u2 u3 u4 u5 u6 HA.out HL.out (hpt.fin.upto HB.out.size) HT.out
  have hr:=FT.eval_range L p
  rw[hes] at hRd
  obtain⟨y,hy⟩:∃y,p.evalT L=y:=⟨_,rfl⟩
  rw[hy] at hcall hr hRd
  have hRe:R=if y<0 then y else 1-y:=by rw[hRd];rfl
  obtain⟨_,_,x0,x1,x2,x3,x4,x5,x6⟩:=hpt
  rw[←Hw1.out] at x0 x1 x2 x3 x4 x5 x6
  clear HPa HD HP Hih Hnp HX HT HA HL HOne hparts hpart hp hpm hes hy hRd hk hbr2
  by_cases q:y<0
  ·have hq:Hid (R=y):=hide (by rw[hRe,if_pos q])
   clear hRe
   go_enter Tryz.func36,Tryz.ntmps36
   go_wp2_with (go_at_call 36;fail)
   rw[Hw1.out]
   refine hcall.mono ?_
   rintro e w2 ⟨rfl,hb2⟩
   have hb3:=HB.out.trans (hb2.mono HB.out.size)
   clear hcall hb2 c0 c1 c2 c3 c4 c5 c6 x0 x1 x2 x3 x4 x5 x6
   go_wp2
   go_ret
   exact⟨by rw[hq.out];rfl,hb3⟩
  ·have hq:Hid (1-y=R):=hide (by rw[hRe,if_neg q])
   clear hRe
   go_enter Tryz.func36,Tryz.ntmps36
   go_wp2_with (go_at_call 36;fail)
   rw[Hw1.out]
   refine hcall.mono ?_
   rintro e w2 ⟨rfl,hb2⟩
   have hb3:=HB.out.trans (hb2.mono HB.out.size)
   clear hcall hb2 c0 c1 c2 c3 c4 c5 c6 x0 x1 x2 x3 x4 x5 x6
   go_wp2
   go_ret
   exact⟨by rw[←hq.out];rfl,hb3⟩
 have z2:(k==2)=false:=beq_false_of_ne k2
 by_cases k01:k=0∨k=1
 ·have hkr:0≤k∧k≤1:=by omega
  have HRd:=hide hRd
  have Hk01:=hide k01
  have z01:(k==0)=true∨((k==0)=false∧(k==1)=true):=by
   rcases k01 with rfl | rfl
   ·exact .inl rfl
   ·exact .inr ⟨rfl,rfl⟩
  clear hRd hk hbr2 k01
  go_enter Tryz.func36,Tryz.ntmps36
  rcases z01 with z0 | ⟨z0,z1⟩
  all_goals (
   go_wp2
   go_loopg [6,30] np (fun r s6 s30 wx=>∃(j:Nat) (b:Bool),j+r=np∧s30=.int .i64 (j:Int)∧s6=.bool b∧Hid (((ps.take j).map (FT.evalT L)).any (fun e=>decide (e<0))=b)∧Hid (∀e∈(ps.take j).map (FT.evalT L),e≠k)∧Hid (Below w1.heap.size w1 wx))
   case atStart=>exact⟨0,false,by omega,rfl,rfl,hide rfl,hide (fun e he=>by simp at he),hide (by rw[Hw1.out];exact Below.refl _ _)⟩
   case round=>
    obtain⟨j,b,hjg,rfl,rfl,hany,hpre,hb5⟩:=hrel
    clear c0 c1 c2 c3 c4 c5 c6
    have hX5:=HX.out.below HX.out.lt hb5.out
    have hB5:=HB.out.trans (hb5.out.mono HB.out.size)
    obtain⟨_,c0,c1,c2,c3,c4,c5,c6⟩:=hX5
    cases gk with
    | zero=>
     obtain rfl:j=np:=by omega
     have hjz:¬((j:Int)<(j:Int)):=by omega
     have hq:Hid ((if b then -1 else 1-k)=R):=hide (by
      have h1:=hany.out
      have h2:=hpre.out
      rw[List.take_of_length_le (by rw[Hnp.out];exact Nat.le_refl _)] at h1 h2
      rw[HRd.out,comb_end Hk01.out h2 b h1])
     clear HPa HD HP Hih Hnp HX HT HA HL HOne hany hpre HRd Hk01 HB
     cases b with
     | true=>
      go_wp2
      go_ret
      exact⟨by rw[←hq.out];rfl,hB5⟩
     | false=>
      go_wp2
      go_ret
      exact⟨by rw[←hq.out];rfl,hB5⟩
    | succ r=>
     have hj:j<np:=by omega
     have hjz:(j:Int)<(np:Int):=by omega
     obtain⟨p,hp⟩:∃p,ps[j]?=some p:=⟨_,List.getElem?_eq_getElem (by rw[Hnp.out];exact hj)⟩
     have hpm:=List.mem_of_getElem? hp
     obtain⟨g,o,hDe,hg,hparts⟩:=HD.out.part HP.out (fun h=>by rw[h] at hp;simp at hp)
     subst hDe
     obtain⟨u0,u1,u2,u3,u4,u5,u6,hpart⟩:=hparts j p hp
     have hpt:=hpart.below hB5
     have hcall:=Hih.out p hpm (HPa.out p hpm) wr A c xs u0 u1 u2 u3 u4 u5 u6 ((HA.out.below hb5.out).upto hb5.out.size) (HL.out.grow hb5.out) (hpt.fin.upto hB5.size) (HT.out.below hb5.out)
     have hr:=FT.eval_range L p
     have hem:p.evalT L∈ps.map (FT.evalT L):=List.mem_map.2 ⟨p,hpm,rfl⟩
     have htk:(ps.take (j+1)).map (FT.evalT L)=(ps.take j).map (FT.evalT L)++[p.evalT L]:=by rw[List.take_add_one,hp];simp
     obtain⟨y,hy⟩:∃y,p.evalT L=y:=⟨_,rfl⟩
     rw[hy] at hcall hr hem htk
     have hyes:y=k→Hid (R=k):=fun h=>hide (by rw[HRd.out,comb_hit Hk01.out (by rw[←h];exact hem)])
     have hno:y≠k→Hid (∀e∈(ps.take (j+1)).map (FT.evalT L),e≠k):=fun h=>hide (fun e he=>by
      rw[htk] at he
      simp only[List.mem_append,List.mem_singleton] at he
      rcases he with he | rfl
      ·exact hpre.out e he
      ·exact h)
     have han:((ps.take (j+1)).map (FT.evalT L)).any (fun e=>decide (e<0))=(b||decide (y<0)):=by rw[htk,List.any_append,hany.out];simp
     have HYes:=hide hyes
     have HNo:=hide hno
     have HAn:=hide han
     obtain⟨_,_,x0,x1,x2,x3,x4,x5,x6⟩:=hpt
     clear HPa HD HP Hih Hnp HT HA HL HOne hparts hpart hp hpm hem htk hy hyes hno han hany hpre HRd Hk01
     go_wp2_with (go_at_call 36;fail)
     refine hcall.mono ?_
     rintro e w2 ⟨rfl,hb2⟩
     have hb6:=hide (hb5.out.trans (hb2.mono hb5.out.size))
     have hX6:=HX.out.below HX.out.lt hb6.out
     have hB6:=HB.out.trans (hb6.out.mono HB.out.size)
     clear hcall hb2 hb5 hB5 c0 c1 c2 c3 c4 c5 c6 x0 x1 x2 x3 x4 x5 x6
     obtain⟨_,c0,c1,c2,c3,c4,c5,c6⟩:=hX6
     by_cases q:y=k
     ·have hq:=HYes.out q
      have zq:(y==k)=true:=by rw[q];simp
      clear HYes HNo HAn HX HB
      go_wp2
      go_ret
      exact⟨by first | (rw[hq.out];rfl) | (rw[hq.out,←q];rfl),hB6⟩
     ·have hq:=HNo.out q
      have zq:(y==k)=false:=beq_false_of_ne q
      have hz:=HAn.out
      clear HYes HNo HAn
      cases b with
      | true=>
       rw[Bool.true_or] at hz
       have Hz:=hide hz
       clear hz q
       go_wp2
       go_roundg r
       case measure=>omega
       case rel=>exact⟨j+1,true,by omega,by go_num,rfl,Hz,hq,hb6⟩
      | false=>
       rw[Bool.false_or] at hz
       by_cases yn:y<0
       ·rw [decide_eq_true yn] at hz
        have Hz:=hide hz
        clear hz q
        go_wp2
        go_roundg r
        case measure=>omega
        case rel=>exact⟨j+1,true,by omega,by go_num,by first | rfl | rw[decide_eq_true yn],Hz,hq,hb6⟩
       ·rw [decide_eq_false yn] at hz
        have Hz:=hide hz
        clear hz q
        go_wp2
        go_roundg r
        case measure=>omega
        case rel=>exact⟨j+1,false,by omega,by go_num,by first | rfl | rw[decide_eq_false (by omega)],Hz,hq,hb6⟩)
 ·have z0:(k==0)=false:=beq_false_of_ne (by omega)
  have z1:(k==1)=false:=beq_false_of_ne (by omega)
  have hq:Hid (R=oo):=hide (by rw[hRd];unfold combV;rw[if_neg k2,if_neg k01])
  have hone:=HOne.out
  clear hRd hk hbr2 k01 k2 HPa HD HP Hih Hnp HX HT HA HL HOne
  go_enter Tryz.func36,Tryz.ntmps36
  go_wp2_with (go_at_call 51;fail)
  rw[Hw1.out]
  refine hone.mono ?_
  rintro e w2 ⟨rfl,hb2⟩
  have hb3:=HB.out.trans (hb2.mono HB.out.size)
  clear hone hb2 c0 c1 c2 c3 c4 c5 c6
  go_wp2
  go_ret
  exact⟨by rw[hq.out];rfl,hb3⟩
theorem rEval_any (L:List At2) (hok:AsOk L) (n:Nat) (hn:n≤1000000) (t:FT) (w:World) (A:Option Addr) (c:Nat) (xs:List Value) (u0 u1 u2 u3 u4 u5 u6:Value) (hA:Has w w.heap.size 2 A n xs) (hL:AsIn w w.heap.size xs L) (hF:FIn w w.heap.size t [u0,u1,u2,u3,u4,u5,u6]) (hT:TM w):
  Calls Tryz.prog 22 #[.agg #[u0,u1,u2,u3,u4,u5,u6],.slice A n c] w fun e w'=>e=.returned (.int .i64 (t.evalV L))∧Below w.heap.size w w':=by
 have hF0:=hF
 cases t with
 | mk k a v f l any ps=>
 simp only[FIn] at hF
 obtain⟨Aa,ca,D,dd,ys,hcs,_⟩:=hF
 cases hcs
 obtain⟨m,hm⟩:∃m,any.length=m:=⟨_,rfl⟩
 obtain⟨np,hnp⟩:∃np,ps.length=np:=⟨_,rfl⟩
 have hX:=Box7.new w k (txt a) (txt v) (txt f) (txt l) Aa any.length ca D ps.length dd 25
 have hb0:=below1 w (.cells #[.int .i64 k,.string (txt a),.string (txt v),.string (txt f),.string (txt l),.slice Aa any.length ca,.slice D ps.length dd] 25)
 have hA1:=(hA.below hb0).upto hb0.size
 have hL1:=hL.grow hb0
 have hT1:=hT.below hb0
 rw[hm,hnp] at hX hb0 hF0 hA1 hL1 hT1 ⊢
 obtain⟨t0,ht0⟩:∃t0,FT.mk k a v f l any ps=t0:=⟨_,rfl⟩
 rw[ht0] at hF0 ⊢
 have hF1:=hF0.grow hb0
 have hFo:=rfformed_any t0 _ _ _ _ _ _ _ _ hF1
 have HX:=hide hX
 have HB:=hide hb0
 have HF:=hide hF1
 have HA:=hide hA1
 have HL:=hide hL1
 have HT:=hide hT1
 clear hF0 hm hnp ht0 hF1 hA1 hL1 hT1 hA hL hT
 generalize txt a=sa at *
 generalize txt v=sv at *
 generalize txt f=sf at *
 generalize txt l=sl at *
 obtain⟨_,c0,c1,c2,c3,c4,c5,c6⟩:=hX
 cases hfo:t0.formed with
 | false=>
  have hv:t0.evalV L= -1:=by unfold FT.evalV;rw[hfo];rfl
  rw[hv]
  rw[hfo] at hFo
  clear hv hfo HF HA HL HT
  go_enter Tryz.func22,Tryz.ntmps22
  go_wp2_with (go_at_call 13;fail)
  refine hFo.mono ?_
  rintro e w2 ⟨rfl,hb2⟩
  have hb3:=HB.out.trans (hb2.mono HB.out.size)
  clear hFo hb2 hb0 c0 c1 c2 c3 c4 c5 c6
  go_wp2
  go_ret
  exact⟨rfl,hb3⟩
 | true=>
  have hv:t0.evalV L=t0.evalT L:=by unfold FT.evalV;rw[hfo];rfl
  have hall:t0.all=true:=by unfold FT.formed at hfo;simp only[Bool.and_eq_true] at hfo;exact hfo.2
  rw[hv]
  rw[hfo] at hFo
  have hEv:=fun w A c xs hA hL hF hT=>reval_any L hok n hn t0 hall w A c xs (.int .i64 k) (.string sa) (.string sv) (.string sf) (.string sl) (.slice Aa m ca) (.slice D np dd) hA hL hF hT
  clear hv hfo hall
  go_enter Tryz.func22,Tryz.ntmps22
  go_wp2_with (go_at_call 13;fail)
  refine hFo.mono ?_
  rintro e w2 ⟨rfl,hb2⟩
  have hX2:=HX.out.below HX.out.lt hb2
  have hE2:=hEv w2 A c xs ((HA.out.below hb2).upto hb2.size) (HL.out.grow hb2) (HF.out.grow hb2) (HT.out.below hb2)
  have hb3:=HB.out.trans (hb2.mono HB.out.size)
  clear hFo hb2 hb0 c0 c1 c2 c3 c4 c5 c6 hEv HX HB HF HA HL HT
  obtain⟨_,c0,c1,c2,c3,c4,c5,c6⟩:=hX2
  go_wp2_with (go_at_call 36;fail)
  refine hE2.mono ?_
  rintro e w4 ⟨rfl,hb4⟩
  have hb5:=hb3.trans (hb4.mono hb3.size)
  clear hE2 hb4 hb3 c0 c1 c2 c3 c4 c5 c6
  go_wp2
  go_ret
  exact⟨rfl,hb5⟩
end Go.Proofs.YtaolhefllfnmiaaGreatDoor
