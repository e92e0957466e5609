/- The walk of FilterEvals: whatever the filter and the attributes, true. By an AI agent. -/
import Derived.Test.YtaolhefllfnmiaaGreatDoorHZ
import Derived.Test.YtaolhefllfnmiaaGreatDoorHU
import Derived.Test.YtaolhefllfnmiaaGreatDoorJW
set_option maxRecDepth 100000
set_option maxHeartbeats 64000000
namespace Go.Proofs.YtaolhefllfnmiaaGreatDoor
open Go.RowKit
set_option linter.unusedVariables false
theorem jevals_of (hAw:∀w,FM w→Calls Tryz.prog 7 #[] w fun e w'=>e=.returned (.bool true)∧Below w.heap.size w w')
  (hEv:∀(L:List At2),AsOk L→∀(n:Nat),n≤1000000→∀(t:FT),t.wee→∀(w:World) (A:Option Addr) (c:Nat) (xs:List Value) (u0 u1 u2 u3 u4 u5 u6:Value),Has w w.heap.size 2 A n xs→AsIn w w.heap.size xs L→FIn w w.heap.size t [u0,u1,u2,u3,u4,u5,u6]→TM w→
   Calls Tryz.prog 21 #[.agg #[u0,u1,u2,u3,u4,u5,u6],.slice A n c] w fun e w'=>e=.returned (.int .i64 (t.evalV L))∧Below w.heap.size w w')
  (t:FT) (L:List At2) (w:World) (A:Option Addr) (n c:Nat) (xs:List Value) (u0 u1 u2 u3 u4 u5 u6:Value) (hF:FIn w w.heap.size t [u0,u1,u2,u3,u4,u5,u6]) (hA:Has w w.heap.size 2 A n xs) (hL:AsIn w w.heap.size xs L) (hT:FM w)
  (hn:n≤maxLen) (hbd:wL L≤1000000000) (hty:∀a∈L,a.1.length≤281474976710656):
  Calls Tryz.prog 5 #[.agg #[u0,u1,u2,u3,u4,u5,u6],.slice A n c] w fun e w'=>e=.returned (.bool true)∧Below w.heap.size w w':=by
 have hF0:=hF
 cases t with
 | mk k a v f l any ps=>
 simp only[FIn] at hF
 obtain⟨Aa,ca,D,dd,ys,hcs,_⟩:=hF
 cases hcs
 have hln:L.length=n:=by have h1:=hA.1;have h2:=hL.len;omega
 obtain⟨m,hm⟩:∃m,any.length=m:=⟨_,rfl⟩
 obtain⟨np,hnp⟩:∃np,ps.length=np:=⟨_,rfl⟩
 have hX:=Box7.new w k (txt a) (txt v) (txt f) (txt l) Aa any.length ca D ps.length dd 25
 have hb0:=below1 w (.cells #[.int .i64 k,.string (txt a),.string (txt v),.string (txt f),.string (txt l),.slice Aa any.length ca,.slice D ps.length dd] 25)
 obtain⟨w1,hw1⟩:∃w1,(w.alloc (.cells #[.int .i64 k,.string (txt a),.string (txt v),.string (txt f),.string (txt l),.slice Aa any.length ca,.slice D ps.length dd] 25))=w1:=⟨_,rfl⟩
 rw[hw1] at hX hb0
 have hF1:=hF0.grow hb0
 have hT1:=hT.below hb0
 have hA1:=(hA.below hb0).upto hb0.size
 have hL1:=hL.grow hb0
 rw[hm,hnp] at hX hw1 hF1 ⊢
 obtain⟨t0,ht0⟩:∃t0,FT.mk k a v f l any ps=t0:=⟨_,rfl⟩
 rw[ht0] at hF1
 have hSm:=fun w h=>fSmall_any t0 w (.int .i64 k) (.string (txt a)) (.string (txt v)) (.string (txt f)) (.string (txt l)) (.slice Aa m ca) (.slice D np dd) h
 have hFe:=fun w hA hL=>few7_any L hbd w A n c xs hA hL hn
 have hTh:=fun hw w h=>theirs7_any t0 hw w (.int .i64 k) (.string (txt a)) (.string (txt v)) (.string (txt f)) (.string (txt l)) (.slice Aa m ca) (.slice D np dd) h
 have hRe:=fun hok hn w hA hL hF hT=>rEval_any L hok n hn t0 w A c xs (.int .i64 k) (.string (txt a)) (.string (txt v)) (.string (txt f)) (.string (txt l)) (.slice Aa m ca) (.slice D np dd) hA hL hF hT
 have HSm:=hide hSm
 have HFe:=hide hFe
 have HTh:=hide hTh
 have HRe:=hide hRe
 have HAw:=hide hAw
 have HEv:=hide hEv
 have HX:=hide hX
 have HB:=hide hb0
 have HT:=hide hT1
 have HF:=hide hF1
 have HA:=hide hA1
 have HL:=hide hL1
 have Hw1:=hide hw1
 have Hln:=hide hln
 have Hty:=hide hty
 clear hSm hFe hTh hRe hAw hEv hb0 hT1 hF1 hA1 hL1 hw1 hF0 hA hL hT hm hnp ht0 hln hn hbd hty hX
 generalize txt a=sa at *
 generalize txt v=sv at *
 generalize txt f=sf at *
 generalize txt l=sl at *
 cases hsm:t0.smallB with
 | false=>
  rw[hsm] at HSm
  clear hsm HFe HTh HRe HEv Hln Hty
  go_enter Tryz.func5,Tryz.ntmps5
  go_wp2_with (go_at_call 7;fail)
  rw[Hw1.out]
  refine (HAw.out _ HT.out).mono ?_
  rintro e w2 ⟨rfl,hb⟩
  have HX2:=hide (HX.out.below HX.out.lt hb)
  have HT2:=hide (HT.out.below hb)
  have HF2:=hide (HF.out.grow hb)
  have HA2:=hide ((HA.out.below hb).upto hb.size)
  have HL2:=hide (HL.out.grow hb)
  have HB2:=hide (HB.out.trans (hb.mono HB.out.size))
  clear hb HX HT HF HA HL HB
  try clear c0 c1 c2 c3 c4 c5 c6
  obtain⟨_,c0,c1,c2,c3,c4,c5,c6⟩:=HX2.out
  go_wp2_with (go_at_call 8;fail)
  refine (HSm.out _ HF2.out).mono ?_
  rintro e w3 ⟨rfl,hb⟩
  have HX3:=hide (HX2.out.below HX2.out.lt hb)
  have HT3:=hide (HT2.out.below hb)
  have HF3:=hide (HF2.out.grow hb)
  have HA3:=hide ((HA2.out.below hb).upto hb.size)
  have HL3:=hide (HL2.out.grow hb)
  have HB3:=hide (HB2.out.trans (hb.mono HB2.out.size))
  clear hb HX2 HT2 HF2 HA2 HL2 HB2
  try clear c0 c1 c2 c3 c4 c5 c6
  obtain⟨_,c0,c1,c2,c3,c4,c5,c6⟩:=HX3.out
  go_wp2_with (go_at_call 7;fail)
  refine (HAw.out _ HT3.out).mono ?_
  rintro e w9 ⟨rfl,hb⟩
  have hB:=HB3.out.trans (hb.mono HB3.out.size)
  clear hb
  go_wp2
  go_ret
  exact⟨rfl,hB⟩
 | true=>
  have hwee:t0.wee:=FT.wee_of_small (by unfold FT.smallB at hsm;simpa using hsm)
  rw[hsm] at HSm
  by_cases hfe:1+wL L≤3000
  ·obtain ⟨hok,hl3⟩:=asok_of_few hfe Hty.out
   have hn1:n≤1000000:=by rw[←Hln.out];omega
   have hThw:=HTh.out hwee
   have hRew:=HRe.out hok hn1
   have hEvw:=fun w u0 u1 u2 u3 u4 u5 u6 hA hL hF hT=>HEv.out L hok n hn1 t0 hwee w A c xs u0 u1 u2 u3 u4 u5 u6 hA hL hF hT
   rw[decide_eq_true hfe] at HFe
   have HThw:=hide hThw
   have HRew:=hide hRew
   have HEvw:=hide hEvw
   clear hfe hok hl3 hn1 hThw hRew hEvw HTh HRe HEv hsm Hln Hty hwee
   go_enter Tryz.func5,Tryz.ntmps5
   go_wp2_with (go_at_call 7;fail)
   rw[Hw1.out]
   refine (HAw.out _ HT.out).mono ?_
   rintro e w2 ⟨rfl,hb⟩
   have HX2:=hide (HX.out.below HX.out.lt hb)
   have HT2:=hide (HT.out.below hb)
   have HF2:=hide (HF.out.grow hb)
   have HA2:=hide ((HA.out.below hb).upto hb.size)
   have HL2:=hide (HL.out.grow hb)
   have HB2:=hide (HB.out.trans (hb.mono HB.out.size))
   clear hb HX HT HF HA HL HB
   try clear c0 c1 c2 c3 c4 c5 c6
   obtain⟨_,c0,c1,c2,c3,c4,c5,c6⟩:=HX2.out
   go_wp2_with (go_at_call 8;fail)
   refine (HSm.out _ HF2.out).mono ?_
   rintro e w3 ⟨rfl,hb⟩
   have HX3:=hide (HX2.out.below HX2.out.lt hb)
   have HT3:=hide (HT2.out.below hb)
   have HF3:=hide (HF2.out.grow hb)
   have HA3:=hide ((HA2.out.below hb).upto hb.size)
   have HL3:=hide (HL2.out.grow hb)
   have HB3:=hide (HB2.out.trans (hb.mono HB2.out.size))
   clear hb HX2 HT2 HF2 HA2 HL2 HB2
   try clear c0 c1 c2 c3 c4 c5 c6
   obtain⟨_,c0,c1,c2,c3,c4,c5,c6⟩:=HX3.out
   go_wp2_with (go_at_call 20;fail)
   refine (HFe.out _ HA3.out HL3.out).mono ?_
   rintro e w4 ⟨rfl,hb⟩
   have HX4:=hide (HX3.out.below HX3.out.lt hb)
   have HT4:=hide (HT3.out.below hb)
   have HF4:=hide (HF3.out.grow hb)
   have HA4:=hide ((HA3.out.below hb).upto hb.size)
   have HL4:=hide (HL3.out.grow hb)
   have HB4:=hide (HB3.out.trans (hb.mono HB3.out.size))
   clear hb HX3 HT3 HF3 HA3 HL3 HB3
   try clear c0 c1 c2 c3 c4 c5 c6
   obtain⟨_,c0,c1,c2,c3,c4,c5,c6⟩:=HX4.out
   go_wp2_with fail
   refine grow_begin (by kernel_rfl) ?_
   have hb:Below w4.heap.size w4 w4.drew:=(Below.refl _ _).drew
   have HXQ:=hide (HX4.out.below HX4.out.lt hb)
   have HTQ:=hide (HT4.out.below hb)
   have HFQ:=hide (HF4.out.grow hb)
   have HAQ:=hide ((HA4.out.below hb).upto hb.size)
   have HLQ:=hide (HL4.out.grow hb)
   have HBQ:=hide (HB4.out.trans (hb.mono HB4.out.size))
   clear hb HX4 HT4 HF4 HA4 HL4 HB4
   clear c0 c1 c2 c3 c4 c5 c6
   have HXe:=HXQ
   have HTe:=HTQ
   have HFe_:=HFQ
   have HAe:=HAQ
   have HLe:=HLQ
   have HBe:=HBQ
   clear HXQ HTQ HFQ HAQ HLQ HBQ
   generalize w4.drew=wd at *
   refine grow_take 0 (some 18) (v:=?vr0) rfl rfl (by kernel_rfl) (by kernel_rfl) (by kernel_rfl) (fun _ _ _ h=>h) (by rfl) (fun W hW=>?yr0) ?_
   case yr0=>
    obtain⟨_,d0,d1,d2,d3,d4,d5,d6⟩:=HXe.out.below HXe.out.lt hW
    go_simp<;>with_reducible rfl
   simp only[Act.put,List.setIfInBounds_toArray,List.set_cons_zero,List.set_cons_succ]
   refine grow_take 2 (some 20) (v:=?vr2) rfl rfl (by kernel_rfl) (by kernel_rfl) (by kernel_rfl) (fun _ _ _ h=>h) (by rfl) (fun W hW=>?yr2) ?_
   case yr2=>
    go_simp<;>with_reducible rfl
   simp only[Act.put,List.setIfInBounds_toArray,List.set_cons_zero,List.set_cons_succ]
   refine grow_take 4 (some 22) (v:=?vr4) rfl rfl (by kernel_rfl) (by kernel_rfl) (by kernel_rfl) (fun _ _ _ h=>h) (by rfl) (fun W hW=>?yr4) ?_
   case yr4=>
    obtain⟨_,d0,d1,d2,d3,d4,d5,d6⟩:=HXe.out.below HXe.out.lt hW
    go_simp<;>with_reducible rfl
   simp only[Act.put,List.setIfInBounds_toArray,List.set_cons_zero,List.set_cons_succ]
   refine grow_take 5 (some 23) (v:=?vr5) rfl rfl (by kernel_rfl) (by kernel_rfl) (by kernel_rfl) (fun _ _ _ h=>h) (by rfl) (fun W hW=>?yr5) ?_
   case yr5=>
    go_simp<;>with_reducible rfl
   simp only[Act.put,List.setIfInBounds_toArray,List.set_cons_zero,List.set_cons_succ]
   refine grow_only 1 rfl (by kernel_rfl) (fun K hK=>?_)
   go_simp
   refine (HThw.out _ HFe_.out).mono ?_
   rintro e wp1 hpost
   obtain⟨y0,y1,y2,y3,y4,y5,y6,rfl,hy,hb⟩:=hpost.out
   have HY:=hide (hy.fin (B:=wp1.heap.size) (fun b hb=>hb.2))
   clear hy hpost
   refine hK.out _ _ hb ?_
   clear hK K
   have HXe1:=hide (HXe.out.below HXe.out.lt hb)
   have HTe1:=hide (HTe.out.below hb)
   have HFe_1:=hide (HFe_.out.grow hb)
   have HAe1:=hide ((HAe.out.below hb).upto hb.size)
   have HLe1:=hide (HLe.out.grow hb)
   have HBe1:=hide (HBe.out.trans (hb.mono HBe.out.size))
   clear HXe HTe HFe_ HAe HLe HBe
   try simp only[Act.put,List.setIfInBounds_toArray,List.set_cons_zero,List.set_cons_succ]
   refine grow_only 3 rfl (by kernel_rfl) (fun K hK=>?_)
   go_simp
   refine (HEvw.out _ y0 y1 y2 y3 y4 y5 y6 HAe1.out HLe1.out HY.out HTe1.out.tm).mono ?_
   rintro e wp13 ⟨rfl,hb⟩
   refine hK.out _ _ hb ?_
   clear hK K HY
   have HXe13:=hide (HXe1.out.below HXe1.out.lt hb)
   have HTe13:=hide (HTe1.out.below hb)
   have HFe_13:=hide (HFe_1.out.grow hb)
   have HAe13:=hide ((HAe1.out.below hb).upto hb.size)
   have HLe13:=hide (HLe1.out.grow hb)
   have HBe13:=hide (HBe1.out.trans (hb.mono HBe1.out.size))
   clear HXe1 HTe1 HFe_1 HAe1 HLe1 HBe1
   try simp only[Act.put,List.setIfInBounds_toArray,List.set_cons_zero,List.set_cons_succ]
   refine grow_only 6 rfl (by kernel_rfl) (fun K hK=>?_)
   go_simp
   refine (HRew.out _ HAe13.out HLe13.out HFe_13.out HTe13.out.tm).mono ?_
   rintro e wp136 ⟨rfl,hb⟩
   refine hK.out _ _ hb ?_
   clear hK K
   have HXe136:=hide (HXe13.out.below HXe13.out.lt hb)
   have HTe136:=hide (HTe13.out.below hb)
   have HFe_136:=hide (HFe_13.out.grow hb)
   have HAe136:=hide ((HAe13.out.below hb).upto hb.size)
   have HLe136:=hide (HLe13.out.grow hb)
   have HBe136:=hide (HBe13.out.trans (hb.mono HBe13.out.size))
   clear HXe13 HTe13 HFe_13 HAe13 HLe13 HBe13
   try simp only[Act.put,List.setIfInBounds_toArray,List.set_cons_zero,List.set_cons_succ]
   refine grow_take 7 (some 25) (v:=?vr7) rfl rfl (by kernel_rfl) (by kernel_rfl) (by kernel_rfl) (fun _ _ _ h=>h) (by rfl) (fun W hW=>?yr7) ?_
   case yr7=>
    go_simp<;>with_reducible rfl
   simp only[Act.put,List.setIfInBounds_toArray,List.set_cons_zero,List.set_cons_succ]
   refine grow_take 8 (some 4) (v:=?vr8) rfl rfl (by kernel_rfl) (by kernel_rfl) (by kernel_rfl) (fun _ _ _ h=>h) (by rfl) (fun W hW=>?yr8) ?_
   case yr8=>
    go_simp<;>with_reducible rfl
   simp only[Act.put,List.setIfInBounds_toArray,List.set_cons_zero,List.set_cons_succ]
   refine grow_done (by kernel_rfl) ?_ _
   go_wp2
   go_ret
   exact⟨by simp,HBe136.out⟩
  ·rw [decide_eq_false hfe] at HFe
   clear hsm HTh HRe HEv Hln Hty hfe hwee
   go_enter Tryz.func5,Tryz.ntmps5
   go_wp2_with (go_at_call 7;fail)
   rw[Hw1.out]
   refine (HAw.out _ HT.out).mono ?_
   rintro e w2 ⟨rfl,hb⟩
   have HX2:=hide (HX.out.below HX.out.lt hb)
   have HT2:=hide (HT.out.below hb)
   have HF2:=hide (HF.out.grow hb)
   have HA2:=hide ((HA.out.below hb).upto hb.size)
   have HL2:=hide (HL.out.grow hb)
   have HB2:=hide (HB.out.trans (hb.mono HB.out.size))
   clear hb HX HT HF HA HL HB
   try clear c0 c1 c2 c3 c4 c5 c6
   obtain⟨_,c0,c1,c2,c3,c4,c5,c6⟩:=HX2.out
   go_wp2_with (go_at_call 8;fail)
   refine (HSm.out _ HF2.out).mono ?_
   rintro e w3 ⟨rfl,hb⟩
   have HX3:=hide (HX2.out.below HX2.out.lt hb)
   have HT3:=hide (HT2.out.below hb)
   have HF3:=hide (HF2.out.grow hb)
   have HA3:=hide ((HA2.out.below hb).upto hb.size)
   have HL3:=hide (HL2.out.grow hb)
   have HB3:=hide (HB2.out.trans (hb.mono HB2.out.size))
   clear hb HX2 HT2 HF2 HA2 HL2 HB2
   try clear c0 c1 c2 c3 c4 c5 c6
   obtain⟨_,c0,c1,c2,c3,c4,c5,c6⟩:=HX3.out
   go_wp2_with (go_at_call 20;fail)
   refine (HFe.out _ HA3.out HL3.out).mono ?_
   rintro e w4 ⟨rfl,hb⟩
   have HX4:=hide (HX3.out.below HX3.out.lt hb)
   have HT4:=hide (HT3.out.below hb)
   have HF4:=hide (HF3.out.grow hb)
   have HA4:=hide ((HA3.out.below hb).upto hb.size)
   have HL4:=hide (HL3.out.grow hb)
   have HB4:=hide (HB3.out.trans (hb.mono HB3.out.size))
   clear hb HX3 HT3 HF3 HA3 HL3 HB3
   try clear c0 c1 c2 c3 c4 c5 c6
   obtain⟨_,c0,c1,c2,c3,c4,c5,c6⟩:=HX4.out
   go_wp2_with (go_at_call 7;fail)
   refine (HAw.out _ HT4.out).mono ?_
   rintro e w9 ⟨rfl,hb⟩
   have hB:=HB4.out.trans (hb.mono HB4.out.size)
   clear hb
   go_wp2
   go_ret
   exact⟨rfl,hB⟩
theorem evals_law (t:FT) (L:List At2) (w:World) (A:Option Addr) (n c:Nat) (xs:List Value) (u0 u1 u2 u3 u4 u5 u6:Value) (hF:FIn w w.heap.size t [u0,u1,u2,u3,u4,u5,u6]) (hA:Has w w.heap.size 2 A n xs) (hL:AsIn w w.heap.size xs L) (hT:FM w)
  (hn:n≤maxLen) (hbd:wL L≤1000000000) (hty:∀a∈L,a.1.length≤281474976710656):
  Calls Tryz.prog 5 #[.agg #[u0,u1,u2,u3,u4,u5,u6],.slice A n c] w fun e w'=>e=.returned (.bool true)∧Below w.heap.size w w':=
 jevals_of (fun w hT=>jawake_any w hT) (fun L hok n hn t _ w A c xs u0 u1 u2 u3 u4 u5 u6 hA hL hF hT=>jEval_any L hok n hn t w A c xs u0 u1 u2 u3 u4 u5 u6 hA hL hF hT) t L w A n c xs u0 u1 u2 u3 u4 u5 u6 hF hA hL hT hn hbd hty
end Go.Proofs.YtaolhefllfnmiaaGreatDoor
