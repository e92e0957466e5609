/- Several texts in one: JFits, JSimple, JEval. By an AI agent. -/
import Derived.Test.YtaolhefllfnmiaaGreatDoorJX
import Derived.Test.YtaolhefllfnmiaaGreatDoorHZ
set_option maxRecDepth 100000
set_option maxHeartbeats 64000000
namespace Go.Proofs.YtaolhefllfnmiaaGreatDoor
open Go.RowKit
set_option linter.unusedVariables false
noncomputable def fitsV (k:Int) (a v f l:List UInt8) (any:List (List UInt8)) (ty:Int) (x:List UInt8):Bool:=
 if k=7 then true
 else if (valV a x).2≠0 then false
 else if k=4 then piecesV f l any (valV a x).1 (ty==1)
 else if k=5 then decide (0≤cmpV a x v)
 else if k=6 then decide (cmpV a x v≤0)
 else if k=8∧ty≠5 then nearV a x v
 else (valV a x).1==(valV a v).1
noncomputable def appV (k:Int) (a v:List UInt8) (ty:Int):Bool:=
 if ty=0 then false
 else if k=7 then true
 else if k=4 then (ty==1||ty==2)
 else if (k=5∨k=6)∧(ty=2∨ty=5) then false
 else (valV a v).2==0
theorem val_norm {a x:List UInt8} (h:(typ a).2≠5):valV a x=norm a x:=by unfold valV;rw[if_pos h]
theorem jfits2_any (k:Int) (a v f l:List UInt8) (any:List (List UInt8)) (ps:List FT) (x:List UInt8) (ty:Int) (hty:(typ a).2=ty) (h4:k=4→ty≠5) (ha:a.length≤3000) (hv:v.length≤3000) (hfl:f.length≤1000) (hll:l.length≤1000) (hal:∀x∈any,x.length≤1000) (hx:x.length≤1000000)
  (w:World) (u0 u1 u2 u3 u4 u5 u6:Value) (hF:FIn w w.heap.size (.mk k a v f l any ps) [u0,u1,u2,u3,u4,u5,u6]) (hT:TM w):
  Calls Tryz.prog 72 #[.agg #[u0,u1,u2,u3,u4,u5,u6],.int .i64 ty,.string (txt x)] w fun e w'=>e=.returned (.bool (fitsV k a v f l any ty x))∧Below w.heap.size w w':=by
 have hF0:=hF
 simp only[FIn] at hF
 obtain⟨A,c,D,dd,xs,hcs,⟨hml,hnl⟩,hA,hD,hP⟩:=hF
 cases hcs
 unfold maxLen at hml hnl
 obtain⟨m,hm⟩:∃m,any.length=m:=⟨_,rfl⟩
 obtain⟨np,hnp⟩:∃np,ps.length=np:=⟨_,rfl⟩
 have hml1:(m:Int)≤9223372036854775807:=by omega
 have hnl1:(np:Int)≤9223372036854775807:=by omega
 have hX:=Box7.new w k (txt a) (txt v) (txt f) (txt l) A any.length c D ps.length dd 33
 have hb0:=below1 w (.cells #[.int .i64 k,.string (txt a),.string (txt v),.string (txt f),.string (txt l),.slice A any.length c,.slice D ps.length dd] 33)
 obtain⟨w1,hw1⟩:∃w1,(w.alloc (.cells #[.int .i64 k,.string (txt a),.string (txt v),.string (txt f),.string (txt l),.slice A any.length c,.slice D ps.length dd] 33))=w1:=⟨_,rfl⟩
 rw[hw1] at hX hb0
 have hF1:=hF0.grow hb0
 have hA1:=(hA.below hb0).upto hb0.size
 rw[hm,hnp] at hX hw1 hF1 ⊢
 rw[hm] at hA1
 have Hw1:=hide hw1
 have hT1:=hT.below hb0
 have hVx:=fun w hT=>pvalue_big a x (by omega) hx w hT
 have hVv:=fun w hT=>pvalue_big a v (by omega) (by omega) w hT
 obtain⟨x1,y1,f1,hnear⟩:=nearV_is a x v
 obtain⟨x2,y2,f2,hcmp⟩:=cmpV_is a x v
 have hNe:=fun w hT hM=>rnear_any (txt a) (txt x) (txt v) (by rw[txt_size];omega) (by rw[txt_size];omega) x1 y1 (nearV a x v) f1 (by simp only[txt_toList];exact hnear) w hT hM
 have hCo:=fun w hT=>rcmp_any (txt a) (txt x) (txt v) (by rw[txt_size];omega) (by rw[txt_size];omega) x2 y2 (cmpV a x v) f2 (by simp only[txt_toList];exact hcmp) w hT
 have hPi:=fun (hk:k=4) w hF hT=>jfollow_any k a v f l any ps (valV a x).1 ty (by rw[val_norm (by rw[hty];exact h4 hk)];have:=norm_len a x;omega) hfl hll hal w (.int .i64 k) (.string (txt a)) (.string (txt v)) (.string (txt f)) (.string (txt l)) (.slice A m c) (.slice D np dd) hF hT
 obtain⟨R,hR⟩:∃R,fitsV k a v f l any ty x=R:=⟨_,rfl⟩
 rw[hR]
 obtain⟨e1,he1⟩:∃e1,(valV a x).2=e1:=⟨_,rfl⟩
 obtain⟨e2,he2⟩:∃e2,(valV a v).2=e2:=⟨_,rfl⟩
 obtain⟨vb,hvb⟩:∃vb,((valV a x).1==(valV a v).1)=vb:=⟨_,rfl⟩
 obtain⟨nv,hnv⟩:∃nv,nearV a x v=nv:=⟨_,rfl⟩
 obtain⟨cv,hcv⟩:∃cv,cmpV a x v=cv:=⟨_,rfl⟩
 obtain⟨pv,hpv⟩:∃pv,piecesV f l any (valV a x).1 (ty==1)=pv:=⟨_,rfl⟩
 have hRd:R=if k=7 then true else if e1≠0 then false else if k=4 then pv else if k=5 then decide (0≤cv) else if k=6 then decide (cv≤0) else if k=8∧ty≠5 then nv else vb:=by
  rw[←hR,fitsV,he1,hpv,hcv,hnv,hvb]
 have hseq:((txt (valV a x).1).toList==(txt (valV a v).1).toList)=vb:=by rw[txt_bytes,txt_bytes];exact hvb
 rw[he1] at hVx
 rw[he2] at hVv
 rw[hnv] at hNe
 rw[hcv] at hCo
 rw[hpv] at hPi
 generalize txt (valV a x).1=sx at *
 generalize txt (valV a v).1=sw at *
 have HVx:=hide hVx
 have HVv:=hide hVv
 have HNe:=hide hNe
 have HCo:=hide hCo
 have HPi:=hide hPi
 have HXw1:=hide hX
 have HBw1:=hide hb0
 have HTw1:=hide hT1
 have HFw1:=hide hF1
 have Hse:=hide hseq
 obtain⟨_,c0,c1,c2,c3,c4,c5,c6⟩:=hX
 clear hVx hVv hNe hCo hPi hseq hnear hcmp hF0 hF1 hA1 hA hD hP hm hnp hw1 hml hnl hR hT hT1 hb0 he1 he2 hvb hnv hcv hpv hty h4 ha hv hfl hll hal hx
 generalize txt a=sa at *
 generalize txt v=sv at *
 generalize txt f=sf at *
 generalize txt l=sl at *
 generalize txt x=sy at *
 by_cases k7:k=7
 ·have hr:=hide hRd
  rw[if_pos k7] at hr
  subst k7
  clear hRd HVx HVv HNe HCo HPi Hse HFw1
  go_enter Tryz.func72,Tryz.ntmps72
  go_upto_region 1 with fail
  rw[Hw1.out]
  clear Hw1
  go_wp2
  go_ret
  exact⟨by rw[hr.out];try rfl,HBw1.out⟩
 have z7:(k==7)=false:=beq_false_of_ne k7
 rw[if_neg k7] at hRd
 by_cases q1:e1≠0
 ·have z1:(e1==0)=false:=beq_false_of_ne q1
  have z1':(e1 !=0)=true:=by unfold bne;rw[z1];rfl
  rw[if_pos q1] at hRd
  have hr:=hide hRd
  clear hRd HVv HNe HCo HPi Hse HFw1 k7 q1
  go_enter Tryz.func72,Tryz.ntmps72
  go_upto_region 1 with fail
  rw[Hw1.out]
  clear Hw1
  go_wp2_with (go_at_call 95;fail)
  refine (HVx.out _ HTw1.out).mono ?_
  rintro e w2 ⟨rfl,hbn⟩
  have HXw2:=hide (HXw1.out.below HXw1.out.lt hbn)
  have HBw2:=hide (HBw1.out.trans (hbn.mono HBw1.out.size))
  have HTw2:=hide (HTw1.out.below hbn)
  clear hbn c0 c1 c2 c3 c4 c5 c6
  obtain⟨_,c0,c1,c2,c3,c4,c5,c6⟩:=HXw2.out
  go_wp2
  go_ret
  exact⟨by rw[hr.out];try rfl,HBw2.out⟩
 replace q1:=Decidable.not_not.1 q1
 have z1:(e1==0)=true:=by rw[q1];rfl
 have z1':(e1 !=0)=false:=by unfold bne;rw[z1];rfl
 rw[if_neg (by simp[q1])] at hRd
 by_cases k4:k=4
 ·rw [if_pos k4] at hRd
  have hr:=hide hRd
  have HPj:=hide (HPi.out k4)
  subst k4
  clear hRd HVv HNe HCo HPi Hse k7 q1
  go_enter Tryz.func72,Tryz.ntmps72
  go_upto_region 1 with fail
  rw[Hw1.out]
  clear Hw1
  go_wp2_with (go_at_call 95;fail)
  refine (HVx.out _ HTw1.out).mono ?_
  rintro e w2 ⟨rfl,hbn⟩
  have HXw2:=hide (HXw1.out.below HXw1.out.lt hbn)
  have HBw2:=hide (HBw1.out.trans (hbn.mono HBw1.out.size))
  have HTw2:=hide (HTw1.out.below hbn)
  have HFw2:=hide (HFw1.out.grow hbn)
  clear hbn c0 c1 c2 c3 c4 c5 c6
  obtain⟨_,c0,c1,c2,c3,c4,c5,c6⟩:=HXw2.out
  go_wp2_with (go_at_call 96;fail)
  refine (HPj.out _ HFw2.out HTw2.out).mono ?_
  rintro e w3 ⟨rfl,hbn⟩
  have HXw3:=hide (HXw2.out.below HXw2.out.lt hbn)
  have HBw3:=hide (HBw2.out.trans (hbn.mono HBw2.out.size))
  have HTw3:=hide (HTw2.out.below hbn)
  clear hbn c0 c1 c2 c3 c4 c5 c6
  obtain⟨_,c0,c1,c2,c3,c4,c5,c6⟩:=HXw3.out
  go_wp2
  go_ret
  exact⟨by rw[hr.out];try rfl,HBw3.out⟩
 have z4:(k==4)=false:=beq_false_of_ne k4
 rw[if_neg k4] at hRd
 clear HPi HFw1
 by_cases k5:k=5
 ·rw [if_pos k5] at hRd
  have hr:=hide hRd
  subst k5
  clear hRd HVv HNe Hse k7 k4 q1
  go_enter Tryz.func72,Tryz.ntmps72
  go_upto_region 1 with fail
  rw[Hw1.out]
  clear Hw1
  go_wp2_with (go_at_call 95;fail)
  refine (HVx.out _ HTw1.out).mono ?_
  rintro e w2 ⟨rfl,hbn⟩
  have HXw2:=hide (HXw1.out.below HXw1.out.lt hbn)
  have HBw2:=hide (HBw1.out.trans (hbn.mono HBw1.out.size))
  have HTw2:=hide (HTw1.out.below hbn)
  clear hbn c0 c1 c2 c3 c4 c5 c6
  obtain⟨_,c0,c1,c2,c3,c4,c5,c6⟩:=HXw2.out
  go_wp2_with (go_at_call 97;fail)
  refine (HCo.out _ HTw2.out.tt).mono ?_
  rintro e w3 ⟨rfl,hbn⟩
  have HXw3:=hide (HXw2.out.below HXw2.out.lt hbn)
  have HBw3:=hide (HBw2.out.trans (hbn.mono HBw2.out.size))
  have HTw3:=hide (HTw2.out.below hbn)
  clear hbn c0 c1 c2 c3 c4 c5 c6
  obtain⟨_,c0,c1,c2,c3,c4,c5,c6⟩:=HXw3.out
  by_cases q:(0:Int)≤cv
  ·rw [decide_eq_true q] at hr
   go_wp2
   go_ret
   exact⟨by rw[hr.out];try rfl,HBw3.out⟩
  ·rw [decide_eq_false q] at hr
   have q2:=decide_eq_false q
   go_wp2
   go_ret
   exact⟨by rw[hr.out];try rfl,HBw3.out⟩
 have z5:(k==5)=false:=beq_false_of_ne k5
 rw[if_neg k5] at hRd
 by_cases k6:k=6
 ·rw [if_pos k6] at hRd
  have hr:=hide hRd
  subst k6
  clear hRd HVv HNe Hse k7 k4 k5 q1
  go_enter Tryz.func72,Tryz.ntmps72
  go_upto_region 1 with fail
  rw[Hw1.out]
  clear Hw1
  go_wp2_with (go_at_call 95;fail)
  refine (HVx.out _ HTw1.out).mono ?_
  rintro e w2 ⟨rfl,hbn⟩
  have HXw2:=hide (HXw1.out.below HXw1.out.lt hbn)
  have HBw2:=hide (HBw1.out.trans (hbn.mono HBw1.out.size))
  have HTw2:=hide (HTw1.out.below hbn)
  clear hbn c0 c1 c2 c3 c4 c5 c6
  obtain⟨_,c0,c1,c2,c3,c4,c5,c6⟩:=HXw2.out
  go_wp2_with (go_at_call 97;fail)
  refine (HCo.out _ HTw2.out.tt).mono ?_
  rintro e w3 ⟨rfl,hbn⟩
  have HXw3:=hide (HXw2.out.below HXw2.out.lt hbn)
  have HBw3:=hide (HBw2.out.trans (hbn.mono HBw2.out.size))
  have HTw3:=hide (HTw2.out.below hbn)
  clear hbn c0 c1 c2 c3 c4 c5 c6
  obtain⟨_,c0,c1,c2,c3,c4,c5,c6⟩:=HXw3.out
  by_cases q:cv≤(0:Int)
  ·rw [decide_eq_true q] at hr
   go_wp2
   go_ret
   exact⟨by rw[hr.out];try rfl,HBw3.out⟩
  ·rw [decide_eq_false q] at hr
   have q2:=decide_eq_false q
   go_wp2
   go_ret
   exact⟨by rw[hr.out];try rfl,HBw3.out⟩
 have z6:(k==6)=false:=beq_false_of_ne k6
 rw[if_neg k6] at hRd
 clear HCo
 by_cases k8:k=8
 ·by_cases t5:ty=5
  ·rw [if_neg (by simp[t5])] at hRd
   have z9:(ty==5)=true:=by rw[t5];rfl
   have z9':(ty !=5)=false:=by unfold bne;rw[z9];rfl
   have hr:=hide hRd
   subst k8
   clear hRd HNe k7 k4 k5 k6 q1 t5
   go_enter Tryz.func72,Tryz.ntmps72
   go_upto_region 1 with fail
   rw[Hw1.out]
   clear Hw1
   go_wp2_with (go_at_call 95;fail)
   refine (HVx.out _ HTw1.out).mono ?_
   rintro e w2 ⟨rfl,hbn⟩
   have HXw2:=hide (HXw1.out.below HXw1.out.lt hbn)
   have HBw2:=hide (HBw1.out.trans (hbn.mono HBw1.out.size))
   have HTw2:=hide (HTw1.out.below hbn)
   clear hbn c0 c1 c2 c3 c4 c5 c6
   obtain⟨_,c0,c1,c2,c3,c4,c5,c6⟩:=HXw2.out
   go_wp2_with (go_at_call 95;fail)
   refine (HVv.out _ HTw2.out).mono ?_
   rintro e w3 ⟨rfl,hbn⟩
   have HXw3:=hide (HXw2.out.below HXw2.out.lt hbn)
   have HBw3:=hide (HBw2.out.trans (hbn.mono HBw2.out.size))
   have HTw3:=hide (HTw2.out.below hbn)
   clear hbn c0 c1 c2 c3 c4 c5 c6
   obtain⟨_,c0,c1,c2,c3,c4,c5,c6⟩:=HXw3.out
   have hse:=Hse.out
   cases vb
   ·go_wp2
    go_ret
    exact⟨by rw[hr.out];try rfl,HBw3.out⟩
   ·go_wp2
    go_ret
    exact⟨by rw[hr.out];try rfl,HBw3.out⟩
  ·rw [if_pos ⟨k8,t5⟩] at hRd
   have z9:(ty==5)=false:=beq_false_of_ne t5
   have z9':(ty !=5)=true:=by unfold bne;rw[z9];rfl
   have hr:=hide hRd
   subst k8
   clear hRd HVv Hse k7 k4 k5 k6 q1 t5
   go_enter Tryz.func72,Tryz.ntmps72
   go_upto_region 1 with fail
   rw[Hw1.out]
   clear Hw1
   go_wp2_with (go_at_call 95;fail)
   refine (HVx.out _ HTw1.out).mono ?_
   rintro e w2 ⟨rfl,hbn⟩
   have HXw2:=hide (HXw1.out.below HXw1.out.lt hbn)
   have HBw2:=hide (HBw1.out.trans (hbn.mono HBw1.out.size))
   have HTw2:=hide (HTw1.out.below hbn)
   clear hbn c0 c1 c2 c3 c4 c5 c6
   obtain⟨_,c0,c1,c2,c3,c4,c5,c6⟩:=HXw2.out
   go_wp2_with (go_at_call 98;fail)
   refine (HNe.out _ HTw2.out.tt HTw2.out.mx).mono ?_
   rintro e w3 ⟨rfl,hbn⟩
   have HXw3:=hide (HXw2.out.below HXw2.out.lt hbn)
   have HBw3:=hide (HBw2.out.trans (hbn.mono HBw2.out.size))
   have HTw3:=hide (HTw2.out.below hbn)
   clear hbn c0 c1 c2 c3 c4 c5 c6
   obtain⟨_,c0,c1,c2,c3,c4,c5,c6⟩:=HXw3.out
   go_wp2
   go_ret
   exact⟨by rw[hr.out];try rfl,HBw3.out⟩
 have z8:(k==8)=false:=beq_false_of_ne k8
 rw[if_neg (fun h=>k8 h.1)] at hRd
 have hr:=hide hRd
 clear hRd HNe k7 k4 k5 k6 k8 q1
 go_enter Tryz.func72,Tryz.ntmps72
 go_upto_region 1 with fail
 rw[Hw1.out]
 clear Hw1
 go_wp2_with (go_at_call 95;fail)
 refine (HVx.out _ HTw1.out).mono ?_
 rintro e w2 ⟨rfl,hbn⟩
 have HXw2:=hide (HXw1.out.below HXw1.out.lt hbn)
 have HBw2:=hide (HBw1.out.trans (hbn.mono HBw1.out.size))
 have HTw2:=hide (HTw1.out.below hbn)
 clear hbn c0 c1 c2 c3 c4 c5 c6
 obtain⟨_,c0,c1,c2,c3,c4,c5,c6⟩:=HXw2.out
 go_wp2_with (go_at_call 95;fail)
 refine (HVv.out _ HTw2.out).mono ?_
 rintro e w3 ⟨rfl,hbn⟩
 have HXw3:=hide (HXw2.out.below HXw2.out.lt hbn)
 have HBw3:=hide (HBw2.out.trans (hbn.mono HBw2.out.size))
 have HTw3:=hide (HTw2.out.below hbn)
 clear hbn c0 c1 c2 c3 c4 c5 c6
 obtain⟨_,c0,c1,c2,c3,c4,c5,c6⟩:=HXw3.out
 have hse:=Hse.out
 cases vb
 ·go_wp2
  go_ret
  exact⟨by rw[hr.out];try rfl,HBw3.out⟩
 ·go_wp2
  go_ret
  exact⟨by rw[hr.out];try rfl,HBw3.out⟩
theorem japplies_any (k:Int) (a v f l:List UInt8) (any:List (List UInt8)) (ps:List FT) (ty:Int) (ha:a.length≤3000) (hv:v.length≤3000)
  (w:World) (u0 u1 u2 u3 u4 u5 u6:Value) (hF:FIn w w.heap.size (.mk k a v f l any ps) [u0,u1,u2,u3,u4,u5,u6]) (hT:TM w):
  Calls Tryz.prog 70 #[.agg #[u0,u1,u2,u3,u4,u5,u6],.int .i64 ty] w fun e w'=>e=.returned (.bool (appV k a v ty))∧Below w.heap.size w w':=by
 have hF0:=hF
 simp only[FIn] at hF
 obtain⟨A,c,D,dd,xs,hcs,⟨hml,hnl⟩,hA,hD,hP⟩:=hF
 cases hcs
 unfold maxLen at hml hnl
 obtain⟨m,hm⟩:∃m,any.length=m:=⟨_,rfl⟩
 obtain⟨np,hnp⟩:∃np,ps.length=np:=⟨_,rfl⟩
 have hml1:(m:Int)≤9223372036854775807:=by omega
 have hnl1:(np:Int)≤9223372036854775807:=by omega
 have hX:=Box7.new w k (txt a) (txt v) (txt f) (txt l) A any.length c D ps.length dd 33
 have hb0:=below1 w (.cells #[.int .i64 k,.string (txt a),.string (txt v),.string (txt f),.string (txt l),.slice A any.length c,.slice D ps.length dd] 33)
 obtain⟨w1,hw1⟩:∃w1,(w.alloc (.cells #[.int .i64 k,.string (txt a),.string (txt v),.string (txt f),.string (txt l),.slice A any.length c,.slice D ps.length dd] 33))=w1:=⟨_,rfl⟩
 rw[hw1] at hX hb0
 have hF1:=hF0.grow hb0
 have hA1:=(hA.below hb0).upto hb0.size
 rw[hm,hnp] at hX hw1 hF1 ⊢
 rw[hm] at hA1
 have Hw1:=hide hw1
 have hT1:=hT.below hb0
 have hVv:=fun w hT=>pvalue_big a v (by omega) (by omega) w hT
 obtain⟨R,hR⟩:∃R,appV k a v ty=R:=⟨_,rfl⟩
 rw[hR]
 obtain⟨e2,he2⟩:∃e2,(valV a v).2=e2:=⟨_,rfl⟩
 have hRd:R=if ty=0 then false else if k=7 then true else if k=4 then (ty==1||ty==2) else if (k=5∨k=6)∧(ty=2∨ty=5) then false else (e2==0):=by
  rw[←hR,appV,he2]
 rw[he2] at hVv
 generalize txt (valV a v).1=sw at *
 have HVv:=hide hVv
 have HXw1:=hide hX
 have HBw1:=hide hb0
 have HTw1:=hide hT1
 obtain⟨_,c0,c1,c2,c3,c4,c5,c6⟩:=hX
 clear hVv hF0 hF1 hA1 hA hD hP hm hnp hw1 hml hnl hR hT hT1 hb0 he2 ha hv
 generalize txt a=sa at *
 generalize txt v=sv at *
 generalize txt f=sf at *
 generalize txt l=sl at *
 by_cases t0:ty=0
 ·rw [if_pos t0] at hRd
  have hr:=hide hRd
  subst t0
  clear hRd HVv
  go_enter Tryz.func70,Tryz.ntmps70
  go_upto_region 1 with fail
  rw[Hw1.out]
  clear Hw1
  go_wp2
  go_ret
  exact⟨by rw[hr.out];try rfl,HBw1.out⟩
 have y0:(ty==0)=false:=beq_false_of_ne t0
 rw[if_neg t0] at hRd
 by_cases k7:k=7
 ·rw [if_pos k7] at hRd
  have hr:=hide hRd
  subst k7
  clear hRd HVv t0
  go_enter Tryz.func70,Tryz.ntmps70
  go_upto_region 1 with fail
  rw[Hw1.out]
  clear Hw1
  go_wp2
  go_ret
  exact⟨by rw[hr.out];try rfl,HBw1.out⟩
 have z7:(k==7)=false:=beq_false_of_ne k7
 rw[if_neg k7] at hRd
 by_cases k4:k=4
 ·rw [if_pos k4] at hRd
  obtain⟨b1,hb1⟩:∃b,(ty==1)=b:=⟨_,rfl⟩
  obtain⟨b2,hb2⟩:∃b,(ty==2)=b:=⟨_,rfl⟩
  rw[hb1,hb2] at hRd
  have hr:=hide hRd
  subst k4
  clear hRd HVv t0 k7
  go_enter Tryz.func70,Tryz.ntmps70
  go_upto_region 1 with fail
  rw[Hw1.out]
  clear Hw1
  cases b1<;>cases b2<;>(go_wp2;go_ret;exact⟨by rw[hr.out];rfl,HBw1.out⟩)
 have z4:(k==4)=false:=beq_false_of_ne k4
 rw[if_neg k4] at hRd
 have last:∀(hr:Hid (R=(e2==0))),e2==0→True:=fun _ _=>trivial
 by_cases k56:k=5∨k=6
 ·by_cases t25:ty=2∨ty=5
  ·rw [if_pos ⟨k56,t25⟩] at hRd
   have hr:=hide hRd
   clear hRd HVv t0 k7 k4 last
   rcases k56 with rfl | rfl<;>rcases t25 with rfl | rfl
   ·go_enter Tryz.func70,Tryz.ntmps70
    go_upto_region 1 with fail
    rw[Hw1.out]
    clear Hw1
    go_wp2
    go_ret
    exact⟨by rw[hr.out];try rfl,HBw1.out⟩
   ·go_enter Tryz.func70,Tryz.ntmps70
    go_upto_region 1 with fail
    rw[Hw1.out]
    clear Hw1
    go_wp2
    go_ret
    exact⟨by rw[hr.out];try rfl,HBw1.out⟩
   ·go_enter Tryz.func70,Tryz.ntmps70
    go_upto_region 1 with fail
    rw[Hw1.out]
    clear Hw1
    go_wp2
    go_ret
    exact⟨by rw[hr.out];try rfl,HBw1.out⟩
   ·go_enter Tryz.func70,Tryz.ntmps70
    go_upto_region 1 with fail
    rw[Hw1.out]
    clear Hw1
    go_wp2
    go_ret
    exact⟨by rw[hr.out];try rfl,HBw1.out⟩
  ·rw [if_neg (fun h=>t25 h.2)] at hRd
   have y2:(ty==2)=false:=beq_false_of_ne (fun h=>t25 (.inl h))
   have y5:(ty==5)=false:=beq_false_of_ne (fun h=>t25 (.inr h))
   obtain⟨eb,heb⟩:∃b,(e2==0)=b:=⟨_,rfl⟩
   rw[heb] at hRd
   have hr:=hide hRd
   clear hRd t0 k7 k4 last t25
   rcases k56 with rfl | rfl
   ·go_enter Tryz.func70,Tryz.ntmps70
    go_upto_region 1 with fail
    rw[Hw1.out]
    clear Hw1
    go_wp2_with (go_at_call 95;fail)
    refine (HVv.out _ HTw1.out).mono ?_
    rintro e w2 ⟨rfl,hbn⟩
    have HXw2:=hide (HXw1.out.below HXw1.out.lt hbn)
    have HBw2:=hide (HBw1.out.trans (hbn.mono HBw1.out.size))
    have HTw2:=hide (HTw1.out.below hbn)
    clear hbn c0 c1 c2 c3 c4 c5 c6
    obtain⟨_,c0,c1,c2,c3,c4,c5,c6⟩:=HXw2.out
    cases eb<;>(go_wp2;go_ret;exact⟨by rw[hr.out];try rfl,HBw2.out⟩)
   ·go_enter Tryz.func70,Tryz.ntmps70
    go_upto_region 1 with fail
    rw[Hw1.out]
    clear Hw1
    go_wp2_with (go_at_call 95;fail)
    refine (HVv.out _ HTw1.out).mono ?_
    rintro e w2 ⟨rfl,hbn⟩
    have HXw2:=hide (HXw1.out.below HXw1.out.lt hbn)
    have HBw2:=hide (HBw1.out.trans (hbn.mono HBw1.out.size))
    have HTw2:=hide (HTw1.out.below hbn)
    clear hbn c0 c1 c2 c3 c4 c5 c6
    obtain⟨_,c0,c1,c2,c3,c4,c5,c6⟩:=HXw2.out
    cases eb<;>(go_wp2;go_ret;exact⟨by rw[hr.out];try rfl,HBw2.out⟩)
 ·rw [if_neg (fun h=>k56 h.1)] at hRd
  have z5:(k==5)=false:=beq_false_of_ne (fun h=>k56 (.inl h))
  have z6:(k==6)=false:=beq_false_of_ne (fun h=>k56 (.inr h))
  obtain⟨eb,heb⟩:∃b,(e2==0)=b:=⟨_,rfl⟩
  rw[heb] at hRd
  have hr:=hide hRd
  clear hRd t0 k7 k4 last k56
  go_enter Tryz.func70,Tryz.ntmps70
  go_upto_region 1 with fail
  rw[Hw1.out]
  clear Hw1
  go_wp2_with (go_at_call 95;fail)
  refine (HVv.out _ HTw1.out).mono ?_
  rintro e w2 ⟨rfl,hbn⟩
  have HXw2:=hide (HXw1.out.below HXw1.out.lt hbn)
  have HBw2:=hide (HBw1.out.trans (hbn.mono HBw1.out.size))
  have HTw2:=hide (HTw1.out.below hbn)
  clear hbn c0 c1 c2 c3 c4 c5 c6
  obtain⟨_,c0,c1,c2,c3,c4,c5,c6⟩:=HXw2.out
  cases eb<;>(go_wp2;go_ret;exact⟨by rw[hr.out];try rfl,HBw2.out⟩)
end Go.Proofs.YtaolhefllfnmiaaGreatDoor
namespace Go.Proofs.YtaolhefllfnmiaaGreatDoor
open Go.RowKit
set_option linter.unusedVariables false
theorem cell_in {w:World} {p:Addr} {v:Value} (h:w.cell? p=some v):p.block<w.heap.size:=by
 rcases Nat.lt_or_ge p.block w.heap.size with hlt | hge
 ·exact hlt
 ·exfalso
  have hn:w.heap[p.block]?=none:=Array.getElem?_eq_none hge
  simp[World.cell?,hn] at h
theorem any_flat (p:List UInt8→Bool) (name:List UInt8):∀L:List At2,(valsV L name).any p=L.any (fun at_=>decide ((typ at_.1).1=(typ name).1)&&at_.2.any p)
 | []=>rfl
 | b::r=>by
  have h:=any_flat p name r
  unfold valsV at h ⊢
  simp only[List.flatMap_cons,List.any_append,List.any_cons,h]
  by_cases e:(typ b.1).1=(typ name).1
  ·rw [if_pos e,decide_eq_true e];rfl
  ·rw [if_neg e,decide_eq_false e];rfl
theorem fits_match {k:Int} {a v f l x:List UInt8} {any:List (List UInt8)} (hk:k=3∨k=5∨k=6∨k=8) (hc:¬((k=5∨k=6)∧((typ a).2=2∨(typ a).2=5))):fitsV k a v f l any (typ a).2 x=matchV k a v x:=by
 unfold fitsV matchV
 rw[if_neg (by omega)]
 by_cases he:(valV a x).2≠0
 ·rw [if_pos he,if_pos he]
 ·rw [if_neg he,if_neg he,if_neg (by omega)]
  rcases hk with rfl | rfl | rfl | rfl
  ·rw [if_neg (by omega),if_neg (by omega),if_neg (by omega),if_pos (.inl rfl)]
  ·have ht:(typ a).2≠5:=fun h=>hc ⟨.inl rfl,.inr h⟩
   rw[if_pos rfl,if_neg (by simp[ht]),if_neg (by omega)]
   simp
  ·have ht:(typ a).2≠5:=fun h=>hc ⟨.inr rfl,.inr h⟩
   rw[if_neg (by omega),if_pos rfl,if_neg (by simp[ht]),if_neg (by omega)]
   simp
  ·rw [if_neg (by omega),if_neg (by omega)]
   by_cases ht:(typ a).2=5
   ·rw [if_neg (by simp[ht]),if_pos (.inr ht)]
   ·rw [if_pos ⟨rfl,ht⟩,if_neg (by simp[ht]),if_pos rfl]
theorem one_is (L:List At2) {k:Int} {a v f l:List UInt8} {any:List (List UInt8)} (hk:k=3∨k=4∨k=5∨k=6∨k=7∨k=8):
  oneV L k a v f l any=if appV k a v (typ a).2 then (if L.any (fun at_=>decide ((typ at_.1).1=(typ a).1)&&at_.2.any (fitsV k a v f l any (typ a).2)) then 1 else 0) else -1:=by
 rw[←any_flat]
 unfold oneV appV
 by_cases t0:(typ a).2=0
 ·rw [if_pos t0,if_pos t0];rfl
 rw[if_neg t0,if_neg t0]
 by_cases k7:k=7
 ·rw [if_pos k7,if_pos k7,if_pos rfl]
  have hp:∀VS:List (List UInt8),VS.any (fitsV k a v f l any (typ a).2)=decide (0<VS.length):=by
   intro VS
   cases VS with
   | nil=>rfl
   | cons x r=>simp[fitsV,k7]
  rw[hp]
  by_cases h:0<(valsV L a).length
  ·rw [if_pos h,decide_eq_true h];rfl
  ·rw [if_neg h,decide_eq_false h];rfl
 rw[if_neg k7,if_neg k7]
 by_cases k4:k=4
 ·rw [if_pos k4,if_pos k4]
  have hr:=typ_range a
  by_cases h2:2<(typ a).2
  ·have h3:((typ a).2==1||(typ a).2==2)=false:=by
    rw[beq_false_of_ne (by omega),beq_false_of_ne (by omega)];rfl
   rw[if_pos h2,h3];rfl
  ·have h3:((typ a).2==1||(typ a).2==2)=true:=by
    by_cases h:(typ a).2=1
    ·rw [h];rfl
    ·have:(typ a).2=2:=by omega
     rw[this];rfl
   rw[if_neg h2,h3,if_pos rfl]
   have hp:∀x,fitsV k a v f l any (typ a).2 x=pieceV a f l any (typ a).2 x:=by
    intro x
    unfold fitsV pieceV
    rw[if_neg k7,val_norm (by omega)]
    by_cases he:(norm a x).2=0
    ·rw [if_neg (by simp[he]),if_pos k4,he];simp
    ·rw [if_pos he,beq_false_of_ne he];rfl
   rw[show fitsV k a v f l any (typ a).2=pieceV a f l any (typ a).2 from funext hp]
 rw[if_neg k4,if_neg k4]
 have hk2:k=3∨k=5∨k=6∨k=8:=by omega
 by_cases hc:(k=5∨k=6)∧((typ a).2=2∨(typ a).2=5)
 ·rw [if_pos (.inr hc),if_pos hc];rfl
 ·rw [if_neg hc]
  by_cases he:(valV a v).2=0
  ·rw [if_neg (by simp[he,hc]),he]
   rw[show fitsV k a v f l any (typ a).2=matchV k a v from funext fun x=>fits_match hk2 hc]
   rfl
  ·rw [if_pos (.inl he),beq_false_of_ne he];rfl
theorem jclos_any (k:Int) (a v f l:List UInt8) (any:List (List UInt8)) (ps:List FT) (x:List UInt8) (ty:Int) (hty:(typ a).2=ty) (h4:k=4→ty≠5) (ha:a.length≤3000) (hv:v.length≤3000) (hfl:f.length≤1000) (hll:l.length≤1000) (hal:∀x∈any,x.length≤1000) (hx:x.length≤1000000)
  (w:World) (b b6:Nat) (A D:Option Addr) (m c n d:Nat) (hX:Box7 w b k (txt a) (txt v) (txt f) (txt l) A m c D n d) (h6:w.cell? ⟨b6,0,none⟩=some (.int .i64 ty))
  (hF:FIn w w.heap.size (.mk k a v f l any ps) [.int .i64 k,.string (txt a),.string (txt v),.string (txt f),.string (txt l),.slice A m c,.slice D n d]) (hT:TM w):
  Calls Tryz.prog 71 #[.string (txt x),.pointer (some ⟨b,0,none⟩),.pointer (some ⟨b6,0,none⟩)] w fun e w'=>e=.returned (.bool (fitsV k a v f l any ty x))∧Below w.heap.size w w':=by
 have hcall:=jfits2_any k a v f l any ps x ty hty h4 ha hv hfl hll hal hx w _ _ _ _ _ _ _ hF hT
 obtain⟨R,hR⟩:∃R,fitsV k a v f l any ty x=R:=⟨_,rfl⟩
 rw[hR] at hcall ⊢
 clear hR hty h4 ha hv hfl hll hal hx hF hT
 obtain⟨_,c0,c1,c2,c3,c4,c5,c6⟩:=hX
 generalize txt a=sa at *
 generalize txt v=sv at *
 generalize txt f=sf at *
 generalize txt l=sl at *
 generalize txt x=sx at *
 go_enter Tryz.func71,Tryz.ntmps71
 go_wp2_with (go_at_call 72;fail)
 refine hcall.mono ?_
 rintro e w2 ⟨rfl,hb⟩
 clear hcall c0 c1 c2 c3 c4 c5 c6 h6
 go_wp2
 go_ret
 exact⟨rfl,hb⟩
theorem jsimple_any (k:Int) (a v f l:List UInt8) (any:List (List UInt8)) (ps:List FT) (hk:k=3∨k=4∨k=5∨k=6∨k=7∨k=8) (ha:a.length≤3000) (hv:v.length≤3000) (hfl:f.length≤1000) (hll:l.length≤1000) (hal:∀x∈any,x.length≤1000)
  (L:List At2) (hok:AsOk L) (w:World) (A:Option Addr) (n c:Nat) (xs:List Value) (hA:Has w w.heap.size 2 A n xs) (hL:AsIn w w.heap.size xs L) (hn:n≤1000000)
  (u0 u1 u2 u3 u4 u5 u6:Value) (hF:FIn w w.heap.size (.mk k a v f l any ps) [u0,u1,u2,u3,u4,u5,u6]) (hT:TM w):
  Calls Tryz.prog 50 #[.agg #[u0,u1,u2,u3,u4,u5,u6],.slice A n c] w fun e w'=>e=.returned (.int .i64 (oneV L k a v f l any))∧Below w.heap.size w w':=by
 have hln:L.length=n:=by have h1:=hA.1;have h2:=hL.len;omega
 have hF0:=hF
 simp only[FIn] at hF
 obtain⟨Aa,ca,D,dd,ys,hcs,⟨hml,_⟩,_⟩:=hF
 cases hcs
 obtain⟨m,hm⟩:∃m,any.length=m:=⟨_,rfl⟩
 obtain⟨np,hnp⟩:∃np,ps.length=np:=⟨_,rfl⟩
 have hX:=Box7.new w k (txt a) (txt v) (txt f) (txt l) Aa any.length ca D ps.length dd 33
 have hb0:=below1 w (.cells #[.int .i64 k,.string (txt a),.string (txt v),.string (txt f),.string (txt l),.slice Aa any.length ca,.slice D ps.length dd] 33)
 obtain⟨w1,hw1⟩:∃w1,(w.alloc (.cells #[.int .i64 k,.string (txt a),.string (txt v),.string (txt f),.string (txt l),.slice Aa any.length ca,.slice D ps.length dd] 33))=w1:=⟨_,rfl⟩
 rw[hw1] at hX hb0
 have hT1:=hT.below hb0
 have hF1:=hF0.grow hb0
 rw[hm,hnp] at hX hw1 hF1 ⊢
 obtain⟨R,hR⟩:∃R,oneV L k a v f l any=R:=⟨_,rfl⟩
 have hRd:=hR
 rw[one_is L hk] at hRd
 rw[hR]
 have hTy:=fun w hT=>type_any (txt a) w hT
 simp only[txt_toList] at hTy
 have hTa:=fun (b:At2) w hT=>type_any (txt b.1) w hT
 simp only[txt_toList] at hTa
 obtain⟨ty,hty⟩:∃ty,(typ a).2=ty:=⟨_,rfl⟩
 have hap:=fun w hF hT=>japplies_any k a v f l any ps ty ha hv w (.int .i64 k) (.string (txt a)) (.string (txt v)) (.string (txt f)) (.string (txt l)) (.slice Aa m ca) (.slice D np dd) hF hT
 obtain⟨ap,hapv⟩:∃ap,appV k a v ty=ap:=⟨_,rfl⟩
 have h4:ap=true→k=4→ty≠5:=fun h hk4 h5=>by
  rw[←hapv] at h
  unfold appV at h
  rw[if_neg (by omega),if_neg (by omega),if_pos hk4,h5] at h
  revert h;decide
 have hcl:=fun (h:ap=true) (x:List UInt8) (hx:x.length≤1000000) w b b6 hX h6 hF hT=>jclos_any k a v f l any ps x ty hty (h4 h) ha hv hfl hll hal hx w b b6 Aa D m ca np dd hX h6 hF hT
 obtain⟨tn,htn⟩:∃tn,txt (typ a).1=tn:=⟨_,rfl⟩
 have hse:∀b:At2,((txt (typ b.1).1).toList==tn.toList)=decide ((typ b.1).1=(typ a).1):=fun b=>by
  rw[←htn]
  by_cases h:(typ b.1).1=(typ a).1
  ·rw [decide_eq_true h];exact str_eq h
  ·rw [decide_eq_false h];exact str_ne h
 rw[hty,htn] at hTy
 rw[hapv] at hap
 rw[hty,hapv] at hRd
 obtain⟨p,hpd⟩:∃p:List UInt8→Bool,fitsV k a v f l any ty=p:=⟨_,rfl⟩
 rw[hpd] at hRd
 have hcl2:=hcl
 have hpe:∀x,fitsV k a v f l any ty x=p x:=fun x=>by rw[hpd]
 simp only[hpe] at hcl2
 have HRd:=hide hRd
 have HTy:=hide hTy
 have HTa:=hide hTa
 have HAp:=hide hap
 have HCl:=hide hcl2
 have Hse:=hide hse
 have HXw1:=hide hX
 have HBw1:=hide hb0
 have HTw1:=hide hT1
 have HFw1:=hide hF1
 have HA:=hide hA
 have HL:=hide hL
 have Hln:=hide hln
 have Hok:=hide hok
 have hni:(n:Int)≤1000000:=by omega
 have Hw1:=hide hw1
 obtain⟨_,c0,c1,c2,c3,c4,c5,c6⟩:=hX
 clear hTy hTa hap hcl hcl2 hse hb0 hT1 hF1 hA hL hln hR hRd hm hnp hty hapv h4 htn hpe hpd hF0 hT hok hn hfl hll hal ha hv hw1 hk hml
 generalize txt a=sa at *
 generalize txt v=sv at *
 generalize txt f=sf at *
 generalize txt l=sl at *
 go_enter Tryz.func50,Tryz.ntmps50
 go_upto_region 1 with fail
 rw[Hw1.out]
 clear Hw1
 go_wp2_with (go_at_call 69;fail)
 refine (HTy.out _ HTw1.out.tt.types).mono ?_
 rintro e w2 ⟨rfl,hbn⟩
 have HXw2:=hide (HXw1.out.below HXw1.out.lt hbn)
 have HBw2:=hide (HBw1.out.trans (hbn.mono HBw1.out.size))
 have HTw2:=hide (HTw1.out.below hbn)
 have HFw2:=hide (HFw1.out.grow hbn)
 clear hbn c0 c1 c2 c3 c4 c5 c6
 obtain⟨_,c0,c1,c2,c3,c4,c5,c6⟩:=HXw2.out
 go_upto_region 2 with fail
 obtain⟨w3,hw3⟩:∃w3,w2.alloc (.cells #[.int .i64 ty] 3)=w3:=⟨_,rfl⟩
 have hbn:=below1 w2 (.cells #[.int .i64 ty] 3)
 have h6:(w2.alloc (.cells #[.int .i64 ty] 3)).cell? ⟨w2.heap.size,0,none⟩=some (.int .i64 ty):=by rw[World.cell?_alloc_at (hn:=by simp)];rfl
 rw[hw3] at hbn h6 ⊢
 obtain⟨b6,hb6⟩:∃b6,w2.heap.size=b6:=⟨_,rfl⟩
 have hlt6:w2.heap.size<w3.heap.size:=by rw[←hw3];simp
 have HXw3:=hide (HXw2.out.below HXw2.out.lt hbn)
 have HBw3:=hide (HBw2.out.trans (hbn.mono HBw2.out.size))
 have HTw3:=hide (HTw2.out.below hbn)
 have HFw3:=hide (HFw2.out.grow hbn)
 rw[hb6] at h6 hlt6 ⊢
 have H6:=hide h6
 have Hlt6:=hide hlt6
 clear hw3 hbn hb6 hlt6 c0 c1 c2 c3 c4 c5 c6
 obtain⟨_,c0,c1,c2,c3,c4,c5,c6⟩:=HXw3.out
 go_wp2_with (go_at_call 70;fail)
 refine (HAp.out _ HFw3.out HTw3.out).mono ?_
 rintro e w4 ⟨rfl,hbn⟩
 have HXw4:=hide (HXw3.out.below HXw3.out.lt hbn)
 have HBw4:=hide (HBw3.out.trans (hbn.mono HBw3.out.size))
 have HTw4:=hide (HTw3.out.below hbn)
 have HFw4:=hide (HFw3.out.grow hbn)
 have H6w4:=hide ((hbn.cell (p:=⟨b6,0,none⟩) Hlt6.out).trans H6.out)
 clear H6 h6
 clear hbn c0 c1 c2 c3 c4 c5 c6
 obtain⟨_,c0,c1,c2,c3,c4,c5,c6⟩:=HXw4.out
 cases ap with
 | false=>
  have hr:Hid (R= -1):=hide HRd.out.symm
  clear HRd HTa HCl Hse HA HL Hln Hok
  go_wp2
  go_ret
  exact⟨by rw[hr.out];try rfl,HBw4.out⟩
 | true=>
  rw[if_pos rfl] at HRd
  have HCc:=hide (HCl.out rfl)
  clear HCl HAp HTy
  go_wp2
  go_loopg [25] n (fun r s25 wx=>∃j:Nat,j+r=n∧s25=.int .i64 (j:Int)∧Hid (∀b∈L.take j,(decide ((typ b.1).1=(typ a).1)&&b.2.any p)=false)∧Hid (Below w4.heap.size w4 wx))
  case atStart=>exact⟨0,by omega,rfl,hide (fun b hb=>by simp at hb),hide (Below.refl _ _)⟩
  case round=>
   obtain⟨j,hjg,rfl,hpre,hbr⟩:=hrel
   clear c0 c1 c2 c3 c4 c5 c6
   have HBwr:=hide (HBw4.out.trans (hbr.out.mono HBw4.out.size))
   cases gk with
   | zero=>
    obtain rfl:j=n:=by omega
    have hjz:¬((j:Int)<(j:Int)):=by omega
    have hr:Hid (R=0):=hide (by
     have h1:=hpre.out
     rw[List.take_of_length_le (by rw[Hln.out];exact Nat.le_refl _)] at h1
     have h2:L.any (fun at_=>decide ((typ at_.1).1=(typ a).1)&&at_.2.any p)=false:=by
      rw[List.any_eq_false]
      exact fun b hb=>by rw[h1 b hb];exact Bool.false_ne_true
     rw[←HRd.out,h2];rfl)
    clear HRd HTa HCc Hse HA HL Hln Hok hpre
    go_wp2
    go_ret
    exact⟨by rw[hr.out];try rfl,HBwr.out⟩
   | succ r=>
    have hj:j<n:=by omega
    have hjz:(j:Int)<(n:Int):=by omega
    have HXwr:=hide (HXw4.out.below HXw4.out.lt hbr.out)
    have HTwr:=hide (HTw4.out.below hbr.out)
    have HFwr:=hide (HFw4.out.grow hbr.out)
    have H6wr:=hide ((hbr.out.cell (p:=⟨b6,0,none⟩) (cell_in H6w4.out)).trans H6w4.out)
    obtain⟨b,hb⟩:∃b,L[j]?=some b:=⟨_,List.getElem?_eq_getElem (by rw[Hln.out];exact hj)⟩
    obtain⟨g,o,hAe,hg,hat⟩:=HA.out.attr HL.out (fun h=>by rw[h] at hb;simp at hb)
    subst hAe
    obtain⟨V,cV,x0,x1,hV⟩:=hat j b hb
    replace x0:=(HBwr.out.cell (p:=⟨g,o+j*2,none⟩) hg).trans x0
    replace x1:=(HBwr.out.cell (p:=⟨g,o+j*2+1,none⟩) hg).trans x1
    have hvl:∀x∈b.2,x.length≤1000000:=fun x hx=>Hok.out.val b (List.mem_of_getElem? hb) x hx
    have hvn:b.2.length≤900000:=by
     have h1:=mem_flat_le hb
     have h2:=Hok.out.tot
     omega
    have hmem:=List.mem_of_getElem? hb
    have hyes:(decide ((typ b.1).1=(typ a).1)&&b.2.any p)=true→Hid (R=1):=fun h=>hide (by
     have:L.any (fun at_=>decide ((typ at_.1).1=(typ a).1)&&at_.2.any p)=true:=by rw[List.any_eq_true];exact⟨b,hmem,h⟩
     rw[←HRd.out,this];rfl)
    have hno:(decide ((typ b.1).1=(typ a).1)&&b.2.any p)=false→Hid (∀b∈L.take (j+1),(decide ((typ b.1).1=(typ a).1)&&b.2.any p)=false):=fun h=>hide (fun y hy=>by
     rw[List.take_add_one,hb] at hy
     simp only[Option.toList_some,List.mem_append,List.mem_singleton] at hy
     rcases hy with hy | rfl
     ·exact hpre.out y hy
     ·exact h)
    have hTb:=fun w hT=>HTa.out b w hT
    have hsb:=Hse.out b
    obtain⟨nb,hnb⟩:∃nb,decide ((typ b.1).1=(typ a).1)=nb:=⟨_,rfl⟩
    obtain⟨tb,htb⟩:∃tb,txt (typ b.1).1=tb:=⟨_,rfl⟩
    obtain⟨yb,hyb⟩:∃yb,(typ b.1).2=yb:=⟨_,rfl⟩
    rw[hnb,htb] at hsb
    rw[htb,hyb] at hTb
    rw[hnb] at hyes hno
    obtain⟨sb,hsbn⟩:∃sb,txt b.1=sb:=⟨_,rfl⟩
    rw[hsbn] at hTb x0
    obtain⟨nV,hnV⟩:∃nV,b.2.length=nV:=⟨_,rfl⟩
    have HV:=hide (hV.below HBwr.out)
    rw[hnV] at HV x1 hvn
    have HTb:=hide hTb
    have HYes:=hide hyes
    have HNo:=hide hno
    have Hvl:=hide hvl
    have HBR:=hbr
    clear hTb hyes hno hvl hV hat hb hpre HRd HTa Hse HA HL Hln Hok hnb htb hyb hsbn hnV hbr hmem
    have hbn:=below1 wr (.cells #[.string sb,.slice V nV cV] 51)
    have q0:(wr.alloc (.cells #[.string sb,.slice V nV cV] 51)).cell? ⟨wr.heap.size,0,none⟩=some (.string sb):=by rw[World.cell?_alloc_at (hn:=by simp)];rfl
    have q1:(wr.alloc (.cells #[.string sb,.slice V nV cV] 51)).cell? ⟨wr.heap.size,1,none⟩=some (.slice V nV cV):=by rw[World.cell?_alloc_at (hn:=by simp)];rfl
    obtain⟨wp,hwp⟩:∃wp,wr.alloc (.cells #[.string sb,.slice V nV cV] 51)=wp:=⟨_,rfl⟩
    have hltp:wr.heap.size<wp.heap.size:=by rw[←hwp];simp
    rw[hwp] at hbn q0 q1
    have Hwp:=hide hwp
    have HXwp:=hide (HXwr.out.below HXwr.out.lt hbn)
    have HBwp:=hide (HBwr.out.trans (hbn.mono HBwr.out.size))
    have HTwp:=hide (HTwr.out.below hbn)
    have HFwp:=hide (HFwr.out.grow hbn)
    have H6wp:=hide ((hbn.cell (p:=⟨b6,0,none⟩) (cell_in H6wr.out)).trans H6wr.out)
    have HVwp:=hide (HV.out.below (hbn.mono HBwr.out.size))
    have HBRp:=hide (HBR.out.trans (hbn.mono HBR.out.size))
    have Hbp:=hide HBwr.out.size
    clear hwp hbn HV HXwr HBwr HTwr HFwr H6wr HBR
    go_upto_region 8 with fail
    rw[Hwp.out]
    clear Hwp x0 x1
    obtain⟨bp,hbp⟩:∃bp,wr.heap.size=bp:=⟨_,rfl⟩
    rw[hbp] at q0 q1 hltp ⊢
    clear hbp
    go_wp2_with (go_at_call 69;fail)
    refine (HTb.out _ HTwp.out.tt.types).mono ?_
    rintro e w5 ⟨rfl,hbn⟩
    have q5:=(hbn.cell (p:=⟨bp,1,none⟩) hltp).trans q1
    have HXw5:=hide (HXwp.out.below HXwp.out.lt hbn)
    have HBw5:=hide (HBwp.out.trans (hbn.mono HBwp.out.size))
    have HTw5:=hide (HTwp.out.below hbn)
    have HFw5:=hide (HFwp.out.grow hbn)
    have H6w5:=hide ((hbn.cell (p:=⟨b6,0,none⟩) (cell_in H6wp.out)).trans H6wp.out)
    have HVw5:=hide (HVwp.out.below (hbn.mono HBwp.out.size))
    have HBR5:=hide (HBRp.out.trans (hbn.mono HBRp.out.size))
    clear hbn q0 q1 HXwp HBwp HTwp HFwp H6wp HVwp HBRp
    cases nb with
    | false=>
     have hst:=HNo.out rfl
     clear HYes HNo HCc Hvl HVw5
     go_wp2
     go_roundg r
     case measure=>omega
     case rel=>exact⟨j+1,by omega,by go_num,hst,HBR5⟩
    | true=>
     have hcont:=jcontains_any 71 #[.pointer (some ⟨w.heap.size,0,none⟩),.pointer (some ⟨b6,0,none⟩)] (fun _ _=>rfl) p b.2 w5 w.heap.size HBw5.out.size V nV cV HVw5.out (by omega) (fun W x hx hb=>by
      have h:=HCc.out x (Hvl.out x hx) W w.heap.size b6 (HXw5.out.below HXw5.out.lt hb) ((hb.cell (p:=⟨b6,0,none⟩) (cell_in H6w5.out)).trans H6w5.out) (HFw5.out.grow hb) (HTw5.out.below hb)
      exact h)
     obtain⟨pb,hpb⟩:∃pb,b.2.any p=pb:=⟨_,rfl⟩
     rw[hpb] at hcont HYes HNo
     clear hpb HCc Hvl HVw5
     go_wp2_with (go_at_call 73;fail)
     refine hcont.mono ?_
     rintro e w6 ⟨rfl,hbn⟩
     have HBw6:=hide (HBw5.out.trans (hbn.mono HBw5.out.size))
     have HBR6:=hide (HBR5.out.trans (hbn.mono HBR5.out.size))
     clear hcont hbn q5
     cases pb with
     | true=>
      have hr:=HYes.out rfl
      clear HYes HNo
      go_wp2
      go_ret
      exact⟨by rw[hr.out];try rfl,HBw6.out⟩
     | false=>
      have hst:=HNo.out rfl
      clear HYes HNo
      go_wp2
      go_roundg r
      case measure=>omega
      case rel=>exact⟨j+1,by omega,by go_num,hst,HBR6⟩
end Go.Proofs.YtaolhefllfnmiaaGreatDoor
namespace Go.Proofs.YtaolhefllfnmiaaGreatDoor
open Go.RowKit
set_option linter.unusedVariables false
def oppV (x:Int):Int:=if x=1 then 0 else if x=0 then 1 else -1
theorem jopp_any (x:Int) (w:World):Calls Tryz.prog 49 #[.int .i64 x] w fun e w'=>e=.returned (.int .i64 (oppV x))∧w'=w:=by
 by_cases h1:x=1
 ·subst h1
  go_enter Tryz.func49,Tryz.ntmps49
  go_wp2
  go_ret
  exact⟨rfl,rfl⟩
 by_cases h0:x=0
 ·subst h0
  go_enter Tryz.func49,Tryz.ntmps49
  go_wp2
  go_ret
  exact⟨rfl,rfl⟩
 have z1:(x==1)=false:=beq_false_of_ne h1
 have z0:(x==0)=false:=beq_false_of_ne h0
 have hR:oppV x= -1:=by unfold oppV;rw[if_neg h1,if_neg h0]
 rw[hR]
 clear hR h0 h1
 go_enter Tryz.func49,Tryz.ntmps49
 go_wp2
 go_ret
 exact⟨rfl,rfl⟩
theorem jparts_any (L:List At2) (n:Nat) (k:Int) (hk:k=0∨k=1) (ps:List FT) (ih:∀p∈ps,∀(w:World) (A:Option Addr) (c:Nat) (xs:List Value) (u0 u1 u2 u3 u4 u5 u6:Value),Has w w.heap.size 2 A n xs→AsIn w w.heap.size xs L→FIn w w.heap.size p [u0,u1,u2,u3,u4,u5,u6]→TM w→
   Calls Tryz.prog 35 #[.agg #[u0,u1,u2,u3,u4,u5,u6],.slice A n c] w fun e w'=>e=.returned (.int .i64 (FT.evalT L p))∧Below w.heap.size w w')
  (w:World) (A:Option Addr) (c:Nat) (xs:List Value) (D:Option Addr) (np dd:Nat) (ys:List Value) (hnp:ps.length=np) (hnl:np≤maxLen) (hD:Has w w.heap.size 7 D np ys) (hP:FsIn w w.heap.size ps ys) (hA:Has w w.heap.size 2 A n xs) (hL:AsIn w w.heap.size xs L) (hT:TM w):
  Calls Tryz.prog 48 #[.slice D np dd,.slice A n c,.int .i64 k] w fun e w'=>e=.returned (.int .i64 (combV k (ps.map (FT.evalT L)) 0))∧Below w.heap.size w w':=by
 unfold maxLen at hnl
 have hnl1:(np:Int)≤9223372036854775807:=by omega
 obtain⟨R,hR⟩:∃R,combV k (ps.map (FT.evalT L)) 0=R:=⟨_,rfl⟩
 rw[hR]
 have HRd:=hide hR
 have hop:=fun w=>jopp_any k w
 have hopv:oppV k=1-k:=by rcases hk with rfl | rfl<;>decide
 rw[hopv] at hop
 have hD2:=hD
 rw[←hnp] at hD2
 have HD:=hide hD2
 have HP:=hide hP
 have Hih:=hide ih
 have Hnp:=hide hnp
 have HA:=hide hA
 have HL:=hide hL
 have HT:=hide hT
 have hkr:0≤k∧k≤1:=by omega
 have Hk:=hide hk
 clear hR hopv hD hD2 hP ih hnp hnl hA hL hT hk
 go_enter Tryz.func48,Tryz.ntmps48
 go_wp2_with (go_at_call 49;fail)
 refine (hop _).mono ?_
 rintro e w9 ⟨rfl,hw9⟩
 obtain rfl:=hw9.symm
 clear hop hw9
 go_wp2
 go_loopg [7,14] np (fun r s7 s14 wx=>∃(j:Nat) (q:Int),j+r=np∧s14=.int .i64 (j:Int)∧s7=.int .i64 q∧Hid (q=if ((ps.take j).map (FT.evalT L)).any (fun e=>decide (e<0)) then -1 else 1-k)∧Hid (∀e∈(ps.take j).map (FT.evalT L),e≠k)∧Hid (Below w.heap.size w wx))
 case atStart=>exact⟨0,1-k,by omega,rfl,rfl,hide (by simp),hide (fun e he=>by simp at he),hide (Below.refl _ _)⟩
 case round=>
  obtain⟨j,q,hjg,rfl,rfl,hany,hpre,hbr⟩:=hrel
  have hb2:=hbr.out
  cases gk with
  | zero=>
   obtain rfl:j=np:=by omega
   have hjz:¬((j:Int)<(j:Int)):=by omega
   have hq:Hid (q=R):=hide (by
    have h1:=hany.out
    have h2:=hpre.out
    rw[List.take_of_length_le (by rw[Hnp.out];exact Nat.le_refl _)] at h1 h2
    rw[←HRd.out,comb_end Hk.out h2 _ rfl,h1])
   clear HRd HD HP Hih Hnp HA HL HT hany hpre Hk
   go_wp2
   go_ret
   exact⟨by rw[←hq.out];try rfl,hb2⟩
  | succ r=>
   have hj:j<np:=by omega
   have hjz:(j:Int)<(np:Int):=by omega
   obtain⟨p,hp⟩:∃p,ps[j]?=some p:=⟨_,List.getElem?_eq_getElem (by rw[Hnp.out];exact hj)⟩
   have HD1:=HD.out
   have HP1:=HP.out
   obtain⟨g,o,hDe,hg,hparts⟩:=HD.out.part HP1 (fun h=>by rw[h] at hp;simp at hp)
   subst hDe
   obtain⟨u0,u1,u2,u3,u4,u5,u6,hpart⟩:=hparts j p hp
   obtain⟨pk,pa,pv,pf,pl,pA,pm,pc,pD,pn,pd,rfl,rfl,rfl,rfl,rfl,rfl,rfl⟩:=hpart.fin.shape
   obtain⟨hcp2,_,x0,x1,x2,x3,x4,x5,x6⟩:=hpart.below hb2
   replace hcp2:=hcp2.upto hb2.size
   have hPX:=Box7.new wr pk pa pv pf pl pA pm pc pD pn pd 33
   have hbp:=below1 wr (.cells #[.int .i64 pk,.string pa,.string pv,.string pf,.string pl,.slice pA pm pc,.slice pD pn pd] 33)
   obtain⟨wp,hwp⟩:∃wp,wr.alloc (.cells #[.int .i64 pk,.string pa,.string pv,.string pf,.string pl,.slice pA pm pc,.slice pD pn pd] 33)=wp:=⟨_,rfl⟩
   rw[hwp] at hPX hbp
   have hcp3:=hcp2.grow hbp
   have hb5:=hb2.trans (hbp.mono hb2.size)
   obtain⟨_,p0,p1,p2,p3,p4,p5,p6⟩:=hPX
   have hHA:=(HA.out.below hb5).upto hb5.size
   have hHL:=(HL.out.below hb5).upto hb5.size
   have hHT:=HT.out.below hb5
   have hpm:=List.mem_of_getElem? hp
   have hcall:=Hih.out p hpm wp A c xs _ _ _ _ _ _ _ hHA hHL hcp3 hHT
   have hr:=FT.eval_range L p
   have hem:p.evalT L∈ps.map (FT.evalT L):=List.mem_map.2 ⟨p,hpm,rfl⟩
   have htk:(ps.take (j+1)).map (FT.evalT L)=(ps.take j).map (FT.evalT L)++[p.evalT L]:=by rw[List.take_add_one,hp];simp
   obtain⟨y,hy⟩:∃y,p.evalT L=y:=⟨_,rfl⟩
   rw[hy] at hcall hr hem htk
   have hyes:y=k→Hid (R=k):=fun h=>hide (by rw[←HRd.out,comb_hit Hk.out (by rw[←h];exact hem)])
   have hno:y≠k→Hid (∀e∈(ps.take (j+1)).map (FT.evalT L),e≠k):=fun h=>hide (fun e he=>by
    rw[htk] at he
    simp only[List.mem_append,List.mem_singleton] at he
    rcases he with he | rfl
    ·exact hpre.out e he
    ·exact h)
   have hneg:y= -1→Hid ((-1:Int)=if ((ps.take (j+1)).map (FT.evalT L)).any (fun e=>decide (e<0)) then -1 else 1-k):=fun h=>hide (by
    rw[htk,List.any_append,h];simp)
   have hpos:y≠ -1→Hid (q=if ((ps.take (j+1)).map (FT.evalT L)).any (fun e=>decide (e<0)) then -1 else 1-k):=fun h=>hide (by
    rw[htk,List.any_append,hany.out]
    have:([y].any fun e=>decide (e<0))=false:=by simp;omega
    rw[this,Bool.or_false])
   have HYes:=hide hyes
   have HNo:=hide hno
   have HNeg:=hide hneg
   have HPos:=hide hpos
   have Hwp:=hide hwp
   clear HRd HD HP Hih Hnp HA HL HT hany hpre Hk hp HD1 HP1 hparts hpart hcp2 hcp3 hwp hem htk hy hyes hno hneg hpos hHA hHL hHT hpm
   go_wp2_with (go_at_call 35;fail)
   rw[Hwp.out]
   refine hcall.mono ?_
   rintro e w3 ⟨rfl,hb3⟩
   have hb4:=hide (hb5.trans (hb3.mono hb5.size))
   clear hcall hb3 hbr hb2 hb5 hbp x0 x1 x2 x3 x4 x5 x6 p0 p1 p2 p3 p4 p5 p6
   by_cases q1:y=k
   ·have hq:=HYes.out q1
    have zq:(y==k)=true:=by rw[q1];simp
    clear HYes HNo HNeg HPos q1
    go_wp2
    go_ret
    exact⟨by rw[hq.out];try rfl,hb4.out⟩
   ·have hq:=HNo.out q1
    have zq:(y==k)=false:=beq_false_of_ne q1
    by_cases q2:y= -1
    ·have hq2:=HNeg.out q2
     have zq2:(y== -1)=true:=by rw[q2];rfl
     clear HYes HNo HNeg HPos q1 q2
     go_wp2
     go_roundg r
     case measure=>omega
     case rel=>exact⟨j+1,-1,by omega,by go_num,rfl,hq2,hq,hb4⟩
    ·have hq2:=HPos.out q2
     have zq2:(y== -1)=false:=beq_false_of_ne q2
     clear HYes HNo HNeg HPos q1 q2
     go_wp2
     go_roundg r
     case measure=>omega
     case rel=>exact⟨j+1,q,by omega,by go_num,rfl,hq2,hq,hb4⟩
theorem jeval_any (L:List At2) (hok:AsOk L) (n:Nat) (hn:n≤1000000) (t:FT):t.all=true→∀(w:World) (A:Option Addr) (c:Nat) (xs:List Value) (u0 u1 u2 u3 u4 u5 u6:Value),Has w w.heap.size 2 A n xs→AsIn w w.heap.size xs L→FIn w w.heap.size t [u0,u1,u2,u3,u4,u5,u6]→TM w→
   Calls Tryz.prog 35 #[.agg #[u0,u1,u2,u3,u4,u5,u6],.slice A n c] w fun e w'=>e=.returned (.int .i64 (FT.evalT L t))∧Below w.heap.size w w':=by
 induction t using FT.induct
 rename_i k a v f l any ps ih
 intro hall w A c xs u0 u1 u2 u3 u4 u5 u6 hA hL hF hT
 have hF0:=hF
 simp only[FIn] at hF
 obtain⟨Aa,ca,D,dd,ys,hcs,⟨hml,hnl⟩,_,hD,hP⟩:=hF
 cases hcs
 rw[FT.all_mk,Bool.and_eq_true] at hall
 obtain⟨hbr,hpa⟩:=hall
 have hBi:=FT.bare_is hbr
 have hbn:=FT.bare_not a v f l any ps
 have ih2:=fun p hp=>ih p hp (List.all_eq_true.1 hpa p hp)
 obtain⟨m,hm⟩:∃m,any.length=m:=⟨_,rfl⟩
 obtain⟨np,hnp⟩:∃np,ps.length=np:=⟨_,rfl⟩
 have hX:=Box7.new w k (txt a) (txt v) (txt f) (txt l) Aa any.length ca D ps.length dd 33
 have hb0:=below1 w (.cells #[.int .i64 k,.string (txt a),.string (txt v),.string (txt f),.string (txt l),.slice Aa any.length ca,.slice D ps.length dd] 33)
 obtain⟨w1,hw1⟩:∃w1,(w.alloc (.cells #[.int .i64 k,.string (txt a),.string (txt v),.string (txt f),.string (txt l),.slice Aa any.length ca,.slice D ps.length dd] 33))=w1:=⟨_,rfl⟩
 rw[hw1] at hX hb0
 have hF1:=hF0.grow hb0
 have hT1:=hT.below hb0
 have hA1:=(hA.below hb0).upto hb0.size
 have hL1:=hL.grow hb0
 have hD1:=(hD.below hb0).upto hb0.size
 have hP1:=(hP.below hb0).upto hb0.size
 rw[hm,hnp] at hX hw1 hF1 ⊢
 rw[hnp] at hD1 hnl
 obtain⟨R,hR⟩:∃R,FT.evalT L (.mk k a v f l any ps)=R:=⟨_,rfl⟩
 have hRd:R=combV k (ps.map (FT.evalT L)) (oneV L k a v f l any):=by rw[←hR,FT.evalT,FT.evalL_map]
 rw[hR]
 have hk:=hBi.kind
 have Hw1:=hide hw1
 have HB:=hide hb0
 obtain⟨_,c0,c1,c2,c3,c4,c5,c6⟩:=hX
 by_cases k01:k=0∨k=1
 ·have hcall:=jparts_any L n k k01 ps ih2 w1 A c xs D np dd ys hnp hnl hD1 hP1 hA1 hL1 hT1
  have he:combV k (ps.map (FT.evalT L)) 0=R:=by rw[hRd];unfold combV;rcases k01 with rfl | rfl<;>rfl
  rw[he] at hcall
  clear ih ih2 hbr hpa hBi hbn hm hnp hw1 hF0 hF1 hT hT1 hA hA1 hL hL1 hD hD1 hP hP1 hR hRd he hml hnl hk hb0
  generalize txt a=sa at *
  generalize txt v=sv at *
  generalize txt f=sf at *
  generalize txt l=sl at *
  rcases k01 with rfl | rfl
  ·go_enter Tryz.func35,Tryz.ntmps35
   go_upto_region 1 with fail
   rw[Hw1.out]
   clear Hw1
   go_wp2_with (go_at_call 48;fail)
   refine hcall.mono ?_
   rintro e w2 ⟨rfl,hb2⟩
   have hb3:=HB.out.trans (hb2.mono HB.out.size)
   clear hcall hb2 c0 c1 c2 c3 c4 c5 c6
   go_wp2
   go_ret
   exact⟨rfl,hb3⟩
  ·go_enter Tryz.func35,Tryz.ntmps35
   go_upto_region 1 with fail
   rw[Hw1.out]
   clear Hw1
   go_wp2_with (go_at_call 48;fail)
   refine hcall.mono ?_
   rintro e w2 ⟨rfl,hb2⟩
   have hb3:=HB.out.trans (hb2.mono HB.out.size)
   clear hcall hb2 c0 c1 c2 c3 c4 c5 c6
   go_wp2
   go_ret
   exact⟨rfl,hb3⟩
 have z0:(k==0)=false:=beq_false_of_ne (by omega)
 have z1:(k==1)=false:=beq_false_of_ne (by omega)
 by_cases k2:k=2
 ·subst k2
  have hn1:np=1:=by
   rw[hbn] at hbr
   simp only[Bool.and_eq_true,beq_iff_eq] at hbr
   rw[←hnp];exact hbr.2
  subst hn1
  obtain⟨p,hp⟩:∃p,ps[0]?=some p:=⟨_,List.getElem?_eq_getElem (by rw[hnp];omega)⟩
  have hes:ps.map (FT.evalT L)=[p.evalT L]:=by
   match ps,hnp,hp with
   | [q],_,hp=>simp at hp;subst hp;rfl
  have hpm:=List.mem_of_getElem? hp
  rw[←hnp] at hD1
  obtain⟨g,o,hDe,hg,hparts⟩:=hD1.part hP1 (fun h=>by rw[h] at hp;simp at hp)
  subst hDe
  obtain⟨u0,u1,u2,u3,u4,u5,u6,hpart⟩:=hparts 0 p hp
  rw[Nat.zero_mul,Nat.add_zero] at hpart
  have hcall:=ih2 p hpm w1 A c xs u0 u1 u2 u3 u4 u5 u6 hA1 hL1 hpart.fin hT1
  have hr:=FT.eval_range L p
  rw[hes] at hRd
  obtain⟨y,hy⟩:∃y,p.evalT L=y:=⟨_,rfl⟩
  rw[hy] at hcall hr hRd
  have hRe:R=oppV y:=by
   rw[hRd]
   show (if y<0 then y else 1-y)=oppV y
   unfold oppV
   by_cases h1:y=1
   ·rw [if_pos h1,h1];rfl
   ·by_cases h0:y=0
    ·rw [if_neg h1,if_pos h0,h0];rfl
    ·rw [if_neg h1,if_neg h0,if_pos (by omega)];omega
  have hop:=fun w=>jopp_any y w
  rw[←hRe] at hop
  obtain⟨_,_,x0,x1,x2,x3,x4,x5,x6⟩:=hpart
  clear ih ih2 hbr hpa hBi hbn hm hnp hw1 hF0 hF1 hT hT1 hA hA1 hL hL1 hD hD1 hP hP1 hR hRd hRe hml hnl hk hb0 hparts hp hpm hes hy
  generalize txt a=sa at *
  generalize txt v=sv at *
  generalize txt f=sf at *
  generalize txt l=sl at *
  go_enter Tryz.func35,Tryz.ntmps35
  go_upto_region 1 with fail
  rw[Hw1.out]
  clear Hw1
  go_wp2_with (go_at_call 35;fail)
  refine hcall.mono ?_
  rintro e w2 ⟨rfl,hb2⟩
  have hb3:=HB.out.trans (hb2.mono HB.out.size)
  clear hcall hb2 c0 c1 c2 c3 c4 c5 c6 x0 x1 x2 x3 x4 x5 x6
  go_wp2_with (go_at_call 49;fail)
  refine (hop _).mono ?_
  rintro e w9 ⟨rfl,hw9⟩
  obtain rfl:=hw9.symm
  clear hop hw9
  go_wp2
  go_ret
  exact⟨rfl,hb3⟩
 have z2:(k==2)=false:=beq_false_of_ne k2
 have hk3:k=3∨k=4∨k=5∨k=6∨k=7∨k=8:=by omega
 have hcall:=jsimple_any k a v f l any ps hk3 (by have:=hBi.la;omega) (by have:=hBi.lv;omega) (by have:=hBi.lf;omega) (by have:=hBi.ll;omega) (fun x hx=>by have:=hBi.lx x hx;omega) L hok w1 A n c xs hA1 hL1 hn _ _ _ _ _ _ _ hF1 hT1
 have he:oneV L k a v f l any=R:=by rw[hRd];unfold combV;rw[if_neg k2,if_neg k01]
 rw[he] at hcall
 clear ih ih2 hbr hpa hBi hbn hm hnp hw1 hF0 hF1 hT hT1 hA hA1 hL hL1 hD hD1 hP hP1 hR hRd he hml hnl hk hk3 hb0 k01 k2
 generalize txt a=sa at *
 generalize txt v=sv at *
 generalize txt f=sf at *
 generalize txt l=sl at *
 go_enter Tryz.func35,Tryz.ntmps35
 go_upto_region 1 with fail
 rw[Hw1.out]
 clear Hw1
 go_wp2_with (go_at_call 50;fail)
 refine hcall.mono ?_
 rintro e w2 ⟨rfl,hb2⟩
 have hb3:=HB.out.trans (hb2.mono HB.out.size)
 clear hcall hb2 c0 c1 c2 c3 c4 c5 c6
 go_wp2
 go_ret
 exact⟨rfl,hb3⟩
theorem jEval_any (L:List At2) (hok:AsOk L) (n:Nat) (hn:n≤1000000) (t:FT) (w:World) (A:Option Addr) (c:Nat) (xs:List Value) (u0 u1 u2 u3 u4 u5 u6:Value) (hA:Has w w.heap.size 2 A n xs) (hL:AsIn w w.heap.size xs L) (hF:FIn w w.heap.size t [u0,u1,u2,u3,u4,u5,u6]) (hT:TM w):
  Calls Tryz.prog 21 #[.agg #[u0,u1,u2,u3,u4,u5,u6],.slice A n c] w fun e w'=>e=.returned (.int .i64 (t.evalV L))∧Below w.heap.size w w':=by
 cases t with
 | mk k a v f l any ps=>
 have hF0:=hF
 simp only[FIn] at hF
 obtain⟨Aa,ca,D,dd,ys,hcs,⟨hml,hnl⟩,hAa,hD,hP⟩:=hF
 cases hcs
 unfold maxLen at hml hnl
 obtain⟨m,hm⟩:∃m,any.length=m:=⟨_,rfl⟩
 obtain⟨np,hnp⟩:∃np,ps.length=np:=⟨_,rfl⟩
 have hml1:(m:Int)≤9223372036854775807:=by omega
 have hnl1:(np:Int)≤9223372036854775807:=by omega
 have hX:=Box7.new w k (txt a) (txt v) (txt f) (txt l) Aa any.length ca D ps.length dd 33
 have hb0:=below1 w (.cells #[.int .i64 k,.string (txt a),.string (txt v),.string (txt f),.string (txt l),.slice Aa any.length ca,.slice D ps.length dd] 33)
 obtain⟨w1,hw1⟩:∃w1,(w.alloc (.cells #[.int .i64 k,.string (txt a),.string (txt v),.string (txt f),.string (txt l),.slice Aa any.length ca,.slice D ps.length dd] 33))=w1:=⟨_,rfl⟩
 rw[hw1] at hX hb0
 have hF1:=hF0.grow hb0
 rw[hm,hnp] at hX hw1 hF1 ⊢
 have Hw1:=hide hw1
 have hT1:=hT.below hb0
 have hA1:=(hA.below hb0).upto hb0.size
 have hL1:=hL.grow hb0
 obtain⟨t0,ht0⟩:∃t0,FT.mk k a v f l any ps=t0:=⟨_,rfl⟩
 rw[ht0] at hF1 ⊢
 have hFo:=jFormed_any t0 w1 _ _ _ _ _ _ _ hF1
 have hEv:=fun (h:t0.all=true) w2 hA hL hF hT=>jeval_any L hok n hn t0 h w2 A c xs (.int .i64 k) (.string (txt a)) (.string (txt v)) (.string (txt f)) (.string (txt l)) (.slice Aa m ca) (.slice D np dd) hA hL hF hT
 obtain⟨R,hR⟩:∃R,t0.evalV L=R:=⟨_,rfl⟩
 have hRd:R=if t0.formed then t0.evalT L else -1:=by rw[←hR];rfl
 rw[hR]
 have hal:t0.formed=true→t0.all=true:=fun h=>by
  unfold FT.formed at h
  simp only[Bool.and_eq_true] at h
  exact h.2
 have HXw1:=hide hX
 have HBw1:=hide hb0
 have HTw1:=hide hT1
 have HA:=hide hA1
 have HL:=hide hL1
 have HF:=hide hF1
 obtain⟨_,c0,c1,c2,c3,c4,c5,c6⟩:=hX
 cases hfo:t0.formed with
 | false=>
  rw[hfo,if_neg (by simp)] at hRd
  have hr:=hide hRd
  rw[hfo] at hFo
  clear hF0 hF1 hT hT1 hA hA1 hL hL1 hAa hD hP hR hRd hml hnl hb0 hm hnp hw1 hfo hEv hal ht0
  generalize txt a=sa at *
  generalize txt v=sv at *
  generalize txt f=sf at *
  generalize txt l=sl at *
  go_enter Tryz.func21,Tryz.ntmps21
  go_upto_region 1 with fail
  rw[Hw1.out]
  clear Hw1
  go_wp2_with (go_at_call 12;fail)
  refine hFo.mono ?_
  rintro e w2 ⟨rfl,hbn⟩
  have HXw2:=hide (HXw1.out.below HXw1.out.lt hbn)
  have HBw2:=hide (HBw1.out.trans (hbn.mono HBw1.out.size))
  have HTw2:=hide (HTw1.out.below hbn)
  clear hbn c0 c1 c2 c3 c4 c5 c6
  obtain⟨_,c0,c1,c2,c3,c4,c5,c6⟩:=HXw2.out
  go_wp2
  go_ret
  exact⟨by rw[hr.out];try rfl,HBw2.out⟩
 | true=>
  rw[hfo,if_pos rfl] at hRd
  have hr:=hide hRd
  rw[hfo] at hFo
  have HEv:=hide (hEv (hal hfo))
  clear hF0 hF1 hT hT1 hA hA1 hL hL1 hAa hD hP hR hRd hml hnl hb0 hm hnp hw1 hfo hEv hal ht0
  generalize txt a=sa at *
  generalize txt v=sv at *
  generalize txt f=sf at *
  generalize txt l=sl at *
  go_enter Tryz.func21,Tryz.ntmps21
  go_upto_region 1 with fail
  rw[Hw1.out]
  clear Hw1
  go_wp2_with (go_at_call 12;fail)
  refine hFo.mono ?_
  rintro e w2 ⟨rfl,hbn⟩
  have HXw2:=hide (HXw1.out.below HXw1.out.lt hbn)
  have HBw2:=hide (HBw1.out.trans (hbn.mono HBw1.out.size))
  have HTw2:=hide (HTw1.out.below hbn)
  have hcall:=HEv.out w2 ((HA.out.below hbn).upto hbn.size) (HL.out.grow hbn) (HF.out.grow hbn) HTw2.out
  clear hbn c0 c1 c2 c3 c4 c5 c6
  obtain⟨_,c0,c1,c2,c3,c4,c5,c6⟩:=HXw2.out
  go_wp2_with (go_at_call 35;fail)
  refine hcall.mono ?_
  rintro e w3 ⟨rfl,hbn⟩
  have HXw3:=hide (HXw2.out.below HXw2.out.lt hbn)
  have HBw3:=hide (HBw2.out.trans (hbn.mono HBw2.out.size))
  have HTw3:=hide (HTw2.out.below hbn)
  clear hbn c0 c1 c2 c3 c4 c5 c6
  obtain⟨_,c0,c1,c2,c3,c4,c5,c6⟩:=HXw3.out
  go_wp2
  go_ret
  exact⟨by rw[hr.out];try rfl,HBw3.out⟩
end Go.Proofs.YtaolhefllfnmiaaGreatDoor
