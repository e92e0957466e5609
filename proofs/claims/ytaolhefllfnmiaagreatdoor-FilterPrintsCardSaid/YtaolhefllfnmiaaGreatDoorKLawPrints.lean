/- The walk of FilterPrints: whatever the two filters, true. By an AI agent. -/
import Derived.Test.YtaolhefllfnmiaaGreatDoorJV
import Derived.Test.YtaolhefllfnmiaaGreatDoorJW
import Derived.Test.YtaolhefllfnmiaaGreatDoorHY
set_option maxRecDepth 100000
set_option maxHeartbeats 64000000
namespace Go.Proofs.YtaolhefllfnmiaaGreatDoor
open Go.RowKit
set_option linter.unusedVariables false
theorem prints_law (t t':FT) (w:World) (u0 u1 u2 u3 u4 u5 u6 v0 v1 v2 v3 v4 v5 v6:Value) (hF:FIn w w.heap.size t [u0,u1,u2,u3,u4,u5,u6]) (hF':FIn w w.heap.size t' [v0,v1,v2,v3,v4,v5,v6]) (hT:FM w):
  Calls Tryz.prog 3 #[.agg #[u0,u1,u2,u3,u4,u5,u6],.agg #[v0,v1,v2,v3,v4,v5,v6]] w fun e w'=>e=.returned (.bool true)∧Below w.heap.size w w':=by
 have hF0:=hF
 have hF0':=hF'
 cases t with
 | mk k a v f l any ps=>
 cases t' with
 | mk k' a' v' f' l' any' ps'=>
 simp only[FIn] at hF hF'
 obtain⟨A,c,D,dd,xs,hcs,_⟩:=hF
 cases hcs
 obtain⟨A',c',D',dd',xs',hcs,_⟩:=hF'
 cases hcs
 obtain⟨m,hm⟩:∃m,any.length=m:=⟨_,rfl⟩
 obtain⟨np,hnp⟩:∃np,ps.length=np:=⟨_,rfl⟩
 obtain⟨m',hm'⟩:∃m',any'.length=m':=⟨_,rfl⟩
 obtain⟨np',hnp'⟩:∃np',ps'.length=np':=⟨_,rfl⟩
 have hX:=Box7.new w k (txt a) (txt v) (txt f) (txt l) A any.length c D ps.length dd 25
 have hb0:=below1 w (.cells #[.int .i64 k,.string (txt a),.string (txt v),.string (txt f),.string (txt l),.slice A any.length c,.slice D ps.length dd] 25)
 obtain⟨w1,hw1⟩:∃w1,(w.alloc (.cells #[.int .i64 k,.string (txt a),.string (txt v),.string (txt f),.string (txt l),.slice A any.length c,.slice D ps.length dd] 25))=w1:=⟨_,rfl⟩
 have hsz:w1.heap.size=w.heap.size+1:=by rw[←hw1];simp
 rw[hw1] at hX hb0
 have hY:=Box7.new w1 k' (txt a') (txt v') (txt f') (txt l') A' any'.length c' D' ps'.length dd' 25
 have hb1:=below1 w1 (.cells #[.int .i64 k',.string (txt a'),.string (txt v'),.string (txt f'),.string (txt l'),.slice A' any'.length c',.slice D' ps'.length dd'] 25)
 obtain⟨w2,hw2⟩:∃w2,(w1.alloc (.cells #[.int .i64 k',.string (txt a'),.string (txt v'),.string (txt f'),.string (txt l'),.slice A' any'.length c',.slice D' ps'.length dd'] 25))=w2:=⟨_,rfl⟩
 rw[hw2] at hY hb1
 have hX1:=hX.below hX.lt hb1
 have hb2:=hb0.trans (hb1.mono hb0.size)
 rw[hsz] at hY
 have hF1:=hF0.grow hb2
 have hG1:=hF0'.grow hb2
 have hT1:=hT.below hb2
 rw[hm,hnp] at hX1 hw1 hF1 ⊢
 rw[hm',hnp'] at hY hw2 hG1 ⊢
 obtain⟨t0,ht0⟩:∃t0,FT.mk k a v f l any ps=t0:=⟨_,rfl⟩
 obtain⟨t1,ht1⟩:∃t1,FT.mk k' a' v' f' l' any' ps'=t1:=⟨_,rfl⟩
 rw[ht0] at hF1
 rw[ht1] at hG1
 clear hF0 hF0' hX hb0 hb1 hT hm hnp hm' hnp' ht0 ht1
 generalize txt a=sa at *
 generalize txt v=sv at *
 generalize txt f=sf at *
 generalize txt l=sl at *
 generalize txt a'=sa' at *
 generalize txt v'=sv' at *
 generalize txt f'=sf' at *
 generalize txt l'=sl' at *
 have HSm:=hide (fun w h=>fSmall_any t0 w (.int .i64 k) (.string sa) (.string sv) (.string sf) (.string sl) (.slice A m c) (.slice D np dd) h)
 have HSn:=hide (fun w h=>fSmall_any t1 w (.int .i64 k') (.string sa') (.string sv') (.string sf') (.string sl') (.slice A' m' c') (.slice D' np' dd') h)
 have HAw:=hide (fun w hT=>jawake_any w hT)
 have HX2:=hide hX1
 have HY2:=hide hY
 have HT2:=hide hT1
 have HF2:=hide hF1
 have HG2:=hide hG1
 have HB2:=hide hb2
 have Hw1:=hide hw1
 have Hw2:=hide hw2
 clear hX1 hY hT1 hF1 hG1 hb2 hw1 hw2 hsz
 cases hs0:t0.smallB with
 | false=>
  rw[hs0] at HSm
  clear hs0 HSn
  go_enter Tryz.func3,Tryz.ntmps3
  go_wp2_with (go_at_call 7;fail)
  rw[Hw1.out,Hw2.out]
  refine (HAw.out _ HT2.out).mono ?_
  rintro e w3 ⟨rfl,hb⟩
  have HX3:=hide (HX2.out.below HX2.out.lt hb)
  have HY3:=hide (HY2.out.below HY2.out.lt hb)
  have HT3:=hide (HT2.out.below hb)
  have HF3:=hide (HF2.out.grow hb)
  have HG3:=hide (HG2.out.grow hb)
  have HB3:=hide (HB2.out.trans (hb.mono HB2.out.size))
  clear hb HX2 HY2 HT2 HF2 HG2 HB2
  try clear c0 c1 c2 c3 c4 c5 c6 d0 d1 d2 d3 d4 d5 d6
  obtain⟨_,c0,c1,c2,c3,c4,c5,c6⟩:=HX3.out
  obtain⟨_,d0,d1,d2,d3,d4,d5,d6⟩:=HY3.out
  go_wp2_with (go_at_call 8;fail)
  refine (HSm.out _ HF3.out).mono ?_
  rintro e w4 ⟨rfl,hb⟩
  have HX4:=hide (HX3.out.below HX3.out.lt hb)
  have HY4:=hide (HY3.out.below HY3.out.lt hb)
  have HT4:=hide (HT3.out.below hb)
  have HF4:=hide (HF3.out.grow hb)
  have HG4:=hide (HG3.out.grow hb)
  have HB4:=hide (HB3.out.trans (hb.mono HB3.out.size))
  clear hb HX3 HY3 HT3 HF3 HG3 HB3
  try clear c0 c1 c2 c3 c4 c5 c6 d0 d1 d2 d3 d4 d5 d6
  obtain⟨_,c0,c1,c2,c3,c4,c5,c6⟩:=HX4.out
  obtain⟨_,d0,d1,d2,d3,d4,d5,d6⟩:=HY4.out
  go_wp2_with (go_at_call 7;fail)
  refine (HAw.out _ HT4.out).mono ?_
  rintro e w9 ⟨rfl,hb⟩
  have hB:=HB4.out.trans (hb.mono HB4.out.size)
  clear hb
  go_wp2
  go_ret
  exact⟨rfl,hB⟩
 | true=>
  rw[hs0] at HSm
  cases hs1:t1.smallB with
  | false=>
   rw[hs1] at HSn
   clear hs0 hs1
   go_enter Tryz.func3,Tryz.ntmps3
   go_wp2_with (go_at_call 7;fail)
   rw[Hw1.out,Hw2.out]
   refine (HAw.out _ HT2.out).mono ?_
   rintro e w3 ⟨rfl,hb⟩
   have HX3:=hide (HX2.out.below HX2.out.lt hb)
   have HY3:=hide (HY2.out.below HY2.out.lt hb)
   have HT3:=hide (HT2.out.below hb)
   have HF3:=hide (HF2.out.grow hb)
   have HG3:=hide (HG2.out.grow hb)
   have HB3:=hide (HB2.out.trans (hb.mono HB2.out.size))
   clear hb HX2 HY2 HT2 HF2 HG2 HB2
   try clear c0 c1 c2 c3 c4 c5 c6 d0 d1 d2 d3 d4 d5 d6
   obtain⟨_,c0,c1,c2,c3,c4,c5,c6⟩:=HX3.out
   obtain⟨_,d0,d1,d2,d3,d4,d5,d6⟩:=HY3.out
   go_wp2_with (go_at_call 8;fail)
   refine (HSm.out _ HF3.out).mono ?_
   rintro e w4 ⟨rfl,hb⟩
   have HX4:=hide (HX3.out.below HX3.out.lt hb)
   have HY4:=hide (HY3.out.below HY3.out.lt hb)
   have HT4:=hide (HT3.out.below hb)
   have HF4:=hide (HF3.out.grow hb)
   have HG4:=hide (HG3.out.grow hb)
   have HB4:=hide (HB3.out.trans (hb.mono HB3.out.size))
   clear hb HX3 HY3 HT3 HF3 HG3 HB3
   try clear c0 c1 c2 c3 c4 c5 c6 d0 d1 d2 d3 d4 d5 d6
   obtain⟨_,c0,c1,c2,c3,c4,c5,c6⟩:=HX4.out
   obtain⟨_,d0,d1,d2,d3,d4,d5,d6⟩:=HY4.out
   go_wp2_with (go_at_call 8;fail)
   refine (HSn.out _ HG4.out).mono ?_
   rintro e w5 ⟨rfl,hb⟩
   have HX5:=hide (HX4.out.below HX4.out.lt hb)
   have HY5:=hide (HY4.out.below HY4.out.lt hb)
   have HT5:=hide (HT4.out.below hb)
   have HF5:=hide (HF4.out.grow hb)
   have HG5:=hide (HG4.out.grow hb)
   have HB5:=hide (HB4.out.trans (hb.mono HB4.out.size))
   clear hb HX4 HY4 HT4 HF4 HG4 HB4
   try clear c0 c1 c2 c3 c4 c5 c6 d0 d1 d2 d3 d4 d5 d6
   obtain⟨_,c0,c1,c2,c3,c4,c5,c6⟩:=HX5.out
   obtain⟨_,d0,d1,d2,d3,d4,d5,d6⟩:=HY5.out
   go_wp2_with (go_at_call 7;fail)
   refine (HAw.out _ HT5.out).mono ?_
   rintro e w9 ⟨rfl,hb⟩
   have hB:=HB5.out.trans (hb.mono HB5.out.size)
   clear hb
   go_wp2
   go_ret
   exact⟨rfl,hB⟩
  | true=>
   rw[hs1] at HSn
   have hwee:t0.wee:=FT.wee_of_small (by unfold FT.smallB at hs0;simpa using hs0)
   have hwee1:t1.wee:=FT.wee_of_small (by unfold FT.smallB at hs1;simpa using hs1)
   have htx:=FT.text_small hs0
   obtain⟨b,hbt⟩:∃b:Bool,(b=true↔t0=t1):=by classical exact⟨decide (t0=t1),by simp⟩
   obtain⟨P,hP⟩:∃P,txt t0.printV.1=P:=⟨_,rfl⟩
   obtain⟨E,hE⟩:∃E,t0.printV.2=E:=⟨_,rfl⟩
   obtain⟨fo,hfo⟩:∃fo,t0.formed=fo:=⟨_,rfl⟩
   obtain⟨M,hM⟩:∃M:Int,((min t0.nodes 41:Nat):Int)=M:=⟨_,rfl⟩
   have hPr:=fun w y0 y1 y2 y3 y4 y5 y6 h hM=>jfprint_any t0 htx w y0 y1 y2 y3 y4 y5 y6 h hM
   have hRp:=fun w h=>rfprint_any t0 htx w (.int .i64 k) (.string sa) (.string sv) (.string sf) (.string sl) (.slice A m c) (.slice D np dd) h
   have hFo:=fun w y0 y1 y2 y3 y4 y5 y6 h=>jFormed_any t0 w y0 y1 y2 y3 y4 y5 y6 h
   have hRf:=fun w h=>rfformed_any t0 w (.int .i64 k) (.string sa) (.string sv) (.string sf) (.string sl) (.slice A m c) (.slice D np dd) h
   have hNo:=fun w y0 y1 y2 y3 y4 y5 y6 h=>jnodes_any t0 w y0 y1 y2 y3 y4 y5 y6 h
   have hRn:=fun w h=>rnodes_any t0 w (.int .i64 k) (.string sa) (.string sv) (.string sf) (.string sl) (.slice A m c) (.slice D np dd) h
   rw[hP,hE] at hPr hRp
   rw[hfo] at hFo hRf
   rw[hM] at hNo hRn
   have HPr:=hide hPr
   have HRp:=hide hRp
   have HFo:=hide hFo
   have HRf:=hide hRf
   have HNo:=hide hNo
   have HRn:=hide hRn
   have HTh:=hide (fun w h=>theirs7_any t0 hwee w (.int .i64 k) (.string sa) (.string sv) (.string sf) (.string sl) (.slice A m c) (.slice D np dd) h)
   have HTg:=hide (fun w h=>theirs7_any t1 hwee1 w (.int .i64 k') (.string sa') (.string sv') (.string sf') (.string sl') (.slice A' m' c') (.slice D' np' dd') h)
   have HSa:=hide (fun w y0 y1 y2 y3 y4 y5 y6 z0 z1 z2 z3 z4 z5 z6 h h'=>jsame_any t0 hwee t1 w y0 y1 y2 y3 y4 y5 y6 z0 z1 z2 z3 z4 z5 z6 h h' b hbt)
   have HRs:=hide (fun w h h'=>rfsame_any t0 t1 w (.int .i64 k) (.string sa) (.string sv) (.string sf) (.string sl) (.slice A m c) (.slice D np dd) (.int .i64 k') (.string sa') (.string sv') (.string sf') (.string sl') (.slice A' m' c') (.slice D' np' dd') h h' b hbt)
   clear hPr hRp hFo hRf hNo hRn hwee hwee1 htx hs0 hs1 hP hE hfo hM hbt
   go_enter Tryz.func3,Tryz.ntmps3
   go_wp2_with (go_at_call 7;fail)
   rw[Hw1.out,Hw2.out]
   refine (HAw.out _ HT2.out).mono ?_
   rintro e w3 ⟨rfl,hb⟩
   have HX3:=hide (HX2.out.below HX2.out.lt hb)
   have HY3:=hide (HY2.out.below HY2.out.lt hb)
   have HT3:=hide (HT2.out.below hb)
   have HF3:=hide (HF2.out.grow hb)
   have HG3:=hide (HG2.out.grow hb)
   have HB3:=hide (HB2.out.trans (hb.mono HB2.out.size))
   clear hb HX2 HY2 HT2 HF2 HG2 HB2
   try clear c0 c1 c2 c3 c4 c5 c6 d0 d1 d2 d3 d4 d5 d6
   obtain⟨_,c0,c1,c2,c3,c4,c5,c6⟩:=HX3.out
   obtain⟨_,d0,d1,d2,d3,d4,d5,d6⟩:=HY3.out
   go_wp2_with (go_at_call 8;fail)
   refine (HSm.out _ HF3.out).mono ?_
   rintro e w4 ⟨rfl,hb⟩
   have HX4:=hide (HX3.out.below HX3.out.lt hb)
   have HY4:=hide (HY3.out.below HY3.out.lt hb)
   have HT4:=hide (HT3.out.below hb)
   have HF4:=hide (HF3.out.grow hb)
   have HG4:=hide (HG3.out.grow hb)
   have HB4:=hide (HB3.out.trans (hb.mono HB3.out.size))
   clear hb HX3 HY3 HT3 HF3 HG3 HB3
   try clear c0 c1 c2 c3 c4 c5 c6 d0 d1 d2 d3 d4 d5 d6
   obtain⟨_,c0,c1,c2,c3,c4,c5,c6⟩:=HX4.out
   obtain⟨_,d0,d1,d2,d3,d4,d5,d6⟩:=HY4.out
   go_wp2_with (go_at_call 8;fail)
   refine (HSn.out _ HG4.out).mono ?_
   rintro e w5 ⟨rfl,hb⟩
   have HX5:=hide (HX4.out.below HX4.out.lt hb)
   have HY5:=hide (HY4.out.below HY4.out.lt hb)
   have HT5:=hide (HT4.out.below hb)
   have HF5:=hide (HF4.out.grow hb)
   have HG5:=hide (HG4.out.grow hb)
   have HB5:=hide (HB4.out.trans (hb.mono HB4.out.size))
   clear hb HX4 HY4 HT4 HF4 HG4 HB4
   try clear c0 c1 c2 c3 c4 c5 c6 d0 d1 d2 d3 d4 d5 d6
   obtain⟨_,c0,c1,c2,c3,c4,c5,c6⟩:=HX5.out
   obtain⟨_,d0,d1,d2,d3,d4,d5,d6⟩:=HY5.out
   go_wp2_with (go_at_call 10;fail)
   refine (HTh.out _ HF5.out).mono ?_
   rintro e w6 hpost
   obtain⟨y0,y1,y2,y3,y4,y5,y6,rfl,hy,hb⟩:=hpost.out
   have HA6:=hide (hy.fin (B:=w6.heap.size) (fun b hb=>hb.2))
   clear hy hpost
   have HX6:=hide (HX5.out.below HX5.out.lt hb)
   have HY6:=hide (HY5.out.below HY5.out.lt hb)
   have HT6:=hide (HT5.out.below hb)
   have HF6:=hide (HF5.out.grow hb)
   have HG6:=hide (HG5.out.grow hb)
   have HB6:=hide (HB5.out.trans (hb.mono HB5.out.size))
   clear hb HX5 HY5 HT5 HF5 HG5 HB5
   try clear c0 c1 c2 c3 c4 c5 c6 d0 d1 d2 d3 d4 d5 d6
   obtain⟨_,c0,c1,c2,c3,c4,c5,c6⟩:=HX6.out
   obtain⟨_,d0,d1,d2,d3,d4,d5,d6⟩:=HY6.out
   go_wp2_with (go_at_call 9;fail)
   refine (HPr.out _ y0 y1 y2 y3 y4 y5 y6 HA6.out HT6.out.marks).mono ?_
   rintro e w7 ⟨rfl,hb⟩
   have HX7:=hide (HX6.out.below HX6.out.lt hb)
   have HY7:=hide (HY6.out.below HY6.out.lt hb)
   have HT7:=hide (HT6.out.below hb)
   have HF7:=hide (HF6.out.grow hb)
   have HG7:=hide (HG6.out.grow hb)
   have HB7:=hide (HB6.out.trans (hb.mono HB6.out.size))
   clear hb HX6 HY6 HT6 HF6 HG6 HB6
   clear HA6
   try clear c0 c1 c2 c3 c4 c5 c6 d0 d1 d2 d3 d4 d5 d6
   obtain⟨_,c0,c1,c2,c3,c4,c5,c6⟩:=HX7.out
   obtain⟨_,d0,d1,d2,d3,d4,d5,d6⟩:=HY7.out
   go_wp2_with (go_at_call 11;fail)
   refine (HRp.out _ HF7.out).mono ?_
   rintro e w8 ⟨rfl,hb⟩
   have HX8:=hide (HX7.out.below HX7.out.lt hb)
   have HY8:=hide (HY7.out.below HY7.out.lt hb)
   have HT8:=hide (HT7.out.below hb)
   have HF8:=hide (HF7.out.grow hb)
   have HG8:=hide (HG7.out.grow hb)
   have HB8:=hide (HB7.out.trans (hb.mono HB7.out.size))
   clear hb HX7 HY7 HT7 HF7 HG7 HB7
   try clear c0 c1 c2 c3 c4 c5 c6 d0 d1 d2 d3 d4 d5 d6
   obtain⟨_,c0,c1,c2,c3,c4,c5,c6⟩:=HX8.out
   obtain⟨_,d0,d1,d2,d3,d4,d5,d6⟩:=HY8.out
   go_wp2_with fail
   refine grow_begin (by kernel_rfl) ?_
   have hb:Below w8.heap.size w8 w8.drew:=(Below.refl _ _).drew
   have HX8d:=hide (HX8.out.below HX8.out.lt hb)
   have HY8d:=hide (HY8.out.below HY8.out.lt hb)
   have HT8d:=hide (HT8.out.below hb)
   have HF8d:=hide (HF8.out.grow hb)
   have HG8d:=hide (HG8.out.grow hb)
   have HB8d:=hide (HB8.out.trans (hb.mono HB8.out.size))
   clear hb HX8 HY8 HT8 HF8 HG8 HB8
   clear c0 c1 c2 c3 c4 c5 c6 d0 d1 d2 d3 d4 d5 d6
   generalize w8.drew=wd at *
   refine grow_take 0 (some 33) (v:=?vr0) rfl rfl (by kernel_rfl) (by kernel_rfl) (by kernel_rfl) (fun _ _ _ h=>h) (by rfl) (fun W hW=>?yr0) ?_
   case yr0=>
    go_simp<;>with_reducible rfl
   simp only[Act.put,List.setIfInBounds_toArray,List.set_cons_zero,List.set_cons_succ]
   refine grow_take 1 (some 34) (v:=?vr1) rfl rfl (by kernel_rfl) (by kernel_rfl) (by kernel_rfl) (fun _ _ _ h=>h) (by rfl) (fun W hW=>?yr1) ?_
   case yr1=>
    go_simp<;>with_reducible rfl
   simp only[Act.put,List.setIfInBounds_toArray,List.set_cons_zero,List.set_cons_succ]
   refine grow_take 2 (some 35) (v:=?vr2) rfl rfl (by kernel_rfl) (by kernel_rfl) (by kernel_rfl) (fun _ _ _ h=>h) (by rfl) (fun W hW=>?yr2) ?_
   case yr2=>
    go_simp<;>with_reducible rfl
   simp only[Act.put,List.setIfInBounds_toArray,List.set_cons_zero,List.set_cons_succ]
   refine grow_take 3 (some 36) (v:=?vr3) rfl rfl (by kernel_rfl) (by kernel_rfl) (by kernel_rfl) (fun _ _ _ h=>h) (by rfl) (fun W hW=>?yr3) ?_
   case yr3=>
    go_simp<;>with_reducible rfl
   simp only[Act.put,List.setIfInBounds_toArray,List.set_cons_zero,List.set_cons_succ]
   refine grow_take 4 (some 37) (v:=?vr4) rfl rfl (by kernel_rfl) (by kernel_rfl) (by kernel_rfl) (fun _ _ _ h=>h) (by rfl) (fun W hW=>?yr4) ?_
   case yr4=>
    go_simp<;>with_reducible rfl
   simp only[Act.put,List.setIfInBounds_toArray,List.set_cons_zero,List.set_cons_succ]
   refine grow_take 5 (some 38) (v:=?vr5) rfl rfl (by kernel_rfl) (by kernel_rfl) (by kernel_rfl) (fun _ _ _ h=>h) (by rfl) (fun W hW=>?yr5) ?_
   case yr5=>
    go_simp<;>with_reducible rfl
   simp only[Act.put,List.setIfInBounds_toArray,List.set_cons_zero,List.set_cons_succ]
   refine grow_take 6 (some 39) (v:=?vr6) rfl rfl (by kernel_rfl) (by kernel_rfl) (by kernel_rfl) (fun _ _ _ h=>h) (by rfl) (fun W hW=>?yr6) ?_
   case yr6=>
    go_simp<;>with_reducible rfl
   simp only[Act.put,List.setIfInBounds_toArray,List.set_cons_zero,List.set_cons_succ]
   refine grow_take 7 (some 40) (v:=?vr7) rfl rfl (by kernel_rfl) (by kernel_rfl) (by kernel_rfl) (fun _ _ _ h=>h) (by rfl) (fun W hW=>?yr7) ?_
   case yr7=>
    go_simp<;>with_reducible rfl
   simp only[Act.put,List.setIfInBounds_toArray,List.set_cons_zero,List.set_cons_succ]
   refine grow_take 8 (some 41) (v:=?vr8) rfl rfl (by kernel_rfl) (by kernel_rfl) (by kernel_rfl) (fun _ _ _ h=>h) (by rfl) (fun W hW=>?yr8) ?_
   case yr8=>
    go_simp<;>with_reducible rfl
   simp only[Act.put,List.setIfInBounds_toArray,List.set_cons_zero,List.set_cons_succ]
   refine grow_take 9 (some 42) (v:=?vr9) rfl rfl (by kernel_rfl) (by kernel_rfl) (by kernel_rfl) (fun _ _ _ h=>h) (by rfl) (fun W hW=>?yr9) ?_
   case yr9=>
    obtain⟨_,d0,d1,d2,d3,d4,d5,d6⟩:=HX8d.out.below HX8d.out.lt hW
    go_simp<;>with_reducible rfl
   simp only[Act.put,List.setIfInBounds_toArray,List.set_cons_zero,List.set_cons_succ]
   refine grow_take 12 (some 45) (v:=?vr12) rfl rfl (by kernel_rfl) (by kernel_rfl) (by kernel_rfl) (fun _ _ _ h=>h) (by rfl) (fun W hW=>?yr12) ?_
   case yr12=>
    obtain⟨_,d0,d1,d2,d3,d4,d5,d6⟩:=HX8d.out.below HX8d.out.lt hW
    go_simp<;>with_reducible rfl
   simp only[Act.put,List.setIfInBounds_toArray,List.set_cons_zero,List.set_cons_succ]
   refine grow_only 10 rfl (by kernel_rfl) (fun K hK=>?_)
   go_simp
   refine (HTh.out _ HF8d.out).mono ?_
   rintro e w8d_10 hpost
   obtain⟨p0,p1,p2,p3,p4,p5,p6,rfl,hy,hb⟩:=hpost.out
   have P8d_10:=hide (hy.fin (B:=w8d_10.heap.size) (fun b hb=>hb.2))
   clear hy hpost
   refine hK.out _ _ hb ?_
   clear hK K
   have HX8d_10:=hide (HX8d.out.below HX8d.out.lt hb)
   have HY8d_10:=hide (HY8d.out.below HY8d.out.lt hb)
   have HT8d_10:=hide (HT8d.out.below hb)
   have HF8d_10:=hide (HF8d.out.grow hb)
   have HG8d_10:=hide (HG8d.out.grow hb)
   have HB8d_10:=hide (HB8d.out.trans (hb.mono HB8d.out.size))
   clear hb HX8d HY8d HT8d HF8d HG8d HB8d
   try simp only[Act.put,List.setIfInBounds_toArray,List.set_cons_zero,List.set_cons_succ]
   refine grow_only 11 rfl (by kernel_rfl) (fun K hK=>?_)
   go_simp
   refine (HFo.out _ p0 p1 p2 p3 p4 p5 p6 P8d_10.out).mono ?_
   rintro e w8d_10_11 ⟨rfl,hb⟩
   refine hK.out _ _ hb ?_
   clear hK K
   clear P8d_10
   have HX8d_10_11:=hide (HX8d_10.out.below HX8d_10.out.lt hb)
   have HY8d_10_11:=hide (HY8d_10.out.below HY8d_10.out.lt hb)
   have HT8d_10_11:=hide (HT8d_10.out.below hb)
   have HF8d_10_11:=hide (HF8d_10.out.grow hb)
   have HG8d_10_11:=hide (HG8d_10.out.grow hb)
   have HB8d_10_11:=hide (HB8d_10.out.trans (hb.mono HB8d_10.out.size))
   clear hb HX8d_10 HY8d_10 HT8d_10 HF8d_10 HG8d_10 HB8d_10
   try simp only[Act.put,List.setIfInBounds_toArray,List.set_cons_zero,List.set_cons_succ]
   refine grow_only 13 rfl (by kernel_rfl) (fun K hK=>?_)
   go_simp
   refine (HRf.out _ HF8d_10_11.out).mono ?_
   rintro e w8d_10_11_13 ⟨rfl,hb⟩
   refine hK.out _ _ hb ?_
   clear hK K
   have HX8d_10_11_13:=hide (HX8d_10_11.out.below HX8d_10_11.out.lt hb)
   have HY8d_10_11_13:=hide (HY8d_10_11.out.below HY8d_10_11.out.lt hb)
   have HT8d_10_11_13:=hide (HT8d_10_11.out.below hb)
   have HF8d_10_11_13:=hide (HF8d_10_11.out.grow hb)
   have HG8d_10_11_13:=hide (HG8d_10_11.out.grow hb)
   have HB8d_10_11_13:=hide (HB8d_10_11.out.trans (hb.mono HB8d_10_11.out.size))
   clear hb HX8d_10_11 HY8d_10_11 HT8d_10_11 HF8d_10_11 HG8d_10_11 HB8d_10_11
   try simp only[Act.put,List.setIfInBounds_toArray,List.set_cons_zero,List.set_cons_succ]
   refine grow_take 14 (some 47) (v:=?vr14) rfl rfl (by kernel_rfl) (by kernel_rfl) (by kernel_rfl) (fun _ _ _ h=>h) (by rfl) (fun W hW=>?yr14) ?_
   case yr14=>
    go_simp<;>with_reducible rfl
   simp only[Act.put,List.setIfInBounds_toArray,List.set_cons_zero,List.set_cons_succ]
   refine grow_take 15 (some 48) (v:=?vr15) rfl rfl (by kernel_rfl) (by kernel_rfl) (by kernel_rfl) (fun _ _ _ h=>h) (by rfl) (fun W hW=>?yr15) ?_
   case yr15=>
    go_simp<;>with_reducible rfl
   simp only[Act.put,List.setIfInBounds_toArray,List.set_cons_zero,List.set_cons_succ]
   refine grow_take 16 (some 49) (v:=?vr16) rfl rfl (by kernel_rfl) (by kernel_rfl) (by kernel_rfl) (fun _ _ _ h=>h) (by rfl) (fun W hW=>?yr16) ?_
   case yr16=>
    go_simp<;>with_reducible rfl
   simp only[Act.put,List.setIfInBounds_toArray,List.set_cons_zero,List.set_cons_succ]
   refine grow_take 17 (some 50) (v:=?vr17) rfl rfl (by kernel_rfl) (by kernel_rfl) (by kernel_rfl) (fun _ _ _ h=>h) (by rfl) (fun W hW=>?yr17) ?_
   case yr17=>
    obtain⟨_,d0,d1,d2,d3,d4,d5,d6⟩:=HX8d_10_11_13.out.below HX8d_10_11_13.out.lt hW
    go_simp<;>with_reducible rfl
   simp only[Act.put,List.setIfInBounds_toArray,List.set_cons_zero,List.set_cons_succ]
   refine grow_take 20 (some 53) (v:=?vr20) rfl rfl (by kernel_rfl) (by kernel_rfl) (by kernel_rfl) (fun _ _ _ h=>h) (by rfl) (fun W hW=>?yr20) ?_
   case yr20=>
    obtain⟨_,d0,d1,d2,d3,d4,d5,d6⟩:=HX8d_10_11_13.out.below HX8d_10_11_13.out.lt hW
    go_simp<;>with_reducible rfl
   simp only[Act.put,List.setIfInBounds_toArray,List.set_cons_zero,List.set_cons_succ]
   refine grow_only 18 rfl (by kernel_rfl) (fun K hK=>?_)
   go_simp
   refine (HTh.out _ HF8d_10_11_13.out).mono ?_
   rintro e w8d_10_11_13_18 hpost
   obtain⟨q0,q1,q2,q3,q4,q5,q6,rfl,hy,hb⟩:=hpost.out
   have Q8d_10_11_13_18:=hide (hy.fin (B:=w8d_10_11_13_18.heap.size) (fun b hb=>hb.2))
   clear hy hpost
   refine hK.out _ _ hb ?_
   clear hK K
   have HX8d_10_11_13_18:=hide (HX8d_10_11_13.out.below HX8d_10_11_13.out.lt hb)
   have HY8d_10_11_13_18:=hide (HY8d_10_11_13.out.below HY8d_10_11_13.out.lt hb)
   have HT8d_10_11_13_18:=hide (HT8d_10_11_13.out.below hb)
   have HF8d_10_11_13_18:=hide (HF8d_10_11_13.out.grow hb)
   have HG8d_10_11_13_18:=hide (HG8d_10_11_13.out.grow hb)
   have HB8d_10_11_13_18:=hide (HB8d_10_11_13.out.trans (hb.mono HB8d_10_11_13.out.size))
   clear hb HX8d_10_11_13 HY8d_10_11_13 HT8d_10_11_13 HF8d_10_11_13 HG8d_10_11_13 HB8d_10_11_13
   try simp only[Act.put,List.setIfInBounds_toArray,List.set_cons_zero,List.set_cons_succ]
   refine grow_only 19 rfl (by kernel_rfl) (fun K hK=>?_)
   go_simp
   refine (HNo.out _ q0 q1 q2 q3 q4 q5 q6 Q8d_10_11_13_18.out).mono ?_
   rintro e w8d_10_11_13_18_19 ⟨rfl,hb⟩
   refine hK.out _ _ hb ?_
   clear hK K
   clear Q8d_10_11_13_18
   have HX8d_10_11_13_18_19:=hide (HX8d_10_11_13_18.out.below HX8d_10_11_13_18.out.lt hb)
   have HY8d_10_11_13_18_19:=hide (HY8d_10_11_13_18.out.below HY8d_10_11_13_18.out.lt hb)
   have HT8d_10_11_13_18_19:=hide (HT8d_10_11_13_18.out.below hb)
   have HF8d_10_11_13_18_19:=hide (HF8d_10_11_13_18.out.grow hb)
   have HG8d_10_11_13_18_19:=hide (HG8d_10_11_13_18.out.grow hb)
   have HB8d_10_11_13_18_19:=hide (HB8d_10_11_13_18.out.trans (hb.mono HB8d_10_11_13_18.out.size))
   clear hb HX8d_10_11_13_18 HY8d_10_11_13_18 HT8d_10_11_13_18 HF8d_10_11_13_18 HG8d_10_11_13_18 HB8d_10_11_13_18
   try simp only[Act.put,List.setIfInBounds_toArray,List.set_cons_zero,List.set_cons_succ]
   refine grow_only 21 rfl (by kernel_rfl) (fun K hK=>?_)
   go_simp
   refine (HRn.out _ HF8d_10_11_13_18_19.out).mono ?_
   rintro e w8d_10_11_13_18_19_21 ⟨rfl,hb⟩
   refine hK.out _ _ hb ?_
   clear hK K
   have HX8d_10_11_13_18_19_21:=hide (HX8d_10_11_13_18_19.out.below HX8d_10_11_13_18_19.out.lt hb)
   have HY8d_10_11_13_18_19_21:=hide (HY8d_10_11_13_18_19.out.below HY8d_10_11_13_18_19.out.lt hb)
   have HT8d_10_11_13_18_19_21:=hide (HT8d_10_11_13_18_19.out.below hb)
   have HF8d_10_11_13_18_19_21:=hide (HF8d_10_11_13_18_19.out.grow hb)
   have HG8d_10_11_13_18_19_21:=hide (HG8d_10_11_13_18_19.out.grow hb)
   have HB8d_10_11_13_18_19_21:=hide (HB8d_10_11_13_18_19.out.trans (hb.mono HB8d_10_11_13_18_19.out.size))
   clear hb HX8d_10_11_13_18_19 HY8d_10_11_13_18_19 HT8d_10_11_13_18_19 HF8d_10_11_13_18_19 HG8d_10_11_13_18_19 HB8d_10_11_13_18_19
   try simp only[Act.put,List.setIfInBounds_toArray,List.set_cons_zero,List.set_cons_succ]
   refine grow_take 22 (some 55) (v:=?vr22) rfl rfl (by kernel_rfl) (by kernel_rfl) (by kernel_rfl) (fun _ _ _ h=>h) (by rfl) (fun W hW=>?yr22) ?_
   case yr22=>
    go_simp<;>with_reducible rfl
   simp only[Act.put,List.setIfInBounds_toArray,List.set_cons_zero,List.set_cons_succ]
   refine grow_take 23 (some 56) (v:=?vr23) rfl rfl (by kernel_rfl) (by kernel_rfl) (by kernel_rfl) (fun _ _ _ h=>h) (by rfl) (fun W hW=>?yr23) ?_
   case yr23=>
    go_simp<;>with_reducible rfl
   simp only[Act.put,List.setIfInBounds_toArray,List.set_cons_zero,List.set_cons_succ]
   refine grow_take 24 (some 57) (v:=?vr24) rfl rfl (by kernel_rfl) (by kernel_rfl) (by kernel_rfl) (fun _ _ _ h=>h) (by rfl) (fun W hW=>?yr24) ?_
   case yr24=>
    go_simp<;>with_reducible rfl
   simp only[Act.put,List.setIfInBounds_toArray,List.set_cons_zero,List.set_cons_succ]
   refine grow_take 25 (some 58) (v:=?vr25) rfl rfl (by kernel_rfl) (by kernel_rfl) (by kernel_rfl) (fun _ _ _ h=>h) (by rfl) (fun W hW=>?yr25) ?_
   case yr25=>
    obtain⟨_,d0,d1,d2,d3,d4,d5,d6⟩:=HX8d_10_11_13_18_19_21.out.below HX8d_10_11_13_18_19_21.out.lt hW
    go_simp<;>with_reducible rfl
   simp only[Act.put,List.setIfInBounds_toArray,List.set_cons_zero,List.set_cons_succ]
   refine grow_take 27 (some 60) (v:=?vr27) rfl rfl (by kernel_rfl) (by kernel_rfl) (by kernel_rfl) (fun _ _ _ h=>h) (by rfl) (fun W hW=>?yr27) ?_
   case yr27=>
    obtain⟨_,d0,d1,d2,d3,d4,d5,d6⟩:=HY8d_10_11_13_18_19_21.out.below HY8d_10_11_13_18_19_21.out.lt hW
    go_simp<;>with_reducible rfl
   simp only[Act.put,List.setIfInBounds_toArray,List.set_cons_zero,List.set_cons_succ]
   refine grow_take 30 (some 63) (v:=?vr30) rfl rfl (by kernel_rfl) (by kernel_rfl) (by kernel_rfl) (fun _ _ _ h=>h) (by rfl) (fun W hW=>?yr30) ?_
   case yr30=>
    obtain⟨_,d0,d1,d2,d3,d4,d5,d6⟩:=HX8d_10_11_13_18_19_21.out.below HX8d_10_11_13_18_19_21.out.lt hW
    go_simp<;>with_reducible rfl
   simp only[Act.put,List.setIfInBounds_toArray,List.set_cons_zero,List.set_cons_succ]
   refine grow_take 31 (some 64) (v:=?vr31) rfl rfl (by kernel_rfl) (by kernel_rfl) (by kernel_rfl) (fun _ _ _ h=>h) (by rfl) (fun W hW=>?yr31) ?_
   case yr31=>
    obtain⟨_,d0,d1,d2,d3,d4,d5,d6⟩:=HY8d_10_11_13_18_19_21.out.below HY8d_10_11_13_18_19_21.out.lt hW
    go_simp<;>with_reducible rfl
   simp only[Act.put,List.setIfInBounds_toArray,List.set_cons_zero,List.set_cons_succ]
   refine grow_only 26 rfl (by kernel_rfl) (fun K hK=>?_)
   go_simp
   refine (HTh.out _ HF8d_10_11_13_18_19_21.out).mono ?_
   rintro e w8d_10_11_13_18_19_21_26 hpost
   obtain⟨r0,r1,r2,r3,r4,r5,r6,rfl,hy,hb⟩:=hpost.out
   have R8d_10_11_13_18_19_21_26:=hide (hy.fin (B:=w8d_10_11_13_18_19_21_26.heap.size) (fun b hb=>hb.2))
   clear hy hpost
   refine hK.out _ _ hb ?_
   clear hK K
   have HX8d_10_11_13_18_19_21_26:=hide (HX8d_10_11_13_18_19_21.out.below HX8d_10_11_13_18_19_21.out.lt hb)
   have HY8d_10_11_13_18_19_21_26:=hide (HY8d_10_11_13_18_19_21.out.below HY8d_10_11_13_18_19_21.out.lt hb)
   have HT8d_10_11_13_18_19_21_26:=hide (HT8d_10_11_13_18_19_21.out.below hb)
   have HF8d_10_11_13_18_19_21_26:=hide (HF8d_10_11_13_18_19_21.out.grow hb)
   have HG8d_10_11_13_18_19_21_26:=hide (HG8d_10_11_13_18_19_21.out.grow hb)
   have HB8d_10_11_13_18_19_21_26:=hide (HB8d_10_11_13_18_19_21.out.trans (hb.mono HB8d_10_11_13_18_19_21.out.size))
   clear hb HX8d_10_11_13_18_19_21 HY8d_10_11_13_18_19_21 HT8d_10_11_13_18_19_21 HF8d_10_11_13_18_19_21 HG8d_10_11_13_18_19_21 HB8d_10_11_13_18_19_21
   try simp only[Act.put,List.setIfInBounds_toArray,List.set_cons_zero,List.set_cons_succ]
   refine grow_only 28 rfl (by kernel_rfl) (fun K hK=>?_)
   go_simp
   refine (HTg.out _ HG8d_10_11_13_18_19_21_26.out).mono ?_
   rintro e w8d_10_11_13_18_19_21_26_28 hpost
   obtain⟨z0,z1,z2,z3,z4,z5,z6,rfl,hy,hb⟩:=hpost.out
   have Z8d_10_11_13_18_19_21_26_28:=hide (hy.fin (B:=w8d_10_11_13_18_19_21_26_28.heap.size) (fun b hb=>hb.2))
   clear hy hpost
   refine hK.out _ _ hb ?_
   clear hK K
   have R8d_10_11_13_18_19_21_26_28:=hide (R8d_10_11_13_18_19_21_26.out.grow hb)
   clear R8d_10_11_13_18_19_21_26
   have HX8d_10_11_13_18_19_21_26_28:=hide (HX8d_10_11_13_18_19_21_26.out.below HX8d_10_11_13_18_19_21_26.out.lt hb)
   have HY8d_10_11_13_18_19_21_26_28:=hide (HY8d_10_11_13_18_19_21_26.out.below HY8d_10_11_13_18_19_21_26.out.lt hb)
   have HT8d_10_11_13_18_19_21_26_28:=hide (HT8d_10_11_13_18_19_21_26.out.below hb)
   have HF8d_10_11_13_18_19_21_26_28:=hide (HF8d_10_11_13_18_19_21_26.out.grow hb)
   have HG8d_10_11_13_18_19_21_26_28:=hide (HG8d_10_11_13_18_19_21_26.out.grow hb)
   have HB8d_10_11_13_18_19_21_26_28:=hide (HB8d_10_11_13_18_19_21_26.out.trans (hb.mono HB8d_10_11_13_18_19_21_26.out.size))
   clear hb HX8d_10_11_13_18_19_21_26 HY8d_10_11_13_18_19_21_26 HT8d_10_11_13_18_19_21_26 HF8d_10_11_13_18_19_21_26 HG8d_10_11_13_18_19_21_26 HB8d_10_11_13_18_19_21_26
   try simp only[Act.put,List.setIfInBounds_toArray,List.set_cons_zero,List.set_cons_succ]
   refine grow_only 29 rfl (by kernel_rfl) (fun K hK=>?_)
   go_simp
   refine (HSa.out _ r0 r1 r2 r3 r4 r5 r6 z0 z1 z2 z3 z4 z5 z6 R8d_10_11_13_18_19_21_26_28.out Z8d_10_11_13_18_19_21_26_28.out).mono ?_
   rintro e w8d_10_11_13_18_19_21_26_28_29 ⟨rfl,hb⟩
   refine hK.out _ _ hb ?_
   clear hK K
   clear R8d_10_11_13_18_19_21_26_28 Z8d_10_11_13_18_19_21_26_28
   have HX8d_10_11_13_18_19_21_26_28_29:=hide (HX8d_10_11_13_18_19_21_26_28.out.below HX8d_10_11_13_18_19_21_26_28.out.lt hb)
   have HY8d_10_11_13_18_19_21_26_28_29:=hide (HY8d_10_11_13_18_19_21_26_28.out.below HY8d_10_11_13_18_19_21_26_28.out.lt hb)
   have HT8d_10_11_13_18_19_21_26_28_29:=hide (HT8d_10_11_13_18_19_21_26_28.out.below hb)
   have HF8d_10_11_13_18_19_21_26_28_29:=hide (HF8d_10_11_13_18_19_21_26_28.out.grow hb)
   have HG8d_10_11_13_18_19_21_26_28_29:=hide (HG8d_10_11_13_18_19_21_26_28.out.grow hb)
   have HB8d_10_11_13_18_19_21_26_28_29:=hide (HB8d_10_11_13_18_19_21_26_28.out.trans (hb.mono HB8d_10_11_13_18_19_21_26_28.out.size))
   clear hb HX8d_10_11_13_18_19_21_26_28 HY8d_10_11_13_18_19_21_26_28 HT8d_10_11_13_18_19_21_26_28 HF8d_10_11_13_18_19_21_26_28 HG8d_10_11_13_18_19_21_26_28 HB8d_10_11_13_18_19_21_26_28
   try simp only[Act.put,List.setIfInBounds_toArray,List.set_cons_zero,List.set_cons_succ]
   refine grow_only 32 rfl (by kernel_rfl) (fun K hK=>?_)
   go_simp
   refine (HRs.out _ HF8d_10_11_13_18_19_21_26_28_29.out HG8d_10_11_13_18_19_21_26_28_29.out).mono ?_
   rintro e w8d_10_11_13_18_19_21_26_28_29_32 ⟨rfl,hb⟩
   refine hK.out _ _ hb ?_
   clear hK K
   have HX8d_10_11_13_18_19_21_26_28_29_32:=hide (HX8d_10_11_13_18_19_21_26_28_29.out.below HX8d_10_11_13_18_19_21_26_28_29.out.lt hb)
   have HY8d_10_11_13_18_19_21_26_28_29_32:=hide (HY8d_10_11_13_18_19_21_26_28_29.out.below HY8d_10_11_13_18_19_21_26_28_29.out.lt hb)
   have HT8d_10_11_13_18_19_21_26_28_29_32:=hide (HT8d_10_11_13_18_19_21_26_28_29.out.below hb)
   have HF8d_10_11_13_18_19_21_26_28_29_32:=hide (HF8d_10_11_13_18_19_21_26_28_29.out.grow hb)
   have HG8d_10_11_13_18_19_21_26_28_29_32:=hide (HG8d_10_11_13_18_19_21_26_28_29.out.grow hb)
   have HB8d_10_11_13_18_19_21_26_28_29_32:=hide (HB8d_10_11_13_18_19_21_26_28_29.out.trans (hb.mono HB8d_10_11_13_18_19_21_26_28_29.out.size))
   clear hb HX8d_10_11_13_18_19_21_26_28_29 HY8d_10_11_13_18_19_21_26_28_29 HT8d_10_11_13_18_19_21_26_28_29 HF8d_10_11_13_18_19_21_26_28_29 HG8d_10_11_13_18_19_21_26_28_29 HB8d_10_11_13_18_19_21_26_28_29
   try simp only[Act.put,List.setIfInBounds_toArray,List.set_cons_zero,List.set_cons_succ]
   refine grow_take 33 (some 66) (v:=?vr33) rfl rfl (by kernel_rfl) (by kernel_rfl) (by kernel_rfl) (fun _ _ _ h=>h) (by rfl) (fun W hW=>?yr33) ?_
   case yr33=>
    go_simp<;>with_reducible rfl
   simp only[Act.put,List.setIfInBounds_toArray,List.set_cons_zero,List.set_cons_succ]
   refine grow_take 34 (some 67) (v:=?vr34) rfl rfl (by kernel_rfl) (by kernel_rfl) (by kernel_rfl) (fun _ _ _ h=>h) (by rfl) (fun W hW=>?yr34) ?_
   case yr34=>
    go_simp<;>with_reducible rfl
   simp only[Act.put,List.setIfInBounds_toArray,List.set_cons_zero,List.set_cons_succ]
   refine grow_take 35 (some 4) (v:=?vr35) rfl rfl (by kernel_rfl) (by kernel_rfl) (by kernel_rfl) (fun _ _ _ h=>h) (by rfl) (fun W hW=>?yr35) ?_
   case yr35=>
    go_simp<;>with_reducible rfl
   simp only[Act.put,List.setIfInBounds_toArray,List.set_cons_zero,List.set_cons_succ]
   refine grow_done (by kernel_rfl) ?_ _
   go_wp2
   go_ret
   exact⟨by simp,HB8d_10_11_13_18_19_21_26_28_29_32.out⟩
end Go.Proofs.YtaolhefllfnmiaaGreatDoor
