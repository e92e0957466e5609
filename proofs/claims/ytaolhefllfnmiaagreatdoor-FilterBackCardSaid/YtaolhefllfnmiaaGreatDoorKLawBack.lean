/- The walk of FilterBack: whatever the filter and the text, true. By an AI agent. -/
import Derived.Test.YtaolhefllfnmiaaGreatDoorJV
import Derived.Test.YtaolhefllfnmiaaGreatDoorJW
import Derived.Test.YtaolhefllfnmiaaGreatDoorHY
import Derived.Test.YtaolhefllfnmiaaGreatDoorHU
set_option maxRecDepth 100000
set_option maxHeartbeats 64000000
namespace Go.Proofs.YtaolhefllfnmiaaGreatDoor
open Go.RowKit
set_option linter.unusedVariables false
theorem FT.parse_code {q:List UInt8} {t:FT} (h:FT.parseF q=some t):FT.parseC q=0:=by
 unfold FT.parseC
 by_cases hl:16384<q.length
 ·rw [FT.parseF_long hl] at h;cases h
 ·rw [if_neg hl,h]
theorem FT.parse_bad {q:List UInt8} (h:FT.parseF q=none):FT.parseC q≠0:=by
 unfold FT.parseC
 by_cases hl:16384<q.length
 ·rw [if_pos hl];omega
 ·rw [if_neg hl,h];decide
theorem FT.print_yes {t:FT} (h:t.formed=true):t.printV=(t.text,0):=by unfold FT.printV;rw[h];rfl
theorem FT.print_no {t:FT} (h:t.formed=false):t.printV=([],1):=by unfold FT.printV;rw[h];rfl
theorem back_law (t:FT) (s:ByteArray) (w:World) (u0 u1 u2 u3 u4 u5 u6:Value) (hF:FIn w w.heap.size t [u0,u1,u2,u3,u4,u5,u6]) (hs:s.size≤281474976710656) (hT:FM w):
  Calls Tryz.prog 4 #[.agg #[u0,u1,u2,u3,u4,u5,u6],.string s] w fun e w'=>e=.returned (.bool true)∧Below w.heap.size w w':=by
 obtain⟨q,rfl⟩:∃q,s=txt q:=⟨s.data.toList,data_cell s _ rfl⟩
 rw[txt_size] at hs
 have hF0:=hF
 cases t with
 | mk k a v f l any ps=>
 simp only[FIn] at hF
 obtain⟨A,c,D,dd,xs,hcs,_⟩:=hF
 cases hcs
 obtain⟨m,hm⟩:∃m,any.length=m:=⟨_,rfl⟩
 obtain⟨np,hnp⟩:∃np,ps.length=np:=⟨_,rfl⟩
 have hX:=Box7.new w k (txt a) (txt v) (txt f) (txt l) A any.length c D ps.length dd 25
 have hb0:=below1 w (.cells #[.int .i64 k,.string (txt a),.string (txt v),.string (txt f),.string (txt l),.slice A any.length c,.slice D ps.length dd] 25)
 obtain⟨w1,hw1⟩:∃w1,(w.alloc (.cells #[.int .i64 k,.string (txt a),.string (txt v),.string (txt f),.string (txt l),.slice A any.length c,.slice D ps.length dd] 25))=w1:=⟨_,rfl⟩
 rw[hw1] at hX hb0
 have hF1:=hF0.grow hb0
 have hT1:=hT.below hb0
 rw[hm,hnp] at hX hw1 hF1 ⊢
 obtain⟨t0,ht0⟩:∃t0,FT.mk k a v f l any ps=t0:=⟨_,rfl⟩
 rw[ht0] at hF1
 clear hF0 hT hm hnp ht0
 generalize txt a=sa at *
 generalize txt v=sv at *
 generalize txt f=sf at *
 generalize txt l=sl at *
 have HSm:=hide (fun w h=>fSmall_any t0 w (.int .i64 k) (.string sa) (.string sv) (.string sf) (.string sl) (.slice A m c) (.slice D np dd) h)
 have HAw:=hide (fun w hT=>jawake_any w hT)
 have HPs:=hide (fun w hT=>jparse_any q hs w hT)
 obtain⟨S,hS⟩:∃S,txt q=S:=⟨_,rfl⟩
 rw[hS] at HPs ⊢
 have HX1:=hide hX
 have HT1:=hide hT1
 have HF1:=hide hF1
 have HB1:=hide hb0
 have Hw1:=hide hw1
 clear hX hT1 hF1 hb0 hw1 hs hS
 cases hs0:t0.smallB with
 | false=>
  rw[hs0] at HSm
  clear hs0 HPs
  go_enter Tryz.func4,Tryz.ntmps4
  go_wp2_with (go_at_call 7;fail)
  rw[Hw1.out]
  refine (HAw.out _ HT1.out).mono ?_
  rintro e w2 ⟨rfl,hb⟩
  have HX2:=hide (HX1.out.below HX1.out.lt hb)
  have HF2:=hide (HF1.out.grow hb)
  have HT2:=hide (HT1.out.below hb)
  have HB2:=hide (HB1.out.trans (hb.mono HB1.out.size))
  clear hb HX1 HF1 HT1 HB1
  try clear c0 c1 c2 c3 c4 c5 c6
  obtain⟨_,c0,c1,c2,c3,c4,c5,c6⟩:=HX2.out
  go_wp2_with (go_at_call 8;fail)
  refine (HSm.out _ HF2.out).mono ?_
  rintro e w3 ⟨rfl,hb⟩
  have HX3:=hide (HX2.out.below HX2.out.lt hb)
  have HF3:=hide (HF2.out.grow hb)
  have HT3:=hide (HT2.out.below hb)
  have HB3:=hide (HB2.out.trans (hb.mono HB2.out.size))
  clear hb HX2 HF2 HT2 HB2
  try clear c0 c1 c2 c3 c4 c5 c6
  obtain⟨_,c0,c1,c2,c3,c4,c5,c6⟩:=HX3.out
  go_wp2_with (go_at_call 7;fail)
  refine (HAw.out _ HT3.out).mono ?_
  rintro e w9 ⟨rfl,hb⟩
  have hB:=HB3.out.trans (hb.mono HB3.out.size)
  clear hb
  go_wp2
  go_ret
  exact⟨rfl,hB⟩
 | true=>
  rw[hs0] at HSm
  have hwee:t0.wee:=FT.wee_of_small (by unfold FT.smallB at hs0;simpa using hs0)
  have htx:=FT.text_small hs0
  have hPr:=fun w y0 y1 y2 y3 y4 y5 y6 h hM=>jfprint_any t0 htx w y0 y1 y2 y3 y4 y5 y6 h hM
  have HTh:=hide (fun w h=>theirs7_any t0 hwee w (.int .i64 k) (.string sa) (.string sv) (.string sf) (.string sl) (.slice A m c) (.slice D np dd) h)
  have HOu:=hide (fun w y0 y1 y2 y3 y4 y5 y6 h=>ours7_any t0 hwee w y0 y1 y2 y3 y4 y5 y6 h)
  have HRs:=hide (fun w y0 y1 y2 y3 y4 y5 y6 h h'=>rfsame_any t0 t0 w y0 y1 y2 y3 y4 y5 y6 (.int .i64 k) (.string sa) (.string sv) (.string sf) (.string sl) (.slice A m c) (.slice D np dd) h h' true ⟨fun _=>rfl,fun _=>rfl⟩)
  cases hfo:t0.formed with
  | false=>
   rw[FT.print_no hfo] at hPr
   simp only at hPr
   have HPr:=hide hPr
   clear hPr hfo hwee htx hs0 HOu HRs
   go_enter Tryz.func4,Tryz.ntmps4
   go_wp2_with (go_at_call 7;fail)
   rw[Hw1.out]
   refine (HAw.out _ HT1.out).mono ?_
   rintro e w2 ⟨rfl,hb⟩
   have HX2:=hide (HX1.out.below HX1.out.lt hb)
   have HF2:=hide (HF1.out.grow hb)
   have HT2:=hide (HT1.out.below hb)
   have HB2:=hide (HB1.out.trans (hb.mono HB1.out.size))
   clear hb HX1 HF1 HT1 HB1
   try clear c0 c1 c2 c3 c4 c5 c6
   obtain⟨_,c0,c1,c2,c3,c4,c5,c6⟩:=HX2.out
   go_wp2_with (go_at_call 8;fail)
   refine (HSm.out _ HF2.out).mono ?_
   rintro e w3 ⟨rfl,hb⟩
   have HX3:=hide (HX2.out.below HX2.out.lt hb)
   have HF3:=hide (HF2.out.grow hb)
   have HT3:=hide (HT2.out.below hb)
   have HB3:=hide (HB2.out.trans (hb.mono HB2.out.size))
   clear hb HX2 HF2 HT2 HB2
   try clear c0 c1 c2 c3 c4 c5 c6
   obtain⟨_,c0,c1,c2,c3,c4,c5,c6⟩:=HX3.out
   go_wp2_with (go_at_call 10;fail)
   refine (HTh.out _ HF3.out).mono ?_
   rintro e w4 hpost
   obtain⟨y0,y1,y2,y3,y4,y5,y6,rfl,hy,hb⟩:=hpost.out
   have HA4:=hide (hy.fin (B:=w4.heap.size) (fun b hb=>hb.2))
   clear hy hpost
   have HX4:=hide (HX3.out.below HX3.out.lt hb)
   have HF4:=hide (HF3.out.grow hb)
   have HT4:=hide (HT3.out.below hb)
   have HB4:=hide (HB3.out.trans (hb.mono HB3.out.size))
   clear hb HX3 HF3 HT3 HB3
   try clear c0 c1 c2 c3 c4 c5 c6
   obtain⟨_,c0,c1,c2,c3,c4,c5,c6⟩:=HX4.out
   go_wp2_with (go_at_call 9;fail)
   refine (HPr.out _ y0 y1 y2 y3 y4 y5 y6 HA4.out HT4.out.marks).mono ?_
   rintro e w5 ⟨rfl,hb⟩
   have HX5:=hide (HX4.out.below HX4.out.lt hb)
   have HF5:=hide (HF4.out.grow hb)
   have HT5:=hide (HT4.out.below hb)
   have HB5:=hide (HB4.out.trans (hb.mono HB4.out.size))
   clear hb HX4 HF4 HT4 HB4
   clear HA4 HTh HPr HSm
   try clear c0 c1 c2 c3 c4 c5 c6
   obtain⟨_,c0,c1,c2,c3,c4,c5,c6⟩:=HX5.out
   go_wp2_with (go_at_call 18;fail)
   refine (HPs.out _ HT5.out).mono ?_
   rintro e wA hpost
   obtain⟨x,xv0,xv1,xv2,xv3,xv4,xv5,xv6,rfl,hfin,hb,ht⟩:=hpost.out
   clear hpost
   have hfx:=hfin.fin (B:=wA.heap.size) (fun b hb=>hb.2)
   clear hfin
   obtain⟨xk,xa,xb,xf,xl,xA,xm,xc,xD,xn,xd,rfl,rfl,rfl,rfl,rfl,rfl,rfl⟩:=hfx.shape
   have HXA:=hide (HX5.out.below HX5.out.lt hb)
   have HFA:=hide (HF5.out.grow hb)
   have HTA:=hide (HT5.out.below hb)
   have HBA:=hide (HB5.out.trans (hb.mono HB5.out.size))
   clear hb HX5 HF5 HT5 HB5
   cases hq:FT.parseF q with
   | none=>
    have hne:=FT.parse_bad hq
    obtain⟨Cq,hCq⟩:∃Cq,FT.parseC q=Cq:=⟨_,rfl⟩
    rw[hCq] at hne ⊢
    have z1:((Cq:Int)==0)=false:=beq_false_of_ne hne
    have z2:((Cq:Int)!=0)=true:=by unfold bne;rw[z1];rfl
    clear hne hCq ht hq
    have hbs:=below1 wA (.cells #[.int .i64 xk,.string xa,.string xb,.string xf,.string xl,.slice xA xm xc,.slice xD xn xd] 33)
    have hpx:=Box7.new wA xk xa xb xf xl xA xm xc xD xn xd 33
    obtain⟨wAs,hwAs⟩:∃wAs,wA.alloc (.cells #[.int .i64 xk,.string xa,.string xb,.string xf,.string xl,.slice xA xm xc,.slice xD xn xd] 33)=wAs:=⟨_,rfl⟩
    rw[hwAs] at hbs hpx
    have hb:=hbs
    have HYx:=hide hpx
    have HGx:=hide (hfx.grow hbs)
    have HWAs:=hide hwAs
    have HXAs:=hide (HXA.out.below HXA.out.lt hb)
    have HFAs:=hide (HFA.out.grow hb)
    have HTAs:=hide (HTA.out.below hb)
    have HBAs:=hide (HBA.out.trans (hb.mono HBA.out.size))
    clear hb HXA HFA HTA HBA
    clear hbs hfx hwAs hpx
    clear HYx HGx
    go_wp2
    go_ret
    exact⟨rfl,by rw[HWAs.out];exact HBAs.out⟩
   | some x2=>
    obtain rfl:=ht _ hq
    obtain⟨hlen,hweex⟩:=FT.parse_len hq
    have hfx2:=FT.parse_formed hq
    have hpr:=FT.print_yes hfx2
    rw[FT.parse_code hq]
    have hpt:=FT.parse_text hfx2 hlen
    have hpc:=FT.parse_code hpt
    have hPx:=fun w y0 y1 y2 y3 y4 y5 y6 h hM=>jfprint_any x (fun _=>Nat.le_trans hlen (by omega)) w y0 y1 y2 y3 y4 y5 y6 h hM
    rw[hpr] at hPx
    simp only at hPx
    have hPy:=fun w hT=>jparse_any (FT.text x) (Nat.le_trans hlen (by omega)) w hT
    obtain⟨U,hU⟩:∃U,txt (FT.text x)=U:=⟨_,rfl⟩
    have hUs:U.size≤16384:=by rw[←hU,txt_size];exact hlen
    rw[hU] at hPx hPy
    have z3:¬((16384:Int)<(U.size:Int)):=by omega
    have HPx:=hide hPx
    have HPy:=hide hPy
    have HPt:=hide hpt
    have HPc:=hide hpc
    have HWx:=hide hweex
    have HSa:=hide (fun w y0 y1 y2 y3 y4 y5 y6 z0 z1 z2 z3 z4 z5 z6 h h'=>jsame_any x hweex x w y0 y1 y2 y3 y4 y5 y6 z0 z1 z2 z3 z4 z5 z6 h h' true ⟨fun _=>rfl,fun _=>rfl⟩)
    clear ht hq hlen hweex hfx2 hpr hpt hpc hPx hPy hU hUs
    have hbs:=below1 wA (.cells #[.int .i64 xk,.string xa,.string xb,.string xf,.string xl,.slice xA xm xc,.slice xD xn xd] 33)
    have hpx:=Box7.new wA xk xa xb xf xl xA xm xc xD xn xd 33
    obtain⟨wAs,hwAs⟩:∃wAs,wA.alloc (.cells #[.int .i64 xk,.string xa,.string xb,.string xf,.string xl,.slice xA xm xc,.slice xD xn xd] 33)=wAs:=⟨_,rfl⟩
    rw[hwAs] at hbs hpx
    have hb:=hbs
    have HYx:=hide hpx
    have HGx:=hide (hfx.grow hbs)
    have HWAs:=hide hwAs
    have HXAs:=hide (HXA.out.below HXA.out.lt hb)
    have HFAs:=hide (HFA.out.grow hb)
    have HTAs:=hide (HTA.out.below hb)
    have HBAs:=hide (HBA.out.trans (hb.mono HBA.out.size))
    clear hb HXA HFA HTA HBA
    clear hbs hfx hwAs hpx
    clear HXAs HFAs
    try clear c0 c1 c2 c3 c4 c5 c6
    obtain⟨_,c0,c1,c2,c3,c4,c5,c6⟩:=HYx.out
    go_wp2_with (go_at_call 9;fail)
    rw[HWAs.out]
    refine (HPx.out _ _ _ _ _ _ _ _ HGx.out HTAs.out.marks).mono ?_
    rintro e wC ⟨rfl,hb⟩
    have HYxC:=hide (HYx.out.below HYx.out.lt hb)
    have HGxC:=hide (HGx.out.grow hb)
    have HTC:=hide (HTAs.out.below hb)
    have HBC:=hide (HBAs.out.trans (hb.mono HBAs.out.size))
    clear hb HTAs HBAs
    clear HYx HGx c0 c1 c2 c3 c4 c5 c6
    obtain⟨_,c0,c1,c2,c3,c4,c5,c6⟩:=HYxC.out
    go_wp2_with (go_at_call 18;fail)
    refine (HPy.out _ HTC.out).mono ?_
    rintro e wD hpost
    obtain⟨y,yv0,yv1,yv2,yv3,yv4,yv5,yv6,rfl,hfin,hb,ht⟩:=hpost.out
    clear hpost
    have hfy:=hfin.fin (B:=wD.heap.size) (fun b hb=>hb.2)
    clear hfin
    obtain⟨yk,ya,yb,yf,yl,yA,ym,yc,yD,yn,yd,rfl,rfl,rfl,rfl,rfl,rfl,rfl⟩:=hfy.shape
    have HYxD:=hide (HYxC.out.below HYxC.out.lt hb)
    have HGxD:=hide (HGxC.out.grow hb)
    have HTD:=hide (HTC.out.below hb)
    have HBD:=hide (HBC.out.trans (hb.mono HBC.out.size))
    clear hb HTC HBC
    obtain rfl:=ht _ HPt.out
    rw[HPc.out]
    clear ht HYxC HGxC c0 c1 c2 c3 c4 c5 c6
    have hbz:=below1 wD (.cells #[.int .i64 yk,.string ya,.string yb,.string yf,.string yl,.slice yA ym yc,.slice yD yn yd] 33)
    have HYxE:=hide (HYxD.out.below HYxD.out.lt hbz)
    have HGxE:=hide (HGxD.out.grow hbz)
    clear HYxD HGxD
    have hbs:=below1 wD (.cells #[.int .i64 yk,.string ya,.string yb,.string yf,.string yl,.slice yA ym yc,.slice yD yn yd] 33)
    have hpy:=Box7.new wD yk ya yb yf yl yA ym yc yD yn yd 33
    obtain⟨wE,hwE⟩:∃wE,wD.alloc (.cells #[.int .i64 yk,.string ya,.string yb,.string yf,.string yl,.slice yA ym yc,.slice yD yn yd] 33)=wE:=⟨_,rfl⟩
    rw[hwE] at hbs hpy
    have hb:=hbs
    have HYy:=hide hpy
    have HGy:=hide (hfy.grow hbs)
    have HWE:=hide hwE
    have HTE:=hide (HTD.out.below hb)
    have HBE:=hide (HBD.out.trans (hb.mono HBD.out.size))
    clear hb HTD HBD
    clear hbs hfy hwE hpy
    rw[HWE.out] at HYxE HGxE hbz
    clear hbz
    go_upto_region 13 with fail
    rw[HWE.out]
    obtain⟨_,c0,c1,c2,c3,c4,c5,c6⟩:=HYxE.out
    obtain⟨_,d0,d1,d2,d3,d4,d5,d6⟩:=HYy.out
    go_wp2_with (go_at_call 16;fail)
    refine (HSa.out _ _ _ _ _ _ _ _ _ _ _ _ _ _ _ HGxE.out HGy.out).mono ?_
    rintro e wF ⟨rfl,hb⟩
    have hB:=HBE.out.trans (hb.mono HBE.out.size)
    clear hb c0 c1 c2 c3 c4 c5 c6 d0 d1 d2 d3 d4 d5 d6
    go_wp2
    go_ret
    exact⟨rfl,hB⟩
  | true=>
   rw[FT.print_yes hfo] at hPr
   simp only at hPr
   obtain⟨U0,hU0⟩:∃U0,txt (FT.text t0)=U0:=⟨_,rfl⟩
   have hUs0:U0.size=(FT.text t0).length:=by rw[←hU0,txt_size]
   rw[hU0] at hPr
   have HPr:=hide hPr
   by_cases hln:(FT.text t0).length≤16384
   ·have hpt:=FT.parse_text hfo hln
    have hpc:=FT.parse_code hpt
    have hPy:=fun w hT=>jparse_any (FT.text t0) (Nat.le_trans hln (by omega)) w hT
    rw[hU0] at hPy
    have HPu:=hide hPy
    have HPt0:=hide hpt
    have HPc0:=hide hpc
    have z0:((U0.size:Int)≤16384):=by omega
    clear hPr hfo hwee htx hs0 hpt hpc hPy hU0 hUs0 hln
    go_enter Tryz.func4,Tryz.ntmps4
    go_wp2_with (go_at_call 7;fail)
    rw[Hw1.out]
    refine (HAw.out _ HT1.out).mono ?_
    rintro e w2 ⟨rfl,hb⟩
    have HX2:=hide (HX1.out.below HX1.out.lt hb)
    have HF2:=hide (HF1.out.grow hb)
    have HT2:=hide (HT1.out.below hb)
    have HB2:=hide (HB1.out.trans (hb.mono HB1.out.size))
    clear hb HX1 HF1 HT1 HB1
    try clear c0 c1 c2 c3 c4 c5 c6
    obtain⟨_,c0,c1,c2,c3,c4,c5,c6⟩:=HX2.out
    go_wp2_with (go_at_call 8;fail)
    refine (HSm.out _ HF2.out).mono ?_
    rintro e w3 ⟨rfl,hb⟩
    have HX3:=hide (HX2.out.below HX2.out.lt hb)
    have HF3:=hide (HF2.out.grow hb)
    have HT3:=hide (HT2.out.below hb)
    have HB3:=hide (HB2.out.trans (hb.mono HB2.out.size))
    clear hb HX2 HF2 HT2 HB2
    try clear c0 c1 c2 c3 c4 c5 c6
    obtain⟨_,c0,c1,c2,c3,c4,c5,c6⟩:=HX3.out
    go_wp2_with (go_at_call 10;fail)
    refine (HTh.out _ HF3.out).mono ?_
    rintro e w4 hpost
    obtain⟨y0,y1,y2,y3,y4,y5,y6,rfl,hy,hb⟩:=hpost.out
    have HA4:=hide (hy.fin (B:=w4.heap.size) (fun b hb=>hb.2))
    clear hy hpost
    have HX4:=hide (HX3.out.below HX3.out.lt hb)
    have HF4:=hide (HF3.out.grow hb)
    have HT4:=hide (HT3.out.below hb)
    have HB4:=hide (HB3.out.trans (hb.mono HB3.out.size))
    clear hb HX3 HF3 HT3 HB3
    try clear c0 c1 c2 c3 c4 c5 c6
    obtain⟨_,c0,c1,c2,c3,c4,c5,c6⟩:=HX4.out
    go_wp2_with (go_at_call 9;fail)
    refine (HPr.out _ y0 y1 y2 y3 y4 y5 y6 HA4.out HT4.out.marks).mono ?_
    rintro e w5 ⟨rfl,hb⟩
    have HX5:=hide (HX4.out.below HX4.out.lt hb)
    have HF5:=hide (HF4.out.grow hb)
    have HT5:=hide (HT4.out.below hb)
    have HB5:=hide (HB4.out.trans (hb.mono HB4.out.size))
    clear hb HX4 HF4 HT4 HB4
    clear HA4 HTh HPr HSm
    try clear c0 c1 c2 c3 c4 c5 c6
    obtain⟨_,c0,c1,c2,c3,c4,c5,c6⟩:=HX5.out
    go_wp2_with (go_at_call 18;fail)
    refine (HPu.out _ HT5.out).mono ?_
    rintro e w6 hpost
    obtain⟨g,gv0,gv1,gv2,gv3,gv4,gv5,gv6,rfl,hfin,hb,ht⟩:=hpost.out
    clear hpost
    have hfg:=hfin.fin (B:=w6.heap.size) (fun b hb=>hb.2)
    clear hfin
    obtain⟨gk,ga,gb,gf,gl,gA,gm,gc,gD,gn,gd,rfl,rfl,rfl,rfl,rfl,rfl,rfl⟩:=hfg.shape
    have HX6:=hide (HX5.out.below HX5.out.lt hb)
    have HF6:=hide (HF5.out.grow hb)
    have HT6:=hide (HT5.out.below hb)
    have HB6:=hide (HB5.out.trans (hb.mono HB5.out.size))
    clear hb HX5 HF5 HT5 HB5
    obtain rfl:=ht _ HPt0.out
    rw[HPc0.out]
    clear ht z0
    have hbs:=below1 w6 (.cells #[.int .i64 gk,.string ga,.string gb,.string gf,.string gl,.slice gA gm gc,.slice gD gn gd] 33)
    have hpg:=Box7.new w6 gk ga gb gf gl gA gm gc gD gn gd 33
    obtain⟨w7,hw7⟩:∃w7,w6.alloc (.cells #[.int .i64 gk,.string ga,.string gb,.string gf,.string gl,.slice gA gm gc,.slice gD gn gd] 33)=w7:=⟨_,rfl⟩
    rw[hw7] at hbs hpg
    have hb:=hbs
    have HYg:=hide hpg
    have HGg:=hide (hfg.grow hbs)
    have HW7:=hide hw7
    have HX7:=hide (HX6.out.below HX6.out.lt hb)
    have HF7:=hide (HF6.out.grow hb)
    have HT7:=hide (HT6.out.below hb)
    have HB7:=hide (HB6.out.trans (hb.mono HB6.out.size))
    clear hb HX6 HF6 HT6 HB6
    clear hbs hfg hw7 hpg
    try clear c0 c1 c2 c3 c4 c5 c6
    go_wp2_with fail
    rw[HW7.out]
    refine grow_begin (by kernel_rfl) ?_
    have hb:Below w7.heap.size w7 w7.drew:=(Below.refl _ _).drew
    have HYg7:=hide (HYg.out.below HYg.out.lt hb)
    have HGg7:=hide (HGg.out.grow hb)
    have HX7d:=hide (HX7.out.below HX7.out.lt hb)
    have HF7d:=hide (HF7.out.grow hb)
    have HT7d:=hide (HT7.out.below hb)
    have HB7d:=hide (HB7.out.trans (hb.mono HB7.out.size))
    clear hb HX7 HF7 HT7 HB7
    clear HYg HGg
    generalize w7.drew=wd at *
    refine grow_take 0 (some 41) (v:=?vr0) rfl rfl (by kernel_rfl) (by kernel_rfl) (by kernel_rfl) (fun _ _ _ h=>h) (by rfl) (fun W hW=>?yr0) ?_
    case yr0=>
     go_simp<;>with_reducible rfl
    simp only[Act.put,List.setIfInBounds_toArray,List.set_cons_zero,List.set_cons_succ]
    refine grow_take 1 (some 42) (v:=?vr1) rfl rfl (by kernel_rfl) (by kernel_rfl) (by kernel_rfl) (fun _ _ _ h=>h) (by rfl) (fun W hW=>?yr1) ?_
    case yr1=>
     go_simp<;>with_reducible rfl
    simp only[Act.put,List.setIfInBounds_toArray,List.set_cons_zero,List.set_cons_succ]
    refine grow_take 2 (some 43) (v:=?vr2) rfl rfl (by kernel_rfl) (by kernel_rfl) (by kernel_rfl) (fun _ _ _ h=>h) (by rfl) (fun W hW=>?yr2) ?_
    case yr2=>
     go_simp<;>with_reducible rfl
    simp only[Act.put,List.setIfInBounds_toArray,List.set_cons_zero,List.set_cons_succ]
    refine grow_take 3 (some 44) (v:=?vr3) rfl rfl (by kernel_rfl) (by kernel_rfl) (by kernel_rfl) (fun _ _ _ h=>h) (by rfl) (fun W hW=>?yr3) ?_
    case yr3=>
     obtain⟨_,d0,d1,d2,d3,d4,d5,d6⟩:=HYg7.out.below HYg7.out.lt hW
     go_simp<;>with_reducible rfl
    simp only[Act.put,List.setIfInBounds_toArray,List.set_cons_zero,List.set_cons_succ]
    refine grow_take 5 (some 46) (v:=?vr5) rfl rfl (by kernel_rfl) (by kernel_rfl) (by kernel_rfl) (fun _ _ _ h=>h) (by rfl) (fun W hW=>?yr5) ?_
    case yr5=>
     obtain⟨_,d0,d1,d2,d3,d4,d5,d6⟩:=HX7d.out.below HX7d.out.lt hW
     go_simp<;>with_reducible rfl
    simp only[Act.put,List.setIfInBounds_toArray,List.set_cons_zero,List.set_cons_succ]
    refine grow_only 4 rfl (by kernel_rfl) (fun K hK=>?_)
    go_simp
    refine (HOu.out _ _ _ _ _ _ _ _ HGg7.out).mono ?_
    rintro e wo hpost
    obtain⟨o0,o1,o2,o3,o4,o5,o6,rfl,hy,hb⟩:=hpost.out
    have HO:=hide (hy.fin (B:=wo.heap.size) (fun b hb=>hb.2))
    clear hy hpost
    refine hK.out _ _ hb ?_
    clear hK K
    have HXo:=hide (HX7d.out.below HX7d.out.lt hb)
    have HFo:=hide (HF7d.out.grow hb)
    have HTo:=hide (HT7d.out.below hb)
    have HBo:=hide (HB7d.out.trans (hb.mono HB7d.out.size))
    clear hb HX7d HF7d HT7d HB7d
    try simp only[Act.put,List.setIfInBounds_toArray,List.set_cons_zero,List.set_cons_succ]
    refine grow_only 6 rfl (by kernel_rfl) (fun K hK=>?_)
    go_simp
    refine (HRs.out _ _ _ _ _ _ _ _ HO.out HFo.out).mono ?_
    rintro e wp ⟨rfl,hb⟩
    refine hK.out _ _ hb ?_
    clear hK K HO
    have HXp:=hide (HXo.out.below HXo.out.lt hb)
    have HFp:=hide (HFo.out.grow hb)
    have HTp:=hide (HTo.out.below hb)
    have HBp:=hide (HBo.out.trans (hb.mono HBo.out.size))
    clear hb HXo HFo HTo HBo
    try simp only[Act.put,List.setIfInBounds_toArray,List.set_cons_zero,List.set_cons_succ]
    refine grow_take 7 (some 48) (v:=?vr7) rfl rfl (by kernel_rfl) (by kernel_rfl) (by kernel_rfl) (fun _ _ _ h=>h) (by rfl) (fun W hW=>?yr7) ?_
    case yr7=>
     go_simp<;>with_reducible rfl
    simp only[Act.put,List.setIfInBounds_toArray,List.set_cons_zero,List.set_cons_succ]
    refine grow_take 8 (some 49) (v:=?vr8) rfl rfl (by kernel_rfl) (by kernel_rfl) (by kernel_rfl) (fun _ _ _ h=>h) (by rfl) (fun W hW=>?yr8) ?_
    case yr8=>
     go_simp<;>with_reducible rfl
    simp only[Act.put,List.setIfInBounds_toArray,List.set_cons_zero,List.set_cons_succ]
    refine grow_done (by kernel_rfl) ?_ _
    clear HYg7 HGg7 HOu HRs HPu HPt0 HPc0
    clear HXp HFp
    go_wp2_with (go_at_call 18;fail)
    refine (HPs.out _ HTp.out).mono ?_
    rintro e wA hpost
    obtain⟨x,xv0,xv1,xv2,xv3,xv4,xv5,xv6,rfl,hfin,hb,ht⟩:=hpost.out
    clear hpost
    have hfx:=hfin.fin (B:=wA.heap.size) (fun b hb=>hb.2)
    clear hfin
    obtain⟨xk,xa,xb,xf,xl,xA,xm,xc,xD,xn,xd,rfl,rfl,rfl,rfl,rfl,rfl,rfl⟩:=hfx.shape
    have HTA:=hide (HTp.out.below hb)
    have HBA:=hide (HBp.out.trans (hb.mono HBp.out.size))
    clear hb HTp HBp
    cases hq:FT.parseF q with
    | none=>
     have hne:=FT.parse_bad hq
     obtain⟨Cq,hCq⟩:∃Cq,FT.parseC q=Cq:=⟨_,rfl⟩
     rw[hCq] at hne ⊢
     have z1:((Cq:Int)==0)=false:=beq_false_of_ne hne
     have z2:((Cq:Int)!=0)=true:=by unfold bne;rw[z1];rfl
     clear hne hCq ht hq
     have hbs:=below1 wA (.cells #[.int .i64 xk,.string xa,.string xb,.string xf,.string xl,.slice xA xm xc,.slice xD xn xd] 33)
     have hpx:=Box7.new wA xk xa xb xf xl xA xm xc xD xn xd 33
     obtain⟨wAs,hwAs⟩:∃wAs,wA.alloc (.cells #[.int .i64 xk,.string xa,.string xb,.string xf,.string xl,.slice xA xm xc,.slice xD xn xd] 33)=wAs:=⟨_,rfl⟩
     rw[hwAs] at hbs hpx
     have hb:=hbs
     have HYx:=hide hpx
     have HGx:=hide (hfx.grow hbs)
     have HWAs:=hide hwAs
     have HTAs:=hide (HTA.out.below hb)
     have HBAs:=hide (HBA.out.trans (hb.mono HBA.out.size))
     clear hb HTA HBA
     clear hbs hfx hwAs hpx
     clear HYx HGx
     go_wp2
     go_ret
     exact⟨rfl,by rw[HWAs.out];exact HBAs.out⟩
    | some x2=>
     obtain rfl:=ht _ hq
     obtain⟨hlen,hweex⟩:=FT.parse_len hq
     have hfx2:=FT.parse_formed hq
     have hpr:=FT.print_yes hfx2
     rw[FT.parse_code hq]
     have hpt:=FT.parse_text hfx2 hlen
     have hpc:=FT.parse_code hpt
     have hPx:=fun w y0 y1 y2 y3 y4 y5 y6 h hM=>jfprint_any x (fun _=>Nat.le_trans hlen (by omega)) w y0 y1 y2 y3 y4 y5 y6 h hM
     rw[hpr] at hPx
     simp only at hPx
     have hPy:=fun w hT=>jparse_any (FT.text x) (Nat.le_trans hlen (by omega)) w hT
     obtain⟨U,hU⟩:∃U,txt (FT.text x)=U:=⟨_,rfl⟩
     have hUs:U.size≤16384:=by rw[←hU,txt_size];exact hlen
     rw[hU] at hPx hPy
     have z3:¬((16384:Int)<(U.size:Int)):=by omega
     have HPx:=hide hPx
     have HPy:=hide hPy
     have HPt:=hide hpt
     have HPc:=hide hpc
     have HWx:=hide hweex
     have HSa:=hide (fun w y0 y1 y2 y3 y4 y5 y6 z0 z1 z2 z3 z4 z5 z6 h h'=>jsame_any x hweex x w y0 y1 y2 y3 y4 y5 y6 z0 z1 z2 z3 z4 z5 z6 h h' true ⟨fun _=>rfl,fun _=>rfl⟩)
     clear ht hq hlen hweex hfx2 hpr hpt hpc hPx hPy hU hUs
     have hbs:=below1 wA (.cells #[.int .i64 xk,.string xa,.string xb,.string xf,.string xl,.slice xA xm xc,.slice xD xn xd] 33)
     have hpx:=Box7.new wA xk xa xb xf xl xA xm xc xD xn xd 33
     obtain⟨wAs,hwAs⟩:∃wAs,wA.alloc (.cells #[.int .i64 xk,.string xa,.string xb,.string xf,.string xl,.slice xA xm xc,.slice xD xn xd] 33)=wAs:=⟨_,rfl⟩
     rw[hwAs] at hbs hpx
     have hb:=hbs
     have HYx:=hide hpx
     have HGx:=hide (hfx.grow hbs)
     have HWAs:=hide hwAs
     have HTAs:=hide (HTA.out.below hb)
     have HBAs:=hide (HBA.out.trans (hb.mono HBA.out.size))
     clear hb HTA HBA
     clear hbs hfx hwAs hpx
     try clear c0 c1 c2 c3 c4 c5 c6
     obtain⟨_,c0,c1,c2,c3,c4,c5,c6⟩:=HYx.out
     go_wp2_with (go_at_call 9;fail)
     rw[HWAs.out]
     refine (HPx.out _ _ _ _ _ _ _ _ HGx.out HTAs.out.marks).mono ?_
     rintro e wC ⟨rfl,hb⟩
     have HYxC:=hide (HYx.out.below HYx.out.lt hb)
     have HGxC:=hide (HGx.out.grow hb)
     have HTC:=hide (HTAs.out.below hb)
     have HBC:=hide (HBAs.out.trans (hb.mono HBAs.out.size))
     clear hb HTAs HBAs
     clear HYx HGx c0 c1 c2 c3 c4 c5 c6
     obtain⟨_,c0,c1,c2,c3,c4,c5,c6⟩:=HYxC.out
     go_wp2_with (go_at_call 18;fail)
     refine (HPy.out _ HTC.out).mono ?_
     rintro e wD hpost
     obtain⟨y,yv0,yv1,yv2,yv3,yv4,yv5,yv6,rfl,hfin,hb,ht⟩:=hpost.out
     clear hpost
     have hfy:=hfin.fin (B:=wD.heap.size) (fun b hb=>hb.2)
     clear hfin
     obtain⟨yk,ya,yb,yf,yl,yA,ym,yc,yD,yn,yd,rfl,rfl,rfl,rfl,rfl,rfl,rfl⟩:=hfy.shape
     have HYxD:=hide (HYxC.out.below HYxC.out.lt hb)
     have HGxD:=hide (HGxC.out.grow hb)
     have HTD:=hide (HTC.out.below hb)
     have HBD:=hide (HBC.out.trans (hb.mono HBC.out.size))
     clear hb HTC HBC
     obtain rfl:=ht _ HPt.out
     rw[HPc.out]
     clear ht HYxC HGxC c0 c1 c2 c3 c4 c5 c6
     have hbz:=below1 wD (.cells #[.int .i64 yk,.string ya,.string yb,.string yf,.string yl,.slice yA ym yc,.slice yD yn yd] 33)
     have HYxE:=hide (HYxD.out.below HYxD.out.lt hbz)
     have HGxE:=hide (HGxD.out.grow hbz)
     clear HYxD HGxD
     have hbs:=below1 wD (.cells #[.int .i64 yk,.string ya,.string yb,.string yf,.string yl,.slice yA ym yc,.slice yD yn yd] 33)
     have hpy:=Box7.new wD yk ya yb yf yl yA ym yc yD yn yd 33
     obtain⟨wE,hwE⟩:∃wE,wD.alloc (.cells #[.int .i64 yk,.string ya,.string yb,.string yf,.string yl,.slice yA ym yc,.slice yD yn yd] 33)=wE:=⟨_,rfl⟩
     rw[hwE] at hbs hpy
     have hb:=hbs
     have HYy:=hide hpy
     have HGy:=hide (hfy.grow hbs)
     have HWE:=hide hwE
     have HTE:=hide (HTD.out.below hb)
     have HBE:=hide (HBD.out.trans (hb.mono HBD.out.size))
     clear hb HTD HBD
     clear hbs hfy hwE hpy
     rw[HWE.out] at HYxE HGxE hbz
     clear hbz
     go_upto_region 13 with fail
     rw[HWE.out]
     obtain⟨_,c0,c1,c2,c3,c4,c5,c6⟩:=HYxE.out
     obtain⟨_,d0,d1,d2,d3,d4,d5,d6⟩:=HYy.out
     go_wp2_with (go_at_call 16;fail)
     refine (HSa.out _ _ _ _ _ _ _ _ _ _ _ _ _ _ _ HGxE.out HGy.out).mono ?_
     rintro e wF ⟨rfl,hb⟩
     have hB:=HBE.out.trans (hb.mono HBE.out.size)
     clear hb c0 c1 c2 c3 c4 c5 c6 d0 d1 d2 d3 d4 d5 d6
     go_wp2
     go_ret
     exact⟨rfl,hB⟩
   ·have z0:¬((U0.size:Int)≤16384):=by omega
    clear hPr hfo hwee htx hs0 hU0 hUs0 hln HOu HRs
    go_enter Tryz.func4,Tryz.ntmps4
    go_wp2_with (go_at_call 7;fail)
    rw[Hw1.out]
    refine (HAw.out _ HT1.out).mono ?_
    rintro e w2 ⟨rfl,hb⟩
    have HX2:=hide (HX1.out.below HX1.out.lt hb)
    have HF2:=hide (HF1.out.grow hb)
    have HT2:=hide (HT1.out.below hb)
    have HB2:=hide (HB1.out.trans (hb.mono HB1.out.size))
    clear hb HX1 HF1 HT1 HB1
    try clear c0 c1 c2 c3 c4 c5 c6
    obtain⟨_,c0,c1,c2,c3,c4,c5,c6⟩:=HX2.out
    go_wp2_with (go_at_call 8;fail)
    refine (HSm.out _ HF2.out).mono ?_
    rintro e w3 ⟨rfl,hb⟩
    have HX3:=hide (HX2.out.below HX2.out.lt hb)
    have HF3:=hide (HF2.out.grow hb)
    have HT3:=hide (HT2.out.below hb)
    have HB3:=hide (HB2.out.trans (hb.mono HB2.out.size))
    clear hb HX2 HF2 HT2 HB2
    try clear c0 c1 c2 c3 c4 c5 c6
    obtain⟨_,c0,c1,c2,c3,c4,c5,c6⟩:=HX3.out
    go_wp2_with (go_at_call 10;fail)
    refine (HTh.out _ HF3.out).mono ?_
    rintro e w4 hpost
    obtain⟨y0,y1,y2,y3,y4,y5,y6,rfl,hy,hb⟩:=hpost.out
    have HA4:=hide (hy.fin (B:=w4.heap.size) (fun b hb=>hb.2))
    clear hy hpost
    have HX4:=hide (HX3.out.below HX3.out.lt hb)
    have HF4:=hide (HF3.out.grow hb)
    have HT4:=hide (HT3.out.below hb)
    have HB4:=hide (HB3.out.trans (hb.mono HB3.out.size))
    clear hb HX3 HF3 HT3 HB3
    try clear c0 c1 c2 c3 c4 c5 c6
    obtain⟨_,c0,c1,c2,c3,c4,c5,c6⟩:=HX4.out
    go_wp2_with (go_at_call 9;fail)
    refine (HPr.out _ y0 y1 y2 y3 y4 y5 y6 HA4.out HT4.out.marks).mono ?_
    rintro e w5 ⟨rfl,hb⟩
    have HX5:=hide (HX4.out.below HX4.out.lt hb)
    have HF5:=hide (HF4.out.grow hb)
    have HT5:=hide (HT4.out.below hb)
    have HB5:=hide (HB4.out.trans (hb.mono HB4.out.size))
    clear hb HX4 HF4 HT4 HB4
    clear HA4 HTh HPr HSm
    try clear c0 c1 c2 c3 c4 c5 c6
    obtain⟨_,c0,c1,c2,c3,c4,c5,c6⟩:=HX5.out
    go_wp2_with (go_at_call 18;fail)
    refine (HPs.out _ HT5.out).mono ?_
    rintro e wA hpost
    obtain⟨x,xv0,xv1,xv2,xv3,xv4,xv5,xv6,rfl,hfin,hb,ht⟩:=hpost.out
    clear hpost
    have hfx:=hfin.fin (B:=wA.heap.size) (fun b hb=>hb.2)
    clear hfin
    obtain⟨xk,xa,xb,xf,xl,xA,xm,xc,xD,xn,xd,rfl,rfl,rfl,rfl,rfl,rfl,rfl⟩:=hfx.shape
    have HXA:=hide (HX5.out.below HX5.out.lt hb)
    have HFA:=hide (HF5.out.grow hb)
    have HTA:=hide (HT5.out.below hb)
    have HBA:=hide (HB5.out.trans (hb.mono HB5.out.size))
    clear hb HX5 HF5 HT5 HB5
    cases hq:FT.parseF q with
    | none=>
     have hne:=FT.parse_bad hq
     obtain⟨Cq,hCq⟩:∃Cq,FT.parseC q=Cq:=⟨_,rfl⟩
     rw[hCq] at hne ⊢
     have z1:((Cq:Int)==0)=false:=beq_false_of_ne hne
     have z2:((Cq:Int)!=0)=true:=by unfold bne;rw[z1];rfl
     clear hne hCq ht hq
     have hbs:=below1 wA (.cells #[.int .i64 xk,.string xa,.string xb,.string xf,.string xl,.slice xA xm xc,.slice xD xn xd] 33)
     have hpx:=Box7.new wA xk xa xb xf xl xA xm xc xD xn xd 33
     obtain⟨wAs,hwAs⟩:∃wAs,wA.alloc (.cells #[.int .i64 xk,.string xa,.string xb,.string xf,.string xl,.slice xA xm xc,.slice xD xn xd] 33)=wAs:=⟨_,rfl⟩
     rw[hwAs] at hbs hpx
     have hb:=hbs
     have HYx:=hide hpx
     have HGx:=hide (hfx.grow hbs)
     have HWAs:=hide hwAs
     have HXAs:=hide (HXA.out.below HXA.out.lt hb)
     have HFAs:=hide (HFA.out.grow hb)
     have HTAs:=hide (HTA.out.below hb)
     have HBAs:=hide (HBA.out.trans (hb.mono HBA.out.size))
     clear hb HXA HFA HTA HBA
     clear hbs hfx hwAs hpx
     clear HYx HGx
     go_wp2
     go_ret
     exact⟨rfl,by rw[HWAs.out];exact HBAs.out⟩
    | some x2=>
     obtain rfl:=ht _ hq
     obtain⟨hlen,hweex⟩:=FT.parse_len hq
     have hfx2:=FT.parse_formed hq
     have hpr:=FT.print_yes hfx2
     rw[FT.parse_code hq]
     have hpt:=FT.parse_text hfx2 hlen
     have hpc:=FT.parse_code hpt
     have hPx:=fun w y0 y1 y2 y3 y4 y5 y6 h hM=>jfprint_any x (fun _=>Nat.le_trans hlen (by omega)) w y0 y1 y2 y3 y4 y5 y6 h hM
     rw[hpr] at hPx
     simp only at hPx
     have hPy:=fun w hT=>jparse_any (FT.text x) (Nat.le_trans hlen (by omega)) w hT
     obtain⟨U,hU⟩:∃U,txt (FT.text x)=U:=⟨_,rfl⟩
     have hUs:U.size≤16384:=by rw[←hU,txt_size];exact hlen
     rw[hU] at hPx hPy
     have z3:¬((16384:Int)<(U.size:Int)):=by omega
     have HPx:=hide hPx
     have HPy:=hide hPy
     have HPt:=hide hpt
     have HPc:=hide hpc
     have HWx:=hide hweex
     have HSa:=hide (fun w y0 y1 y2 y3 y4 y5 y6 z0 z1 z2 z3 z4 z5 z6 h h'=>jsame_any x hweex x w y0 y1 y2 y3 y4 y5 y6 z0 z1 z2 z3 z4 z5 z6 h h' true ⟨fun _=>rfl,fun _=>rfl⟩)
     clear ht hq hlen hweex hfx2 hpr hpt hpc hPx hPy hU hUs
     have hbs:=below1 wA (.cells #[.int .i64 xk,.string xa,.string xb,.string xf,.string xl,.slice xA xm xc,.slice xD xn xd] 33)
     have hpx:=Box7.new wA xk xa xb xf xl xA xm xc xD xn xd 33
     obtain⟨wAs,hwAs⟩:∃wAs,wA.alloc (.cells #[.int .i64 xk,.string xa,.string xb,.string xf,.string xl,.slice xA xm xc,.slice xD xn xd] 33)=wAs:=⟨_,rfl⟩
     rw[hwAs] at hbs hpx
     have hb:=hbs
     have HYx:=hide hpx
     have HGx:=hide (hfx.grow hbs)
     have HWAs:=hide hwAs
     have HXAs:=hide (HXA.out.below HXA.out.lt hb)
     have HFAs:=hide (HFA.out.grow hb)
     have HTAs:=hide (HTA.out.below hb)
     have HBAs:=hide (HBA.out.trans (hb.mono HBA.out.size))
     clear hb HXA HFA HTA HBA
     clear hbs hfx hwAs hpx
     clear HXAs HFAs
     try clear c0 c1 c2 c3 c4 c5 c6
     obtain⟨_,c0,c1,c2,c3,c4,c5,c6⟩:=HYx.out
     go_wp2_with (go_at_call 9;fail)
     rw[HWAs.out]
     refine (HPx.out _ _ _ _ _ _ _ _ HGx.out HTAs.out.marks).mono ?_
     rintro e wC ⟨rfl,hb⟩
     have HYxC:=hide (HYx.out.below HYx.out.lt hb)
     have HGxC:=hide (HGx.out.grow hb)
     have HTC:=hide (HTAs.out.below hb)
     have HBC:=hide (HBAs.out.trans (hb.mono HBAs.out.size))
     clear hb HTAs HBAs
     clear HYx HGx c0 c1 c2 c3 c4 c5 c6
     obtain⟨_,c0,c1,c2,c3,c4,c5,c6⟩:=HYxC.out
     go_wp2_with (go_at_call 18;fail)
     refine (HPy.out _ HTC.out).mono ?_
     rintro e wD hpost
     obtain⟨y,yv0,yv1,yv2,yv3,yv4,yv5,yv6,rfl,hfin,hb,ht⟩:=hpost.out
     clear hpost
     have hfy:=hfin.fin (B:=wD.heap.size) (fun b hb=>hb.2)
     clear hfin
     obtain⟨yk,ya,yb,yf,yl,yA,ym,yc,yD,yn,yd,rfl,rfl,rfl,rfl,rfl,rfl,rfl⟩:=hfy.shape
     have HYxD:=hide (HYxC.out.below HYxC.out.lt hb)
     have HGxD:=hide (HGxC.out.grow hb)
     have HTD:=hide (HTC.out.below hb)
     have HBD:=hide (HBC.out.trans (hb.mono HBC.out.size))
     clear hb HTC HBC
     obtain rfl:=ht _ HPt.out
     rw[HPc.out]
     clear ht HYxC HGxC c0 c1 c2 c3 c4 c5 c6
     have hbz:=below1 wD (.cells #[.int .i64 yk,.string ya,.string yb,.string yf,.string yl,.slice yA ym yc,.slice yD yn yd] 33)
     have HYxE:=hide (HYxD.out.below HYxD.out.lt hbz)
     have HGxE:=hide (HGxD.out.grow hbz)
     clear HYxD HGxD
     have hbs:=below1 wD (.cells #[.int .i64 yk,.string ya,.string yb,.string yf,.string yl,.slice yA ym yc,.slice yD yn yd] 33)
     have hpy:=Box7.new wD yk ya yb yf yl yA ym yc yD yn yd 33
     obtain⟨wE,hwE⟩:∃wE,wD.alloc (.cells #[.int .i64 yk,.string ya,.string yb,.string yf,.string yl,.slice yA ym yc,.slice yD yn yd] 33)=wE:=⟨_,rfl⟩
     rw[hwE] at hbs hpy
     have hb:=hbs
     have HYy:=hide hpy
     have HGy:=hide (hfy.grow hbs)
     have HWE:=hide hwE
     have HTE:=hide (HTD.out.below hb)
     have HBE:=hide (HBD.out.trans (hb.mono HBD.out.size))
     clear hb HTD HBD
     clear hbs hfy hwE hpy
     rw[HWE.out] at HYxE HGxE hbz
     clear hbz
     go_upto_region 13 with fail
     rw[HWE.out]
     obtain⟨_,c0,c1,c2,c3,c4,c5,c6⟩:=HYxE.out
     obtain⟨_,d0,d1,d2,d3,d4,d5,d6⟩:=HYy.out
     go_wp2_with (go_at_call 16;fail)
     refine (HSa.out _ _ _ _ _ _ _ _ _ _ _ _ _ _ _ HGxE.out HGy.out).mono ?_
     rintro e wF ⟨rfl,hb⟩
     have hB:=HBE.out.trans (hb.mono HBE.out.size)
     clear hb c0 c1 c2 c3 c4 c5 c6 d0 d1 d2 d3 d4 d5 d6
     go_wp2
     go_ret
     exact⟨rfl,hB⟩
end Go.Proofs.YtaolhefllfnmiaaGreatDoor
