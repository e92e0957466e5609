/- Several texts in one: LSameC, JSameT. By an AI agent. -/
import Derived.Test.YtpkedjohgmnhhaaGreatM20
set_option maxRecDepth 100000
set_option maxHeartbeats 64000000
set_option linter.unusedSimpArgs false
namespace Go.Proofs.YtpkedjohgmnhhaaGreat
open Go.RowKit
set_option linter.unusedVariables false
theorem ctl_eq (x y:Ct) (b:Bool) (hb:b=true↔x=y) (w:World):(Op.equalIn 10000 67 (.agg #[.string (txt x.oid),.bool x.crit,.bool x.hasv,.string (txt x.value)]) (.agg #[.string (txt y.oid),.bool y.crit,.bool y.hasv,.string (txt y.value)])).run Tryz.prog w=.ok b w:=by
 have hS:Tryz.prog.underlying 67=some (.struct (Tryz.prog.fieldsOf 67)):=by kernel_rfl
 have hp:Tryz.prog.stoodInHeld 67=false:=by kernel_rfl
 rw[show (10000:Nat)=9999+1 from rfl,run_equalIn_agg w 9999 67 _ _ hS hp]
 simp only[Program.fieldsOf,Tryz.underlying67]
 obtain⟨xo,xc,xh,xv⟩:=x
 obtain⟨yo,yc,yh,yv⟩:=y
 simp only
 go_simp
 by_cases h0:xo=yo
 rotate_left
 ·obtain rfl:b=false:=by
   cases b with
   | false=>rfl
   | true=>have:=hb.1 rfl;simp only[Ct.mk.injEq] at this;exact absurd this.1 h0
  simp[h0]
 subst h0
 by_cases h1:xc=yc
 rotate_left
 ·obtain rfl:b=false:=by
   cases b with
   | false=>rfl
   | true=>have:=hb.1 rfl;simp only[Ct.mk.injEq] at this;exact absurd this.2.1 h1
  simp[h1]
 subst h1
 by_cases h2:xh=yh
 rotate_left
 ·obtain rfl:b=false:=by
   cases b with
   | false=>rfl
   | true=>have:=hb.1 rfl;simp only[Ct.mk.injEq] at this;exact absurd this.2.2.1 h2
  simp[h2]
 subst h2
 by_cases h3:xv=yv
 rotate_left
 ·obtain rfl:b=false:=by
   cases b with
   | false=>rfl
   | true=>have:=hb.1 rfl;simp only[Ct.mk.injEq] at this;exact absurd this.2.2.2 h3
  simp[h3]
 subst h3
 obtain rfl:b=true:=hb.2 rfl
 simp
theorem equalC_any (w:World) (D D':Option Addr) (n n' d d':Nat) (L M:List Ct) (hL:repL elC w (inB w) L (.slice D n d)) (hM:repL elC w (inB w) M (.slice D' n' d')) (R:Bool) (hR:R=true↔L=M):
  Calls Tryz.prog 56 #[.slice D n d,.slice D' n' d'] w fun e w'=>e=.returned (.bool R)∧Below w.heap.size w w':=by
 obtain⟨A,c,xs,he,hl,hH,hr⟩:=hL
 obtain⟨A',c',ys,he',hl',hH',hr'⟩:=hM
 cases he
 cases he'
 obtain⟨n,hn⟩:∃n,L.length=n:=⟨_,rfl⟩
 obtain⟨n',hn'⟩:∃n',M.length=n':=⟨_,rfl⟩
 rw[hn] at hl hH ⊢
 rw[hn'] at hl' hH' ⊢
 have hni:(n:Int)≤9223372036854775807:=by omega
 have hni':(n':Int)≤9223372036854775807:=by omega
 by_cases hnn:n=n'
 ·subst hnn
  have HR:=hide hR
  have HH:=hide (And.intro hH hr)
  have HH':=hide (And.intro hH' hr')
  have HN:=hide hn
  have HN':=hide hn'
  clear hH hr hH' hr' hn hn' hR
  go_enter Tryz.func56,Tryz.ntmps56
  go_wp2
  go_loopg [13] n (fun r s13 wx=>∃j:Nat,j+r=n∧s13=.int .i64 (j:Int)∧Hid (L.take j=M.take j)∧Hid ((∀a:Addr,wx.cell? a=w.cell? a)∧Below w.heap.size w wx))
  case atStart=>exact⟨0,by omega,rfl,hide rfl,hide ⟨fun _=>rfl,Below.refl _ _⟩⟩
  case round=>
   obtain⟨j,hjg,rfl,hpre,hbr⟩:=hrel
   cases gk with
   | zero=>
    obtain rfl:j=n:=by omega
    have hjz:¬((j:Int)<(j:Int)):=by omega
    have hq:Hid (R=true):=hide (HR.out.2 (by
     have:=hpre.out
     rwa [List.take_of_length_le (by rw[HN.out];exact Nat.le_refl _),List.take_of_length_le (by rw[HN'.out];exact Nat.le_refl _)] at this))
    clear HH HH' HN HN' hpre HR
    go_wp2
    go_ret
    exact⟨by rw[hq.out];rfl,hbr.out.2⟩
   | succ r=>
    have hj:j<n:=by omega
    have hjz:(j:Int)<(n:Int):=by omega
    obtain⟨p,hp⟩:∃p,L[j]?=some p:=⟨_,List.getElem?_eq_getElem (by rw[HN.out];exact hj)⟩
    obtain⟨q,hq⟩:∃q,M[j]?=some q:=⟨_,List.getElem?_eq_getElem (by rw[HN'.out];exact hj)⟩
    obtain⟨g1,o1,hDe,hg,hparts⟩:=row_part HH.out.1 HH.out.2 (by decide) (fun h=>by rw[h] at hp;simp at hp)
    obtain⟨g2,o2,hDe',hg',hparts'⟩:=row_part HH'.out.1 HH'.out.2 (by decide) (fun h=>by rw[h] at hq;simp at hq)
    subst hDe hDe'
    obtain⟨cp,hrp,hcp⟩:=hparts j p hp
    obtain⟨cq,hrq,hcq⟩:=hparts' j q hq
    obtain rfl:=hrp
    obtain rfl:=hrq
    have hcell:=hbr.out.1
    obtain⟨bb,hbb⟩:∃bb:Bool,bb=true↔p=q:=by
     by_cases h:p=q
     ·exact ⟨true,by simp[h]⟩
     ·exact ⟨false,by simp[h]⟩
    have hce:=ctl_eq p q bb hbb
    have hyes:bb=true→Hid (L.take (j+1)=M.take (j+1)):=fun h=>hide (by
     rw[List.take_add_one,List.take_add_one,hpre.out,hp,hq,hbb.1 h])
    have hno:bb=false→Hid (R=false):=fun h=>hide (by
     cases hRR:R with
     | false=>rfl
     | true=>
      have e:=HR.out.1 hRR
      rw[e,hq] at hp
      have:=hbb.2 (Option.some.inj hp).symm
      rw[h] at this
      cases this)
    have x0:wr.cell? ⟨g1,o1+j*4,none⟩=some _:=(hcell _).trans (hcp 0 _ rfl)
    have y0:wr.cell? ⟨g2,o2+j*4,none⟩=some _:=(hcell _).trans (hcq 0 _ rfl)
    have x1:wr.cell? ⟨g1,o1+j*4+1,none⟩=some _:=(hcell _).trans (hcp 1 _ rfl)
    have y1:wr.cell? ⟨g2,o2+j*4+1,none⟩=some _:=(hcell _).trans (hcq 1 _ rfl)
    have x2:wr.cell? ⟨g1,o1+j*4+2,none⟩=some _:=(hcell _).trans (hcp 2 _ rfl)
    have y2:wr.cell? ⟨g2,o2+j*4+2,none⟩=some _:=(hcell _).trans (hcq 2 _ rfl)
    have x3:wr.cell? ⟨g1,o1+j*4+3,none⟩=some _:=(hcell _).trans (hcp 3 _ rfl)
    have y3:wr.cell? ⟨g2,o2+j*4+3,none⟩=some _:=(hcell _).trans (hcq 3 _ rfl)
    have HYes:=hide hyes
    have HNo:=hide hno
    clear HH HH' HN HN' hpre HR hp hq hparts hparts' hcp hcq hyes hno hbb hcell
    go_wp2_with fail
    go_quiet (fail)
    have hbn:Hid ((∀a:Addr,(wr.drewN nq).cell? a=w.cell? a)∧Below w.heap.size w (wr.drewN nq)):=hide ⟨fun a=>(show (wr.drewN nq).cell? a=wr.cell? a from rfl).trans (hbr.out.1 a),Below.drewN hbr.out.2 nq⟩
    clear x0 x1 x2 x3 y0 y1 y2 y3 hce hbr
    generalize wr.drewN nq=wn at *
    cases bb with
    | false=>
     have hbf:=HNo.out rfl
     clear HYes HNo
     go_wp2
     go_ret
     exact⟨by rw[hbf.out];rfl,hbn.out.2⟩
    | true=>
     have hst:=HYes.out rfl
     clear HYes HNo
     go_wp2
     go_roundg r
     case measure=>omega
     case rel=>exact⟨j+1,by omega,by go_num,hst,hbn⟩
 ·have z1:((n:Int)==(n':Int))=false:=beq_false_of_ne (by omega)
  have z2:((n:Int)!=(n':Int))=true:=by unfold bne;rw[z1];rfl
  obtain rfl:R=false:=by
   cases hRR:R with
   | false=>rfl
   | true=>exact absurd (by rw[←hn,←hn',hR.1 hRR]) hnn
  clear hH hr hH' hr' hn hn' hR hnn
  go_enter Tryz.func56,Tryz.ntmps56
  go_wp2
  go_ret
  exact⟨rfl,Below.refl _ _⟩
end Go.Proofs.YtpkedjohgmnhhaaGreat
namespace Go.Proofs.YtpkedjohgmnhhaaGreat
open Go.RowKit
set_option linter.unusedVariables false
theorem jsame_any (t:FT):t.wee→∀(t':FT) (w:World) (u0 u1 u2 u3 u4 u5 u6 v0 v1 v2 v3 v4 v5 v6:Value),FIn w w.heap.size t [u0,u1,u2,u3,u4,u5,u6]→FIn w w.heap.size t' [v0,v1,v2,v3,v4,v5,v6]→
  ∀b:Bool,(b=true↔t=t')→
  Calls Tryz.prog 50 #[.agg #[u0,u1,u2,u3,u4,u5,u6],.agg #[v0,v1,v2,v3,v4,v5,v6]] w fun e w'=>e=.returned (.bool b)∧Below w.heap.size w w':=by
 induction t using FT.induct
 rename_i k a v f l any ps ih
 intro hwee t' w u0 u1 u2 u3 u4 u5 u6 v0 v1 v2 v3 v4 v5 v6 hF hF' b hb
 cases t' with
 | mk k' a' v' f' l' any' ps'=>
 simp only[FT.wee] at hwee
 simp only[FIn] at hF hF'
 obtain⟨A,c,D,dd,xs,hcs,⟨hml,hnl⟩,hA,hD,hP⟩:=hF
 cases hcs
 obtain⟨A',c',D',dd',xs',hcs,⟨hml',hnl'⟩,hA',hD',hP'⟩:=hF'
 cases hcs
 obtain⟨m,hm⟩:∃m,any.length=m:=⟨_,rfl⟩
 obtain⟨np,hnp⟩:∃np,ps.length=np:=⟨_,rfl⟩
 obtain⟨m',hm'⟩:∃m',any'.length=m':=⟨_,rfl⟩
 obtain⟨np',hnp'⟩:∃np',ps'.length=np':=⟨_,rfl⟩
 have hX:=Box7.new w k (txt a) (txt v) (txt f) (txt l) A any.length c D ps.length dd 39
 have hb0:=below1 w (.cells #[.int .i64 k,.string (txt a),.string (txt v),.string (txt f),.string (txt l),.slice A any.length c,.slice D ps.length dd] 39)
 obtain⟨w1,hw1⟩:∃w1,(w.alloc (.cells #[.int .i64 k,.string (txt a),.string (txt v),.string (txt f),.string (txt l),.slice A any.length c,.slice D ps.length dd] 39))=w1:=⟨_,rfl⟩
 have hsz:w1.heap.size=w.heap.size+1:=by rw[←hw1];simp
 rw[hw1] at hX hb0
 have hY:=Box7.new w1 k' (txt a') (txt v') (txt f') (txt l') A' any'.length c' D' ps'.length dd' 39
 have hb1:=below1 w1 (.cells #[.int .i64 k',.string (txt a'),.string (txt v'),.string (txt f'),.string (txt l'),.slice A' any'.length c',.slice D' ps'.length dd'] 39)
 have hX1:=hX.below hX.lt hb1
 have hb2:=hb0.trans (hb1.mono hb0.size)
 have hTx:=fun (W:World) hA hA'=>jequal_any W A A' any.length c any'.length c' any any' hA hA' (by omega)
 have hEx:=fun (W:World) (hb:Below w.heap.size w W)=>jequalf_any 50 #[] (fun _ _=>rfl) ps ps' W D D' ps.length ps'.length dd dd' xs xs' ((hD.below hb).upto hb.size) ((hP.below hb).upto hb.size) ((hD'.below hb).upto hb.size) ((hP'.below hb).upto hb.size) rfl rfl (by unfold maxLen at hnl;omega) (by unfold maxLen at hnl';omega) (fun p hp q W2 u0 u1 u2 u3 u4 u5 u6 v0 v1 v2 v3 v4 v5 v6 hb2 h1 h2=>ih p hp (FT.weeL_mem hwee.2.2 p hp) q W2 u0 u1 u2 u3 u4 u5 u6 v0 v1 v2 v3 v4 v5 v6 h1 h2 (FT.eqB p q) FT.eqB_iff)
 unfold maxLen at hml hnl hml' hnl'
 rw[hm,hm'] at hTx
 rw[hnp,hnp'] at hEx
 rw[hm,hnp] at hX1 hw1 ⊢
 rw[hm',hnp'] at hY hb1 hb2 hX1 ⊢
 rw[hsz] at hY
 have hnl1:(np:Int)≤9223372036854775807:=by omega
 have hA2:=(hA.below hb2).upto hb2.size
 have hA2':=(hA'.below hb2).upto hb2.size
 rw[hm] at hA2
 rw[hm'] at hA2'
 have hw2:∃w2,w1.alloc (.cells #[.int .i64 k',.string (txt a'),.string (txt v'),.string (txt f'),.string (txt l'),.slice A' m' c',.slice D' np' dd'] 39)=w2:=⟨_,rfl⟩
 obtain⟨w2,hw2⟩:=hw2
 have HW1:=hide hw1
 have HW2:=hide hw2
 rw[hw2] at hX1 hY hb2 hA2 hA2'
 have HX:=hide hX1
 have HY:=hide hY
 have HB:=hide hb2
 have HD:=hide hD
 have HP:=hide hP
 have HD':=hide hD'
 have HP':=hide hP'
 have Hih:=hide ih
 have Hnp:=hide hnp
 have Hnp':=hide hnp'
 have HTx:=hide (hTx w2 hA2 hA2')
 have HEx:=hide hEx
 have Hb:=hide hb
 have HSz:=hide hsz
 have inj:=fun h=>FT.mk.inj (hb.1 h)
 clear hEx hwee hD hP hD' hP' ih hnp hnp' hTx hA hA' hA2 hA2' hb hm hm' hml hnl hml' hnl' hX hb0 hb1 hb2 hw1 hw2
 obtain⟨_,c0,c1,c2,c3,c4,c5,c6⟩:=hX1
 obtain⟨_,d0,d1,d2,d3,d4,d5,d6⟩:=hY
 by_cases h0:k=k'
 ·subst h0
  by_cases h1:a=a'
  ·subst h1
   by_cases h2:v=v'
   ·subst h2
    by_cases h3:f=f'
    ·subst h3
     by_cases h4:l=l'
     ·subst h4
      by_cases h5:any=any'
      ·have hbf:Hid (b=FT.eqsB ps ps'):=hide (by
        rw[Bool.eq_iff_iff,Hb.out,FT.eqsB_iff]
        exact⟨fun h=>(FT.mk.inj h).2.2.2.2.2.2,fun h=>by rw[h5,h]⟩)
       have hcall:=HTx.out
       rw[decide_eq_true h5] at hcall
       obtain⟨R,hR⟩:∃R,FT.eqsB ps ps'=R:=⟨_,rfl⟩
       rw[hR] at hbf
       have HR:=hide hR
       clear HTx inj h5 hR
       clear HD HP HD' HP' Hih Hnp Hnp' Hb
       generalize txt a=sa at *
       generalize txt v=sv at *
       generalize txt f=sf at *
       generalize txt l=sl at *
       go_enter Tryz.func50,Tryz.ntmps50
       go_upto_region 1 with fail
       rw[HW1.out,HW2.out]
       (try rw[HSz.out])
       go_wp2_with (go_at_call 51;fail)
       refine hcall.mono ?_
       rintro e w3 ⟨rfl,hb3⟩
       have HX3:=hide (HX.out.below HX.out.lt hb3)
       have HY3:=hide (HY.out.below HY.out.lt hb3)
       have HB3:=hide (HB.out.trans (hb3.mono HB.out.size))
       have hcall2:=HEx.out w3 HB3.out
       rw[HR.out] at hcall2
       clear hcall hb3 HX HY HB HEx HR c0 c1 c2 c3 c4 c5 c6 d0 d1 d2 d3 d4 d5 d6
       obtain⟨_,c0,c1,c2,c3,c4,c5,c6⟩:=HX3.out
       obtain⟨_,d0,d1,d2,d3,d4,d5,d6⟩:=HY3.out
       go_wp2_with (go_at_call 95;fail)
       refine hcall2.mono ?_
       rintro e w5 ⟨rfl,hb5⟩
       have HB5:=hide (HB3.out.trans (hb5.mono HB3.out.size))
       clear hcall2 hb5 HX3 HY3 HB3 c0 c1 c2 c3 c4 c5 c6 d0 d1 d2 d3 d4 d5 d6
       go_wp2
       go_ret
       exact⟨by rw[hbf.out];rfl,HB5.out⟩
      ·have hcall:=HTx.out
       rw[decide_eq_false h5] at hcall
       have hbf:Hid (b=false):=hide (by
        cases hbb:b with
        | false=>rfl
        | true=>exact absurd (inj hbb).2.2.2.2.2.1 h5)
       clear HTx HEx inj h5
       clear HD HP HD' HP' Hih Hnp Hnp' Hb
       generalize txt a=sa at *
       generalize txt v=sv at *
       generalize txt f=sf at *
       generalize txt l=sl at *
       go_enter Tryz.func50,Tryz.ntmps50
       go_upto_region 1 with fail
       rw[HW1.out,HW2.out]
       (try rw[HSz.out])
       go_wp2_with (go_at_call 51;fail)
       refine hcall.mono ?_
       rintro e w3 ⟨rfl,hb3⟩
       have HB3:=hide (HB.out.trans (hb3.mono HB.out.size))
       clear hcall hb3 HX HY HB c0 c1 c2 c3 c4 c5 c6 d0 d1 d2 d3 d4 d5 d6
       go_wp2
       go_ret
       exact⟨by rw[hbf.out];rfl,HB3.out⟩
     ·have e1:=str_ne h4
      have hbf:Hid (b=false):=hide (by
       cases hbb:b with
       | false=>rfl
       | true=>exact absurd (by have h:=hbb;exact (inj h |>.2.2.2.2.1)) h4)
      clear h4 inj HTx HEx
      clear HD HP HD' HP' Hih Hnp Hnp' Hb
      generalize txt a=sa at *
      generalize txt v=sv at *
      generalize txt f=sf at *
      generalize txt l=sl at *
      generalize txt l'=sl' at *
      go_enter Tryz.func50,Tryz.ntmps50
      go_upto_region 1 with fail
      rw[HW1.out,HW2.out]
      (try rw[HSz.out])
      go_wp2
      go_ret
      exact⟨by rw[hbf.out];rfl,HB.out⟩
    ·have e1:=str_ne h3
     have hbf:Hid (b=false):=hide (by
      cases hbb:b with
      | false=>rfl
      | true=>exact absurd (by have h:=hbb;exact (inj h |>.2.2.2.1)) h3)
     clear h3 inj HTx HEx
     clear HD HP HD' HP' Hih Hnp Hnp' Hb
     generalize txt a=sa at *
     generalize txt v=sv at *
     generalize txt f=sf at *
     generalize txt l=sl at *
     generalize txt f'=sf' at *
     generalize txt l'=sl' at *
     go_enter Tryz.func50,Tryz.ntmps50
     go_upto_region 1 with fail
     rw[HW1.out,HW2.out]
     (try rw[HSz.out])
     go_wp2
     go_ret
     exact⟨by rw[hbf.out];rfl,HB.out⟩
   ·have e1:=str_ne h2
    have hbf:Hid (b=false):=hide (by
     cases hbb:b with
     | false=>rfl
     | true=>exact absurd (by have h:=hbb;exact (inj h |>.2.2.1)) h2)
    clear h2 inj HTx HEx
    clear HD HP HD' HP' Hih Hnp Hnp' Hb
    generalize txt a=sa at *
    generalize txt v=sv at *
    generalize txt f=sf at *
    generalize txt l=sl at *
    generalize txt v'=sv' at *
    generalize txt f'=sf' at *
    generalize txt l'=sl' at *
    go_enter Tryz.func50,Tryz.ntmps50
    go_upto_region 1 with fail
    rw[HW1.out,HW2.out]
    (try rw[HSz.out])
    go_wp2
    go_ret
    exact⟨by rw[hbf.out];rfl,HB.out⟩
  ·have e1:=str_ne h1
   have hbf:Hid (b=false):=hide (by
    cases hbb:b with
    | false=>rfl
    | true=>exact absurd (by have h:=hbb;exact (inj h |>.2.1)) h1)
   clear h1 inj HTx HEx
   clear HD HP HD' HP' Hih Hnp Hnp' Hb
   generalize txt a=sa at *
   generalize txt v=sv at *
   generalize txt f=sf at *
   generalize txt l=sl at *
   generalize txt a'=sa' at *
   generalize txt v'=sv' at *
   generalize txt f'=sf' at *
   generalize txt l'=sl' at *
   go_enter Tryz.func50,Tryz.ntmps50
   go_upto_region 1 with fail
   rw[HW1.out,HW2.out]
   (try rw[HSz.out])
   go_wp2
   go_ret
   exact⟨by rw[hbf.out];rfl,HB.out⟩
 ·have e1:(k==k')=false:=beq_false_of_ne h0
  have hbf:Hid (b=false):=hide (by
   cases hbb:b with
   | false=>rfl
   | true=>exact absurd (by have h:=hbb;exact (inj h |>.1)) h0)
  clear h0 inj HTx HEx
  clear HD HP HD' HP' Hih Hnp Hnp' Hb
  generalize txt a=sa at *
  generalize txt v=sv at *
  generalize txt f=sf at *
  generalize txt l=sl at *
  generalize txt a'=sa' at *
  generalize txt v'=sv' at *
  generalize txt f'=sf' at *
  generalize txt l'=sl' at *
  go_enter Tryz.func50,Tryz.ntmps50
  go_upto_region 1 with fail
  rw[HW1.out,HW2.out]
  (try rw[HSz.out])
  go_wp2
  go_ret
  exact⟨by rw[hbf.out];rfl,HB.out⟩
end Go.Proofs.YtpkedjohgmnhhaaGreat
