/- Several texts in one: HSame, MConv. By an AI agent. -/
import Derived.Test.YtcpjmgfloimfhaaGreatM06
import Derived.BigQuiet
import Derived.Test.YtcpjmgfloimfhaaGreatM10
import Derived.Test.YtcpjmgfloimfhaaGreatM11
import Derived.Test.YtcpjmgfloimfhaaGreatM03
import Derived.Test.YtcpjmgfloimfhaaGreatM02
import Derived.Deep.CutRange
import Derived.Deep.CutBlock
set_option linter.unusedSimpArgs false
set_option linter.unusedVariables false
set_option maxRecDepth 100000
set_option maxHeartbeats 64000000
namespace Go.Proofs.YtcpjmgfloimfhaaGreat
open Go.RowKit
set_option linter.unusedVariables false
theorem rsametexts_any (w:World) (A A':Option Addr) (m m' c c':Nat) (L M:List (List UInt8)) (hA:Has w w.heap.size 1 A m (strs L)) (hA':Has w w.heap.size 1 A' m' (strs M)) (hm:m≤maxLen)
  (b:Bool) (hb:b=true↔L=M):
  Calls Tryz.prog 42 #[.slice A m c,.slice A' m' c'] w fun e w'=>e=.returned (.bool b)∧Below w.heap.size w w':=by
 have h1:=hA.strs_n
 have h2:=hA'.strs_n
 unfold maxLen at hm
 have hm1:(m:Int)≤9223372036854775807:=by omega
 by_cases hmm:m=m'
 ·subst hmm
  have HA:=hide hA
  have HA':=hide hA'
  have H1:=hide h1
  have H2:=hide h2
  have Hb:=hide hb
  clear hA hA' h1 h2 hb hm
  go_enter Tryz.func42,Tryz.ntmps42
  go_wp2
  go_loopg [13] m (fun r s13 wx=>∃i:Nat,i+r=m∧s13=.int .i64 (i:Int)∧Hid (Below w.heap.size w wx)∧Hid (L.take i=M.take i))
  case atStart=>exact⟨0,by omega,rfl,hide (Below.refl _ _),hide rfl⟩
  case round=>
   obtain⟨i,hig,rfl,hbr,hpre⟩:=hrel
   cases gk with
   | zero=>
    obtain rfl:i=m:=by omega
    have hiz:¬((i:Int)<(i:Int)):=by omega
    have hbt:Hid (b=true):=hide (Hb.out.2 (by
     have:=hpre.out
     rwa [List.take_of_length_le (by rw[←H1.out];exact Nat.le_refl _),List.take_of_length_le (by rw[←H2.out];exact Nat.le_refl _)] at this))
    clear HA HA' H1 H2 hpre Hb
    go_wp2
    go_ret
    exact⟨by rw[hbt.out];rfl,hbr.out⟩
   | succ r=>
    have hi:i<m:=by omega
    have hiz:(i:Int)<(m:Int):=by omega
    obtain⟨x,hx⟩:∃x,L[i]?=some x:=⟨_,List.getElem?_eq_getElem (by rw[←H1.out];exact hi)⟩
    obtain⟨y,hy⟩:∃y,M[i]?=some y:=⟨_,List.getElem?_eq_getElem (by rw[←H2.out];exact hi)⟩
    obtain⟨g,o,hAe,hg,hc⟩:=HA.out.texts (fun h=>by rw[h] at hx;simp at hx)
    obtain⟨g',o',hAe',hg',hc'⟩:=HA'.out.texts (fun h=>by rw[h] at hy;simp at hy)
    subst hAe hAe'
    have x0:=(hbr.out.cell (p:=⟨g,o+i,none⟩) hg).trans (hc i x hx)
    have y0:=(hbr.out.cell (p:=⟨g',o'+i,none⟩) hg').trans (hc' i y hy)
    by_cases hxy:x=y
    ·subst hxy
     have hpre2:Hid (L.take (i+1)=M.take (i+1)):=hide (by rw[List.take_add_one,List.take_add_one,hpre.out,hx,hy])
     generalize txt x=X at *
     clear hx hy hc hc' HA HA' H1 H2 hpre Hb
     go_wp2
     go_quiet (fail)
     go_wp2
     go_roundg r
     case measure=>omega
     case rel=>exact⟨i+1,by omega,by go_num,hide (Below.drewN hbr.out _),hpre2⟩
    ·have hbf:Hid (b=false):=hide (by
      cases hbb:b with
      | false=>rfl
      | true=>
       have:=Hb.out.1 hbb
       rw[this,hy] at hx
       exact absurd (Option.some.inj hx).symm hxy)
     have e1:=str_ne hxy
     have e2:=bne_of e1
     generalize txt x=X at *
     generalize txt y=Y at *
     clear hx hy hc hc' HA HA' H1 H2 hpre Hb hxy
     go_wp2
     go_quiet (fail)
     go_wp2
     go_ret
     exact⟨by rw[hbf.out];rfl,Below.drewN hbr.out _⟩
 ·have z1:((m:Int)==(m':Int))=false:=beq_false_of_ne (by omega)
  have z2:((m:Int)!=(m':Int))=true:=by unfold bne;rw[z1];rfl
  obtain rfl:b=false:=by
   cases b with
   | false=>rfl
   | true=>exact absurd (by rw[h1,h2,hb.1 rfl]) hmm
  clear hA hA' h1 h2 hb hm hmm
  go_enter Tryz.func42,Tryz.ntmps42
  go_wp2
  go_ret
  exact⟨rfl,Below.refl _ _⟩
theorem rfsame_any (t:FT):∀(t':FT) (w:World) (u0 u1 u2 u3 u4 u5 u6 v0 v1 v2 v3 v4 v5 v6:Value),FIn w w.heap.size t [u0,u1,u2,u3,u4,u5,u6]→FIn w w.heap.size t' [v0,v1,v2,v3,v4,v5,v6]→
  ∀b:Bool,(b=true↔t=t')→
  Calls Tryz.prog 41 #[.agg #[u0,u1,u2,u3,u4,u5,u6],.agg #[v0,v1,v2,v3,v4,v5,v6]] w fun e w'=>e=.returned (.bool b)∧Below w.heap.size w w':=by
 induction t using FT.induct
 rename_i k a v f l any ps ih
 intro t' w u0 u1 u2 u3 u4 u5 u6 v0 v1 v2 v3 v4 v5 v6 hF hF' b hb
 cases t' with
 | mk k' a' v' f' l' any' ps'=>
 simp only[FIn] at hF hF'
 obtain⟨A,c,D,dd,xs,hcs,⟨hml,hnl⟩,hA,hD,hP⟩:=hF
 cases hcs
 obtain⟨A',c',D',dd',xs',hcs,⟨hml',hnl'⟩,hA',hD',hP'⟩:=hF'
 cases hcs
 obtain⟨m,hm⟩:∃m,any.length=m:=⟨_,rfl⟩
 obtain⟨np,hnp⟩:∃np,ps.length=np:=⟨_,rfl⟩
 obtain⟨m',hm'⟩:∃m',any'.length=m':=⟨_,rfl⟩
 obtain⟨np',hnp'⟩:∃np',ps'.length=np':=⟨_,rfl⟩
 have hX:=Box7.new w k (txt a) (txt v) (txt f) (txt l) A any.length c D ps.length dd 25
 have hb0:=below1 w (.cells #[.int .i64 k,.string (txt a),.string (txt v),.string (txt f),.string (txt l),.slice A any.length c,.slice D ps.length dd] 25)
 obtain⟨w1,hw1⟩:∃w1,(w.alloc (.cells #[.int .i64 k,.string (txt a),.string (txt v),.string (txt f),.string (txt l),.slice A any.length c,.slice D ps.length dd] 25))=w1:=⟨_,rfl⟩
 have hsz:w1.heap.size=w.heap.size+1:=by rw[←hw1];simp
 rw[hw1] at hX hb0
 have hY:=Box7.new w1 k' (txt a') (txt v') (txt f') (txt l') A' any'.length c' D' ps'.length dd' 25
 have hb1:=below1 w1 (.cells #[.int .i64 k',.string (txt a'),.string (txt v'),.string (txt f'),.string (txt l'),.slice A' any'.length c',.slice D' ps'.length dd'] 25)
 have hX1:=hX.below hX.lt hb1
 have hb2:=hb0.trans (hb1.mono hb0.size)
 have hTx:=fun w hA hA' bt hbt=>rsametexts_any w A A' any.length any'.length c c' any any' hA hA' hml bt hbt
 unfold maxLen at hml hnl hml' hnl'
 rw[hm,hm'] at hTx
 rw[hm,hnp] at hX1 hw1 ⊢
 rw[hm',hnp'] at hY hb1 hb2 hX1 ⊢
 rw[hsz] at hY
 have hnl1:(np:Int)≤9223372036854775807:=by omega
 have hA2:=(hA.below hb2).upto hb2.size
 have hA2':=(hA'.below hb2).upto hb2.size
 rw[hm] at hA2
 rw[hm'] at hA2'
 have hw2:∃w2,w1.alloc (.cells #[.int .i64 k',.string (txt a'),.string (txt v'),.string (txt f'),.string (txt l'),.slice A' m' c',.slice D' np' dd'] 25)=w2:=⟨_,rfl⟩
 obtain⟨w2,hw2⟩:=hw2
 have HW1:=hide hw1
 have HW2:=hide hw2
 rw[hw2] at hX1 hY hb2 hA2 hA2'
 have HX:=hide hX1
 have HY:=hide hY
 have HB:=hide hb2
 have HD:=hide hD
 have HP:=hide hP
 have HD':=hide hD'
 have HP':=hide hP'
 have Hih:=hide ih
 have Hnp:=hide hnp
 have Hnp':=hide hnp'
 have HTx:=hide (hTx w2 hA2 hA2')
 have Hb:=hide hb
 have HSz:=hide hsz
 have inj:=fun h=>FT.mk.inj (hb.1 h)
 clear hD hP hD' hP' ih hnp hnp' hTx hA hA' hA2 hA2' hb hm hm' hml hnl hml' hnl' hX hb0 hb1 hb2 hw1 hw2
 obtain⟨_,c0,c1,c2,c3,c4,c5,c6⟩:=hX1
 obtain⟨_,d0,d1,d2,d3,d4,d5,d6⟩:=hY
 have start:∀(P:Prop),P→P:=fun _ h=>h
 by_cases h0:k=k'
 ·subst h0
  by_cases h1:a=a'
  ·subst h1
   by_cases h2:v=v'
   ·subst h2
    by_cases h3:f=f'
    ·subst h3
     by_cases h4:l=l'
     ·subst h4
      by_cases h5:any=any'
      ·have hcall:=HTx.out true ⟨fun _=>h5,fun _=>rfl⟩
       by_cases h6:np=np'
       ·subst h6
        have hps:¬b=true→ps≠ps':=fun h e=>h (Hb.out.2 (by rw[h5,e]))
        have hpt:ps=ps'→b=true:=fun e=>Hb.out.2 (by rw[h5,e])
        have hpf:b=true→ps=ps':=fun h=>(inj h).2.2.2.2.2.2
        have HPt:=hide hpt
        have HPf:=hide hpf
        clear HTx inj hps hpt hpf Hb h5 start
        generalize txt a=sa at *
        generalize txt v=sv at *
        generalize txt f=sf at *
        generalize txt l=sl at *
        go_enter Tryz.func41,Tryz.ntmps41
        go_upto_region 1 with fail
        rw[HW1.out,HW2.out]
        (try rw[HSz.out])
        go_wp2_with (go_at_call 42;fail)
        refine hcall.mono ?_
        rintro e w3 ⟨rfl,hb3⟩
        have HX3:=hide (HX.out.below HX.out.lt hb3)
        have HY3:=hide (HY.out.below HY.out.lt hb3)
        have HB3:=hide (HB.out.trans (hb3.mono HB.out.size))
        clear hcall hb3 HX HY HB c0 c1 c2 c3 c4 c5 c6 d0 d1 d2 d3 d4 d5 d6
        obtain⟨_,c0,c1,c2,c3,c4,c5,c6⟩:=HX3.out
        obtain⟨_,d0,d1,d2,d3,d4,d5,d6⟩:=HY3.out
        go_wp2
        go_loopg [59] np (fun r s59 wx=>∃j:Nat,j+r=np∧s59=.int .i64 (j:Int)∧Hid (ps.take j=ps'.take j)∧Hid (Below w.heap.size w wx∧Box7 wx w.heap.size k sa sv sf sl A m c D np dd∧Box7 wx (w.heap.size+1) k sa sv sf sl A' m' c' D' np dd'))
        case atStart=>exact⟨0,by omega,rfl,hide rfl,hide ⟨HB3.out,HX3.out,HY3.out⟩⟩
        case round=>
         obtain⟨j,hjg,rfl,hpre,hbr⟩:=hrel
         clear c0 c1 c2 c3 c4 c5 c6 d0 d1 d2 d3 d4 d5 d6 HX3 HY3 HB3
         obtain⟨hb3,hX3,hY3⟩:=hbr.out
         cases gk with
         | zero=>
          obtain rfl:j=np:=by omega
          have hjz:¬((j:Int)<(j:Int)):=by omega
          have hq:Hid (b=true):=hide (HPt.out (by
           have:=hpre.out
           rwa [List.take_of_length_le (by rw[Hnp.out];exact Nat.le_refl _),List.take_of_length_le (by rw[Hnp'.out];exact Nat.le_refl _)] at this))
          obtain⟨_,c0,c1,c2,c3,c4,c5,c6⟩:=hX3
          clear HD HP HD' HP' Hih Hnp Hnp' hpre HPt HPf hY3
          go_wp2
          go_ret
          exact⟨by rw[hq.out];rfl,hb3⟩
         | succ r=>
          have hj:j<np:=by omega
          have hjz:(j:Int)<(np:Int):=by omega
          obtain⟨p,hp⟩:∃p,ps[j]?=some p:=⟨_,List.getElem?_eq_getElem (by rw[Hnp.out];exact hj)⟩
          obtain⟨q,hq⟩:∃q,ps'[j]?=some q:=⟨_,List.getElem?_eq_getElem (by rw[Hnp'.out];exact hj)⟩
          have HP1:=HP.out
          have HP2:=HP'.out
          obtain⟨g,o,hDe,hg,hparts⟩:=HD.out.part HP1 (fun h=>by rw[h] at hp;simp at hp)
          obtain⟨g',o',hDe',hg',hparts'⟩:=HD'.out.part HP2 (fun h=>by rw[h] at hq;simp at hq)
          subst hDe hDe'
          obtain⟨u0,u1,u2,u3,u4,u5,u6,hpart⟩:=hparts j p hp
          obtain⟨v0,v1,v2,v3,v4,v5,v6,hpart'⟩:=hparts' j q hq
          have hdr:Below wr.heap.size wr wr.drew:=(Below.refl _ _).drew
          have hpd:Part7 wr.drew wr.drew.heap.size g (o+j*7) p u0 u1 u2 u3 u4 u5 u6:=((hpart.below hb3).up hb3.size).below hdr |>.up hdr.size
          have hqd:Part7 wr.drew wr.drew.heap.size g' (o'+j*7) q v0 v1 v2 v3 v4 v5 v6:=((hpart'.below hb3).up hb3.size).below hdr |>.up hdr.size
          have hXd:=hX3.below hX3.lt hdr
          have hYd:=hY3.below hY3.lt hdr
          have hbd:=hb3.trans (hdr.mono hb3.size)
          obtain⟨_,c0,c1,c2,c3,c4,c5,c6⟩:=hX3
          obtain⟨_,d0,d1,d2,d3,d4,d5,d6⟩:=hY3
          have hcall:=fun bb hbb=>Hih.out p (List.mem_of_getElem? hp) q wr.drew _ _ _ _ _ _ _ _ _ _ _ _ _ _ hpd.fin hqd.fin bb hbb
          obtain⟨bb,hbb⟩:∃bb:Bool,(bb=true↔p=q):=by
           by_cases h:p=q
           ·exact ⟨true,⟨fun _=>h,fun _=>rfl⟩⟩
           ·exact ⟨false,⟨fun h'=>(by cases h'),fun h'=>absurd h' h⟩⟩
          have hcall1:=hcall bb hbb
          have hyes:bb=true→Hid (ps.take (j+1)=ps'.take (j+1)):=fun h=>hide (by rw[List.take_add_one,List.take_add_one,hpre.out,hp,hq,hbb.1 h])
          have hno:bb=false→Hid (b=false):=fun h=>hide (by
           cases hb':b with
           | false=>rfl
           | true=>
            have e:=HPf.out hb'
            rw[e,hq] at hp
            have:=hbb.2 (Option.some.inj hp).symm
            rw[h] at this
            cases this)
          have HYes:=hide hyes
          have HNo:=hide hno
          have HPd:=hide hpd
          have HQd:=hide hqd
          have HXd:=hide hXd
          have HYd:=hide hYd
          have HBd:=hide hbd
          clear HD HP HD' HP' Hih Hnp Hnp' hpre HPt HPf HP1 HP2 hparts hparts' hpart hpart' hp hq hcall hyes hno hpd hqd hXd hYd hbd hdr hbb hbr hb3
          go_wp2_with fail
          refine grow_begin (by kernel_rfl) ?_
          clear c0 c1 c2 c3 c4 c5 c6 d0 d1 d2 d3 d4 d5 d6
          generalize wr.drew=w3 at *
          refine grow_take 0 (some 62) (v:=?vs0) rfl rfl (by kernel_rfl) (by kernel_rfl) (by kernel_rfl) (fun _ _ _ h=>h) (by rfl) (fun W hW=>?ys0) ?_
          case ys0=>
           go_simp<;>with_reducible rfl
          simp only[Act.put,List.setIfInBounds_toArray,List.set_cons_zero,List.set_cons_succ]
          refine grow_take 1 (some 63) (v:=?vs1) rfl rfl (by kernel_rfl) (by kernel_rfl) (by kernel_rfl) (fun _ _ _ h=>h) (by rfl) (fun W hW=>?ys1) ?_
          case ys1=>
           have h6:=(HXd.out.below HXd.out.lt hW).c6
           go_simp<;>with_reducible rfl
          simp only[Act.put,List.setIfInBounds_toArray,List.set_cons_zero,List.set_cons_succ]
          refine grow_take 2 (some 64) (v:=?vs2) rfl rfl (by kernel_rfl) (by kernel_rfl) (by kernel_rfl) (fun _ _ _ h=>h) (by rfl) (fun W hW=>?ys2) ?_
          case ys2=>
           go_simp<;>with_reducible rfl
          simp only[Act.put,List.setIfInBounds_toArray,List.set_cons_zero,List.set_cons_succ]
          refine grow_take 3 (some 65) (v:=?vs3) rfl rfl (by kernel_rfl) (by kernel_rfl) (by kernel_rfl) (fun _ _ _ h=>h) (by rfl) (fun W hW=>?ys3) ?_
          case ys3=>
           go_simp<;>with_reducible rfl
          simp only[Act.put,List.setIfInBounds_toArray,List.set_cons_zero,List.set_cons_succ]
          refine grow_take 4 (some 66) (v:=?vs4) rfl rfl (by kernel_rfl) (by kernel_rfl) (by kernel_rfl) (fun _ _ _ h=>h) (by rfl) (fun W hW=>?ys4) ?_
          case ys4=>
           obtain⟨_,_,e0,e1,e2,e3,e4,e5,e6⟩:=HPd.out.below hW
           go_simp<;>with_reducible rfl
          simp only[Act.put,List.setIfInBounds_toArray,List.set_cons_zero,List.set_cons_succ]
          refine grow_take 5 (some 67) (v:=?vs5) rfl rfl (by kernel_rfl) (by kernel_rfl) (by kernel_rfl) (fun _ _ _ h=>h) (by rfl) (fun W hW=>?ys5) ?_
          case ys5=>
           go_simp<;>with_reducible rfl
          simp only[Act.put,List.setIfInBounds_toArray,List.set_cons_zero,List.set_cons_succ]
          refine grow_take 6 (some 68) (v:=?vs6) rfl rfl (by kernel_rfl) (by kernel_rfl) (by kernel_rfl) (fun _ _ _ h=>h) (by rfl) (fun W hW=>?ys6) ?_
          case ys6=>
           have h6:=(HYd.out.below HYd.out.lt hW).c6
           go_simp<;>with_reducible rfl
          simp only[Act.put,List.setIfInBounds_toArray,List.set_cons_zero,List.set_cons_succ]
          refine grow_take 7 (some 69) (v:=?vs7) rfl rfl (by kernel_rfl) (by kernel_rfl) (by kernel_rfl) (fun _ _ _ h=>h) (by rfl) (fun W hW=>?ys7) ?_
          case ys7=>
           go_simp<;>with_reducible rfl
          simp only[Act.put,List.setIfInBounds_toArray,List.set_cons_zero,List.set_cons_succ]
          refine grow_take 8 (some 70) (v:=?vs8) rfl rfl (by kernel_rfl) (by kernel_rfl) (by kernel_rfl) (fun _ _ _ h=>h) (by rfl) (fun W hW=>?ys8) ?_
          case ys8=>
           go_simp<;>with_reducible rfl
          simp only[Act.put,List.setIfInBounds_toArray,List.set_cons_zero,List.set_cons_succ]
          refine grow_take 9 (some 71) (v:=?vs9) rfl rfl (by kernel_rfl) (by kernel_rfl) (by kernel_rfl) (fun _ _ _ h=>h) (by rfl) (fun W hW=>?ys9) ?_
          case ys9=>
           obtain⟨_,_,e0,e1,e2,e3,e4,e5,e6⟩:=HQd.out.below hW
           go_simp<;>with_reducible rfl
          simp only[Act.put,List.setIfInBounds_toArray,List.set_cons_zero,List.set_cons_succ]
          refine grow_only 10 rfl (by kernel_rfl) (fun K hK=>?_)
          go_simp
          refine hcall1.mono ?_
          rintro e w4 ⟨rfl,hb4⟩
          have HX4:=hide (HXd.out.below HXd.out.lt hb4)
          have HY4:=hide (HYd.out.below HYd.out.lt hb4)
          have HB4:=hide (HBd.out.trans (hb4.mono HBd.out.size))
          refine hK.out _ _ hb4 ?_
          clear hK K hcall1 hb4 HXd HYd HBd HPd HQd
          try simp only[Act.put,List.setIfInBounds_toArray,List.set_cons_zero,List.set_cons_succ]
          refine grow_take 11 (some 73) (v:=?vs11) rfl rfl (by kernel_rfl) (by kernel_rfl) (by kernel_rfl) (fun _ _ _ h=>h) (by rfl) (fun W hW=>?ys11) ?_
          case ys11=>
           go_simp<;>with_reducible rfl
          simp only[Act.put,List.setIfInBounds_toArray,List.set_cons_zero,List.set_cons_succ]
          refine grow_done (by kernel_rfl) ?_ _
          obtain⟨_,c0,c1,c2,c3,c4,c5,c6⟩:=HX4.out
          cases bb with
          | false=>
           have hbf:=HNo.out rfl
           clear HYes HNo HX4 HY4
           go_wp2
           go_ret
           exact⟨by rw[hbf.out];rfl,HB4.out⟩
          | true=>
           have hst:=HYes.out rfl
           clear HYes HNo
           go_wp2
           go_roundg r
           case measure=>omega
           case rel=>exact⟨j+1,by omega,by go_num,hst,hide ⟨HB4.out,HX4.out,HY4.out⟩⟩
       ·have e1:((np:Int)==(np':Int))=false:=beq_false_of_ne (by omega)
        have e2:((np:Int)!=(np':Int))=true:=by unfold bne;rw[e1];rfl
        have hbf:Hid (b=false):=hide (by
         cases hbb:b with
         | false=>rfl
         | true=>exact absurd (by have h:=(inj hbb).2.2.2.2.2.2;rw[←Hnp.out,←Hnp'.out,h]) h6)
        clear HTx inj HD HP HD' HP' Hih Hnp Hnp' Hb h5 h6 start
        generalize txt a=sa at *
        generalize txt v=sv at *
        generalize txt f=sf at *
        generalize txt l=sl at *
        go_enter Tryz.func41,Tryz.ntmps41
        go_upto_region 1 with fail
        rw[HW1.out,HW2.out]
        (try rw[HSz.out])
        go_wp2_with (go_at_call 42;fail)
        refine hcall.mono ?_
        rintro e w3 ⟨rfl,hb3⟩
        have HX3:=hide (HX.out.below HX.out.lt hb3)
        have HY3:=hide (HY.out.below HY.out.lt hb3)
        have HB3:=hide (HB.out.trans (hb3.mono HB.out.size))
        clear hcall hb3 HX HY HB c0 c1 c2 c3 c4 c5 c6 d0 d1 d2 d3 d4 d5 d6
        obtain⟨_,c0,c1,c2,c3,c4,c5,c6⟩:=HX3.out
        obtain⟨_,d0,d1,d2,d3,d4,d5,d6⟩:=HY3.out
        go_wp2
        go_ret
        exact⟨by rw[hbf.out];rfl,HB3.out⟩
      ·have hcall:=HTx.out false ⟨fun h=>(by cases h),fun h=>absurd h h5⟩
       have hbf:Hid (b=false):=hide (by
        cases hbb:b with
        | false=>rfl
        | true=>exact absurd (inj hbb).2.2.2.2.2.1 h5)
       clear HTx inj HD HP HD' HP' Hih Hnp Hnp' Hb h5 start
       generalize txt a=sa at *
       generalize txt v=sv at *
       generalize txt f=sf at *
       generalize txt l=sl at *
       go_enter Tryz.func41,Tryz.ntmps41
       go_upto_region 1 with fail
       rw[HW1.out,HW2.out]
       (try rw[HSz.out])
       go_wp2_with (go_at_call 42;fail)
       refine hcall.mono ?_
       rintro e w3 ⟨rfl,hb3⟩
       have HB3:=hide (HB.out.trans (hb3.mono HB.out.size))
       clear hcall hb3 HX HY HB c0 c1 c2 c3 c4 c5 c6 d0 d1 d2 d3 d4 d5 d6
       go_wp2
       go_ret
       exact⟨by rw[hbf.out];rfl,HB3.out⟩
     ·have e1:=str_ne h4
      have e2:=bne_of e1
      have hbf:Hid (b=false):=hide (by
       cases hbb:b with
       | false=>rfl
       | true=>exact absurd (by have h:=hbb;exact (inj h |>.2.2.2.2.1)) h4)
      clear h4 inj HTx
      clear HD HP HD' HP' Hih Hnp Hnp' Hb start
      generalize txt a=sa at *
      generalize txt v=sv at *
      generalize txt f=sf at *
      generalize txt l=sl at *
      generalize txt l'=sl' at *
      go_enter Tryz.func41,Tryz.ntmps41
      go_upto_region 1 with fail
      rw[HW1.out,HW2.out]
      (try rw[HSz.out])
      go_wp2
      go_ret
      exact⟨by rw[hbf.out];rfl,HB.out⟩
    ·have e1:=str_ne h3
     have e2:=bne_of e1
     have hbf:Hid (b=false):=hide (by
      cases hbb:b with
      | false=>rfl
      | true=>exact absurd (by have h:=hbb;exact (inj h |>.2.2.2.1)) h3)
     clear h3 inj HTx
     clear HD HP HD' HP' Hih Hnp Hnp' Hb start
     generalize txt a=sa at *
     generalize txt v=sv at *
     generalize txt f=sf at *
     generalize txt l=sl at *
     generalize txt f'=sf' at *
     generalize txt l'=sl' at *
     go_enter Tryz.func41,Tryz.ntmps41
     go_upto_region 1 with fail
     rw[HW1.out,HW2.out]
     (try rw[HSz.out])
     go_wp2
     go_ret
     exact⟨by rw[hbf.out];rfl,HB.out⟩
   ·have e1:=str_ne h2
    have e2:=bne_of e1
    have hbf:Hid (b=false):=hide (by
     cases hbb:b with
     | false=>rfl
     | true=>exact absurd (by have h:=hbb;exact (inj h |>.2.2.1)) h2)
    clear h2 inj HTx
    clear HD HP HD' HP' Hih Hnp Hnp' Hb start
    generalize txt a=sa at *
    generalize txt v=sv at *
    generalize txt f=sf at *
    generalize txt l=sl at *
    generalize txt v'=sv' at *
    generalize txt f'=sf' at *
    generalize txt l'=sl' at *
    go_enter Tryz.func41,Tryz.ntmps41
    go_upto_region 1 with fail
    rw[HW1.out,HW2.out]
    (try rw[HSz.out])
    go_wp2
    go_ret
    exact⟨by rw[hbf.out];rfl,HB.out⟩
  ·have e1:=str_ne h1
   have e2:=bne_of e1
   have hbf:Hid (b=false):=hide (by
    cases hbb:b with
    | false=>rfl
    | true=>exact absurd (by have h:=hbb;exact (inj h |>.2.1)) h1)
   clear h1 inj HTx
   clear HD HP HD' HP' Hih Hnp Hnp' Hb start
   generalize txt a=sa at *
   generalize txt v=sv at *
   generalize txt f=sf at *
   generalize txt l=sl at *
   generalize txt a'=sa' at *
   generalize txt v'=sv' at *
   generalize txt f'=sf' at *
   generalize txt l'=sl' at *
   go_enter Tryz.func41,Tryz.ntmps41
   go_upto_region 1 with fail
   rw[HW1.out,HW2.out]
   (try rw[HSz.out])
   go_wp2
   go_ret
   exact⟨by rw[hbf.out];rfl,HB.out⟩
 ·have e1:(k==k')=false:=beq_false_of_ne h0
  have e2:(k !=k')=true:=by unfold bne;rw[e1];rfl
  have hbf:Hid (b=false):=hide (by
   cases hbb:b with
   | false=>rfl
   | true=>exact absurd (by have h:=hbb;exact (inj h |>.1)) h0)
  clear h0 inj HTx
  clear HD HP HD' HP' Hih Hnp Hnp' Hb start
  generalize txt a=sa at *
  generalize txt v=sv at *
  generalize txt f=sf at *
  generalize txt l=sl at *
  generalize txt a'=sa' at *
  generalize txt v'=sv' at *
  generalize txt f'=sf' at *
  generalize txt l'=sl' at *
  go_enter Tryz.func41,Tryz.ntmps41
  go_upto_region 1 with fail
  rw[HW1.out,HW2.out]
  (try rw[HSz.out])
  go_wp2
  go_ret
  exact⟨by rw[hbf.out];rfl,HB.out⟩
end Go.Proofs.YtcpjmgfloimfhaaGreat
namespace Go.Proofs.YtcpjmgfloimfhaaGreat
open Go.RowKit
set_option linter.unusedVariables false
theorem loadI8 (W:World) (p:Addr) (v:Value) (h:W.cell? p=some v):(loadVar 2 p).run Tryz.prog W=.ok v W:=by go_simp
theorem loadS8 (W:World) (p:Addr) (v:Value) (h:W.cell? p=some v):(loadVar 9 p).run Tryz.prog W=.ok v W:=by go_simp
theorem loadB8 (W:World) (p:Addr) (v:Value) (h:W.cell? p=some v):(loadVar 4 p).run Tryz.prog W=.ok v W:=by go_simp
theorem loadRC (W:World) (p:Addr) (v:Value) (h:W.cell? p=some v):(loadVar 28 p).run Tryz.prog W=.ok v W:=by go_simp
theorem rowC_any {w w':World} {P P':Nat→Prop}:∀{L:List Ct} {xs:List Value},rowIn elC w P L xs→rowIn elC w' P' L xs
 | [],xs,h=>h
 | c::r,xs,h=>⟨h.1,rowC_any h.2⟩
abbrev ctCells (c:Ct):List Value:=[.string (txt c.oid),.bool c.crit,.bool c.hasv,.string (txt c.value)]
structure MConv (m:MT) (w:World) (e:Ending) (w':World):Prop where
 out:∃v',e=.returned v'∧repM w' (inB w') m v'∧Below w.heap.size w w'
structure MTh (w2 wx:World) (h:Nat) (cy:List Value) (t:FT) (g0 g1 g2 g3 g4 g5 g6:Value):Prop where
 bel:Below w2.heap.size w2 wx
 le:w2.heap.size≤h
 blk:Blk wx h cy
 filt:FInP wx (fun b=>w2.heap.size≤b∧b≠h∧b<wx.heap.size) t [g0,g1,g2,g3,g4,g5,g6]
structure MLp (cty:TypeId) (wc wx:World) (h:Nat) (cy:List Value) (v:Value) (L:List Ct) (xs:List Value):Prop where
 fr:Fr (fun k=>k=h) wc wx
 blk:Blk wx h (cy.set 31 v)
 own:wx.ownsRow wc.heap.size cty 4 v L.length xs
 row:rowIn elC wx (inB wx) L xs
theorem MLp.next {cty:TypeId} {wc wr w9:World} {h:Nat} {cy:List Value} {v6 v9:Value} {L:List Ct} {xs:List Value} {c:Ct} {o:Obj} {wd:World} (hd:Fr (fun _=>False) wr wd) (hT:MLp cty wc wr h cy v6 L xs) (hlt:h<wc.heap.size) (hn:cy.length=32)
  (hown:w9.ownsRow wc.heap.size cty 4 v9 (L.length+1) (xs++ctCells c)) (hg:(wd.alloc o).grownBy w9 v6.ownBlock):
  MLp cty wc (w9.setCell ⟨h,31,none⟩ v9) h cy v9 (L++[c]) (xs++ctCells c):=by
 have hb:∀k,v6.ownBlock=some k→wc.heap.size≤k:=fun k hk=>(hT.own.lt k hk).1
 have h1:Fr (fun k=>v6.ownBlock=some k) wr w9:=((hd.mono fun _ _ q=>q.elim).trans (Fr.alloc _ wd o)).trans (Fr.grown hg fun k hk=>hk)
 have h2:Fr (fun k=>k=h) w9 (w9.setCell ⟨h,31,none⟩ v9):=Fr.setCell _ _ _ rfl
 have h3:Fr (fun k=>k=h) wc w9:=hT.fr.trans' h1 (fun i hi hk=>by have:=hb i hk;omega)
 refine⟨h3.trans h2,?_,?_,?_⟩
 ·have:=(hT.blk.fr h1 (fun hk=>by have:=hb h hk;omega)).set 31 v9 (by simp[hn])
  rwa [List.set_set] at this
 ·have:=own_fr hown h2 (fun k hk e=>by omega)
  simpa using this
 ·exact (rowC_any (rowIn.snoc (w:=wr) (P:=inB wr) hT.row (show elC.rep wr (inB wr) c (ctCells c) from rfl)))
theorem blk_same {w w':World} {h:Nat} {us:List Value} (t:Blk w h us) (hs:w.heap.size≤w'.heap.size) (hh:w'.heap[h]?=w.heap[h]?):Blk w' h us:=
 ⟨Nat.lt_of_lt_of_le t.lt hs,fun i u hu=>(World.cell?_of_block (w:=w) hh).trans (t.cells i u hu),fun i=>(World.frozen?_of_block (w:=w) hh).trans (t.fz i)⟩
theorem blk_sets32 {w:World} {h:Nat} {us cs:List Value} (t:Blk w h us) (hu:us.length=32) (hc:cs.length=32):Blk (w.setCells h 0 cs) h cs:=t.sets 0 cs (by omega) cs (by rw[List.drop_of_length_le (by omega)];simp)
theorem mcells_one {m:MT} {g0 g1 g2 g3 g4 g5 g6 va vl vc vr vk:Value} (hg:∀u∈[g0,g1,g2,g3,g4,g5,g6],u.oneCell'=true) (h1:va.oneCell'=true) (h2:vl.oneCell'=true) (h3:vc.oneCell'=true) (h4:vr.oneCell'=true) (h5:vk.oneCell'=true):
  ∀u∈mcells m g0 g1 g2 g3 g4 g5 g6 va vl vc vr vk,u.oneCell'=true:=by
 intro u hu
 have hu2:u∈([.int .i64 m.id,.int .i64 m.kind,.string (txt m.name),.string (txt m.pw),.int .i64 m.ver,.int .i64 m.scope,.int .i64 m.deref,.int .i64 m.size,.int .i64 m.time,.bool m.tonly]:List Value)++([g0,g1,g2,g3,g4,g5,g6]++([va,vl,vc]++(([.string (txt m.nrdn),.bool m.delold,.bool m.hassup,.string (txt m.sup),.string (txt m.attr),.string (txt m.value),.int .i64 m.target,.int .i64 m.code,.string (txt m.matched),.string (txt m.text)]:List Value)++[vr,vk]))):=hu
 rcases List.mem_append.1 hu2 with q | q
 ·simp only[List.mem_cons,List.not_mem_nil,or_false] at q
  rcases q with rfl | rfl | rfl | rfl | rfl | rfl | rfl | rfl | rfl | rfl<;>rfl
 rcases List.mem_append.1 q with q | q
 ·exact hg u q
 rcases List.mem_append.1 q with q | q
 ·simp only[List.mem_cons,List.not_mem_nil,or_false] at q
  rcases q with rfl | rfl | rfl<;>assumption
 rcases List.mem_append.1 q with q | q
 ·simp only[List.mem_cons,List.not_mem_nil,or_false] at q
  rcases q with rfl | rfl | rfl | rfl | rfl | rfl | rfl | rfl | rfl | rfl<;>rfl
 ·simp only[List.mem_cons,List.not_mem_nil,or_false] at q
  rcases q with rfl | rfl<;>assumption
theorem exec_build {a:Act} {W:World} (t:TypeId) (parts:Array (Nat × Operand)) (oi:Oper) (ho:oi.op=.build t parts) (cells:Array Value) (hb:Tryz.prog.built t (parts.map fun (i,x)=>(i,a.eval x)).toList=some cells):
  (execOp a.eval oi).run Tryz.prog W=.ok (.value (.agg cells)) W:=by
 unfold execOp
 simp only[ho,Sem.run_bind,run_build W t _ _ hb,Result.andThen_ok,Sem.run_pure]
theorem boxTo {ops:Array Oper} {rest:List Oper} {o:Oper} {a:Act} {w:World} {Q:Exit→Act→World→Prop} (hg:o.guard=none) (t:TypeId) (x:Operand) (ho:o.op=.box t x)
  (dst:Option Tmp) (hdst:o.dst=dst) (cs:List Value) (hx:a.eval x=.agg cs.toArray) (N:Nat) (hN:w.heap.size=N) (w':World) (hw:w.alloc (.cells cs.toArray t)=w')
  (h:wpList Tryz.prog ops Q rest (a.put dst (.pointer (some ⟨N,0,none⟩))) w'):wpList Tryz.prog ops Q (o::rest) a w:=by
 subst hdst hN hw
 refine wpList_plain hg fun K hK=>?_
 unfold Oper.wp execOp
 have hx2:(a.eval x).cells=cs.toArray:=by rw[hx];rfl
 simp only[ho,Sem.run_bind,Instr.box,newVar,newRow,run_newObj_alloc,Sem.run_pure,Result.andThen_ok,hx2]
 exact hK _ _ h
theorem stepB {ops:Array Oper} {o:Oper} {a:Act} {K:Act→World→Prop} {Q:Exit→Act→World→Prop} {E:Prop} (W:World) (hd:o.dst=none) (hgd:o.guard=none) (ty:TypeId) (x y:Operand) (ho:o.op=.store ty x y)
  (b:Nat) (us cs:List Value) (hx:a.eval x=.pointer (some ⟨b,0,none⟩)) (hy:a.eval y=.agg cs.toArray) (hB:Blk W b us) (hl:us.length=cs.length) (hi:(Tryz.prog.info? ty).map (·.size)=some cs.length) (h1:∀u∈cs,u.oneCell'=true)
  (h:∀wz,wz=W.setCells b 0 cs→K (a.put none undef) wz):if Region.wanted o (yielded ops a.tmps)=true then Oper.wp Tryz.prog o a W K Q else E:=by
 refine step_store W none hd hgd ty x y ho b 0 cs.toArray hx hy ?_ (by simpa using hi) (by simpa using h1) (h _ (by simp))
 have:=hB.there 0 cs.length (by omega)
 simpa using this
theorem storeToM {ops:Array Oper} {rest:List Oper} {o:Oper} {a:Act} {Q:Exit→Act→World→Prop} (w:World) (hgd:o.guard=none) (x y:Operand) (ho:o.op=.store 42 x y)
  (h:Nat) (us:List Value) (cs:List Value) (hx:a.eval x=.pointer (some ⟨h,0,none⟩)) (hy:a.eval y=.agg cs.toArray) (hB:Blk w h us) (hl:us.length=32) (hn:cs.length=32) (h1:∀u∈cs,u.oneCell'=true)
  (wz:World) (hwz:w.setCells h 0 cs=wz) (H:wpList Tryz.prog ops Q rest (a.put o.dst undef) wz):wpList Tryz.prog ops Q (o::rest) a w:=by
 subst hwz
 exact storeB w hgd 42 x y ho h 0 us cs hx hy hB (by omega) (by rw[hn];kernel_rfl) h1 (fun wz e=>by rw[e];exact H)
theorem built_msgM (m:MT) (g0 g1 g2 g3 g4 g5 g6:Value) (A1 A2 A3 A4:Option Addr) (n1 n2 n3 n4 c1 c2 c3 c4:Nat):Tryz.prog.built 42 [(0,.int .i64 m.id),(1,.int .i64 m.kind),(2,.string (txt m.name)),(3,.string (txt m.pw)),(4,.int .i64 m.ver),(5,.int .i64 m.scope),(6,.int .i64 m.deref),(7,.int .i64 m.size),(8,.int .i64 m.time),(9,.bool m.tonly),(10,.agg #[g0,g1,g2,g3,g4,g5,g6]),(11,.slice A1 n1 c1),(12,.slice A2 n2 c2),(13,.slice A3 n3 c3),(14,.string (txt m.nrdn)),(15,.bool m.delold),(16,.bool m.hassup),(17,.string (txt m.sup)),(18,.string (txt m.attr)),(19,.string (txt m.value)),(20,.int .i64 m.target),(21,.int .i64 m.code),(22,.string (txt m.matched)),(23,.string (txt m.text)),(24,.slice A4 n4 c4)]=some (mcells m g0 g1 g2 g3 g4 g5 g6 (.slice A1 n1 c1) (.slice A2 n2 c2) (.slice A3 n3 c3) (.slice A4 n4 c4) (.slice none 0 0)).toArray:=by kernel_rfl
theorem infoCM:(Tryz.prog.info? 67).map (fun i=>(i.zero,i.size,i.bytes))=some (some (.agg #[.string .empty,.bool false,.bool false,.string .empty]),4,40):=by kernel_rfl
end Go.Proofs.YtcpjmgfloimfhaaGreat
