/- Several texts in one: JSame, LSameL. By an AI agent. -/
import Derived.Test.YtpkedjohgmnhhaaGreatJForm
import Derived.Test.YtpkedjohgmnhhaaGreatHTheirs
import Derived.Test.YtpkedjohgmnhhaaGreatShelf
import Derived.Test.YtpkedjohgmnhhaaGreatLSameN
set_option maxRecDepth 100000
set_option maxHeartbeats 64000000
set_option linter.unusedSimpArgs false
namespace Go.Proofs.YtpkedjohgmnhhaaGreat
open Go.RowKit
set_option linter.unusedVariables false
theorem jmap_txt_inj {T U:List (List UInt8)} (h:T.map txt=U.map txt):T=U:=by
 have:=congrArg (List.map fun x:ByteArray=>x.data.toList) h
 rw[List.map_map,List.map_map] at this
 have e:((fun x:ByteArray=>x.data.toList) ∘ txt)=id:=by funext x;exact txt_toList x
 rw[e,List.map_id,List.map_id] at this
 exact this
theorem jtexts_getD {T:List (List UInt8)} {w:World} {g o:Nat} (h:∀(i:Nat) (x:List UInt8),T[i]?=some x→w.cell? ⟨g,o+i,none⟩=some (.string (txt x))):
  ∀j,j<(T.map txt).length→w.cell? ⟨g,o+j,none⟩=some (.string ((T.map txt).getD j ByteArray.empty)):=by
 intro j hj
 rw[List.length_map] at hj
 rw[h j T[j] (List.getElem?_eq_getElem hj)]
 simp[List.getD_eq_getElem?_getD,hj]
open Classical in
theorem jequal_any (w:World) (A B:Option Addr) (n c m d:Nat) (T U:List (List UInt8)) (hA:Has w w.heap.size 1 A n (strs T)) (hB:Has w w.heap.size 1 B m (strs U)) (hn:n≤1000000):
  Calls Tryz.prog 51 #[.slice A n c,.slice B m d] w fun e w'=>e=.returned (.bool (decide (T=U)))∧Below w.heap.size w w':=by
 have h1:=hA.strs_n
 have h2:=hB.strs_n
 by_cases hnm:n=m
 ·have hm:m≤1000000:=by omega
  by_cases hT:T=[]
  ·subst hT
   obtain rfl:n=0:=by simpa using h1
   subst hnm
   obtain rfl:U=[]:=List.eq_nil_of_length_eq_zero h2.symm
   refine (Tryz.slices_Equal_string_empty A B c 0 d w (by omega)).mono ?_
   rintro e w' ⟨rfl,rfl⟩
   exact⟨by simp,Below.refl _ _⟩
  ·have hU:U≠[]:=by
    rintro rfl
    exact hT (List.eq_nil_of_length_eq_zero (by rw[←h1,hnm,h2];rfl))
   obtain⟨g1,o1,rfl,_,hc1⟩:=hA.texts hT
   obtain⟨g2,o2,rfl,_,hc2⟩:=hB.texts hU
   refine (Tryz.slices_Equal_string g1 o1 n c g2 o2 m d (T.map txt) (U.map txt) w (by rw[List.length_map];omega) (by rw[List.length_map];omega) (by omega) (by omega) (jtexts_getD hc1) (jtexts_getD hc2)).mono ?_
   rintro e w' ⟨rfl,q,rfl⟩
   refine⟨?_,Below.drewN (Below.refl _ _) q⟩
   rw[List.take_of_length_le (by rw[List.length_map];omega),List.take_of_length_le (by rw[List.length_map];omega)]
   by_cases h:T=U
   ·subst h;simp
   ·have h':¬T.map txt=U.map txt:=fun e=>h (jmap_txt_inj e)
    rw[decide_eq_false h,decide_eq_false h']
 ·refine (Tryz.slices_Equal_string_lens A B n c m d w hnm).mono ?_
  rintro e w' ⟨rfl,rfl⟩
  have:¬T=U:=fun h=>hnm (by rw[h1,h2,h])
  exact⟨by rw[decide_eq_false this],Below.refl _ _⟩
open Classical in
noncomputable def FT.eqB (t t':FT):Bool:=decide (t=t')
open Classical in
noncomputable def FT.eqsB (t t':List FT):Bool:=decide (t=t')
theorem FT.eqB_iff {t t':FT}:FT.eqB t t'=true↔t=t':=by unfold FT.eqB;simp
theorem FT.eqsB_iff {t t':List FT}:FT.eqsB t t'=true↔t=t':=by unfold FT.eqsB;simp
theorem jequalf_any (g:Nat) (lb:Array Value) (eg:∀args w,(callFunc g args).run Tryz.prog w=.ok (.enter g args) w) (ps ps':List FT) (w:World) (D D':Option Addr) (n n' d d':Nat) (xs xs':List Value)
  (hD:Has w w.heap.size 7 D n xs) (hP:FsIn w w.heap.size ps xs) (hD':Has w w.heap.size 7 D' n' xs') (hP':FsIn w w.heap.size ps' xs') (hn:ps.length=n) (hn':ps'.length=n') (hnl:n≤9223372036854775807) (hnl':n'≤9223372036854775807)
  (hp:∀p∈ps,∀(q:FT) (W:World) (u0 u1 u2 u3 u4 u5 u6 v0 v1 v2 v3 v4 v5 v6:Value),Below w.heap.size w W→FIn W W.heap.size p [u0,u1,u2,u3,u4,u5,u6]→FIn W W.heap.size q [v0,v1,v2,v3,v4,v5,v6]→
   Calls Tryz.prog g (#[.agg #[u0,u1,u2,u3,u4,u5,u6],.agg #[v0,v1,v2,v3,v4,v5,v6]]++lb) W fun e w'=>e=.returned (.bool (FT.eqB p q))∧Below W.heap.size W w'):
  Calls Tryz.prog 95 #[.slice D n d,.slice D' n' d',.func (.func g) #[] lb] w fun e w'=>e=.returned (.bool (FT.eqsB ps ps'))∧Below w.heap.size w w':=by
 obtain⟨R,hR⟩:∃R,FT.eqsB ps ps'=R:=⟨_,rfl⟩
 have hRy:ps=ps'→R=true:=fun h=>by rw[←hR];exact FT.eqsB_iff.2 h
 have hRn:ps≠ps'→R=false:=fun h=>by
  cases hb:R with
  | false=>rfl
  | true=>rw[hb] at hR;exact absurd (FT.eqsB_iff.1 hR) h
 rw[hR]
 have hni:(n:Int)≤9223372036854775807:=by omega
 have hni':(n':Int)≤9223372036854775807:=by omega
 by_cases hnn:n=n'
 ·subst hnn
  have HRy:=hide hRy
  have HRn:=hide hRn
  have HD:=hide hD
  have HP:=hide hP
  have HD':=hide hD'
  have HP':=hide hP'
  have HN:=hide hn
  have HN':=hide hn'
  have HC:=hide hp
  clear hD hP hD' hP' hn hn' hp hR hRy hRn
  go_enter Tryz.func95,Tryz.ntmps95
  go_wp2
  go_loopg [17] n (fun r s17 wx=>∃j:Nat,j+r=n∧s17=.int .i64 (j:Int)∧Hid (ps.take j=ps'.take j)∧Hid (Below w.heap.size w wx))
  case atStart=>exact⟨0,by omega,rfl,hide rfl,hide (Below.refl _ _)⟩
  case round=>
   obtain⟨j,hjg,rfl,hpre,hbr⟩:=hrel
   have hb2:=hbr.out
   cases gk with
   | zero=>
    obtain rfl:j=n:=by omega
    have hjz:¬((j:Int)<(j:Int)):=by omega
    have hq:Hid (R=true):=hide (HRy.out (by
     have:=hpre.out
     rwa [List.take_of_length_le (by rw[HN.out];exact Nat.le_refl _),List.take_of_length_le (by rw[HN'.out];exact Nat.le_refl _)] at this))
    clear HD HP HD' HP' HN HN' hpre HRy HRn HC
    go_wp2
    go_ret
    exact⟨by rw[hq.out];rfl,hb2⟩
   | succ r=>
    have hj:j<n:=by omega
    have hjz:(j:Int)<(n:Int):=by omega
    obtain⟨p,hp⟩:∃p,ps[j]?=some p:=⟨_,List.getElem?_eq_getElem (by rw[HN.out];exact hj)⟩
    obtain⟨q,hq⟩:∃q,ps'[j]?=some q:=⟨_,List.getElem?_eq_getElem (by rw[HN'.out];exact hj)⟩
    have HD1:=HD.out
    have HP1:=HP.out
    have HD2:=HD'.out
    have HP2:=HP'.out
    rw[←HN.out] at HD1
    rw[←HN'.out] at HD2
    obtain⟨g1,o1,hDe,hg,hparts⟩:=HD1.part HP1 (fun h=>by rw[h] at hp;simp at hp)
    obtain⟨g2,o2,hDe',hg',hparts'⟩:=HD2.part HP2 (fun h=>by rw[h] at hq;simp at hq)
    subst hDe hDe'
    obtain⟨u0,u1,u2,u3,u4,u5,u6,hpart⟩:=hparts j p hp
    obtain⟨v0,v1,v2,v3,v4,v5,v6,hpart'⟩:=hparts' j q hq
    obtain⟨pk,pa,pv,pf,pl,pA,pm,pc,pD,pn,pd,rfl,rfl,rfl,rfl,rfl,rfl,rfl⟩:=hpart.fin.shape
    obtain⟨qk,qa,qv,qf,ql,qA,qm,qc,qD,qn,qd,rfl,rfl,rfl,rfl,rfl,rfl,rfl⟩:=hpart'.fin.shape
    obtain⟨hcp2,_,x0,x1,x2,x3,x4,x5,x6⟩:=hpart.below hb2
    replace hcp2:=hcp2.upto hb2.size
    have hPX:=Box7.new wr pk pa pv pf pl pA pm pc pD pn pd 39
    have hbp:=below1 wr (.cells #[.int .i64 pk,.string pa,.string pv,.string pf,.string pl,.slice pA pm pc,.slice pD pn pd] 39)
    obtain⟨wp,hwp⟩:∃wp,wr.alloc (.cells #[.int .i64 pk,.string pa,.string pv,.string pf,.string pl,.slice pA pm pc,.slice pD pn pd] 39)=wp:=⟨_,rfl⟩
    have hsz:wp.heap.size=wr.heap.size+1:=by rw[←hwp];simp
    rw[hwp] at hPX hbp
    have hb3:=hb2.trans (hbp.mono hb2.size)
    have hcp3:=hcp2.grow hbp
    obtain⟨hcq3,_,y0,y1,y2,y3,y4,y5,y6⟩:=hpart'.below hb3
    replace hcq3:=hcq3.upto hb3.size
    have hQX:=Box7.new wp qk qa qv qf ql qA qm qc qD qn qd 39
    have hbq:=below1 wp (.cells #[.int .i64 qk,.string qa,.string qv,.string qf,.string ql,.slice qA qm qc,.slice qD qn qd] 39)
    obtain⟨wq,hwq⟩:∃wq,wp.alloc (.cells #[.int .i64 qk,.string qa,.string qv,.string qf,.string ql,.slice qA qm qc,.slice qD qn qd] 39)=wq:=⟨_,rfl⟩
    rw[hwq] at hQX hbq
    have hb4:=hb3.trans (hbq.mono hb3.size)
    have hcp4:=hcp3.grow hbq
    have hcq4:=hcq3.grow hbq
    have hPX4:=hPX.below hPX.lt hbq
    rw[hsz] at hQX
    have hcall:=HC.out p (List.mem_of_getElem? hp) q wq _ _ _ _ _ _ _ _ _ _ _ _ _ _ hb4 hcp4 hcq4
    obtain⟨bb,hbb⟩:∃bb,FT.eqB p q=bb:=⟨_,rfl⟩
    have hyes:bb=true→Hid (ps.take (j+1)=ps'.take (j+1)):=fun h=>hide (by
     rw[←hbb] at h
     rw[List.take_add_one,List.take_add_one,hpre.out,hp,hq,FT.eqB_iff.1 h])
    have hno:bb=false→Hid (R=false):=fun h=>hide (HRn.out (fun e=>by
     rw[e,hq] at hp
     have:=FT.eqB_iff.2 (Option.some.inj hp).symm
     rw[hbb,h] at this
     cases this))
    rw[hbb] at hcall
    have HYes:=hide hyes
    have HNo:=hide hno
    have Hwp:=hide hwp
    have Hwq:=hide hwq
    have Hsz:=hide hsz
    have HPX4:=hide hPX4
    have HQX:=hide hQX
    have Hb4:=hide hb4
    obtain⟨_,p0,p1,p2,p3,p4,p5,p6⟩:=hPX
    clear HD HP HD' HP' HN HN' hpre HRy HRn HC hp hq HD1 HP1 HD2 HP2 hparts hparts' hpart hpart' hcp2 hcp3 hcp4 hcq3 hcq4 hyes hno hwp hwq hsz hPX4 hQX hb4 hb3 hbp hbq hbr hb2 hbb
    go_upto_region 6 with fail
    rw[Hwp.out]
    go_upto_region 7 with fail
    (try rw[Hsz.out])
    rw[Hwq.out]
    obtain⟨_,a0,a1,a2,a3,a4,a5,a6⟩:=HPX4.out
    obtain⟨_,b0,b1,b2,b3,b4,b5,b6⟩:=HQX.out
    go_wp2_with (go_at_fn g;fail)
    refine hcall.mono ?_
    rintro e w5 ⟨rfl,hb5⟩
    have hb6:=hide (Hb4.out.trans (hb5.mono Hb4.out.size))
    clear hcall hb5 x0 x1 x2 x3 x4 x5 x6 y0 y1 y2 y3 y4 y5 y6 p0 p1 p2 p3 p4 p5 p6 a0 a1 a2 a3 a4 a5 a6 b0 b1 b2 b3 b4 b5 b6 HPX4 HQX Hb4
    cases bb with
    | false=>
     have hbf:=HNo.out rfl
     clear HYes HNo
     go_wp2
     go_ret
     exact⟨by rw[hbf.out];rfl,hb6.out⟩
    | true=>
     have hst:=HYes.out rfl
     clear HYes HNo
     go_wp2
     go_roundg r
     case measure=>omega
     case rel=>exact⟨j+1,by omega,by go_num,hst,hb6⟩
 ·have z1:((n:Int)==(n':Int))=false:=beq_false_of_ne (by omega)
  have z2:((n:Int)!=(n':Int))=true:=by unfold bne;rw[z1];rfl
  obtain rfl:=hRn (fun h=>hnn (by rw[←hn,←hn',h]))
  clear hD hP hD' hP' hp hR hRy hRn hn hn' hnn
  go_enter Tryz.func95,Tryz.ntmps95
  go_wp2
  go_ret
  exact⟨rfl,Below.refl _ _⟩
end Go.Proofs.YtpkedjohgmnhhaaGreat
namespace Go.Proofs.YtpkedjohgmnhhaaGreat
open Go.RowKit
set_option linter.unusedVariables false
abbrev inB (w:World):Nat→Prop:=fun k=>k<w.heap.size
theorem rowIn.at_ {α:Type} {E:Elem α} {w:World} {P:Nat→Prop}:∀{L:List α} {xs:List Value},rowIn E w P L xs→∀(i:Nat) (x:α),L[i]?=some x→E.rep w P x ((xs.drop (i*E.size)).take E.size)
 | [],xs,h,i,x,hx=>by simp at hx
 | q::r,xs,h,0,x,hx=>by
  simp only[List.getElem?_cons_zero,Option.some.injEq] at hx
  subst hx
  simpa using h.1
 | q::r,xs,h,i+1,x,hx=>by
  simp only[List.getElem?_cons_succ] at hx
  have:=rowIn.at_ h.2 i x hx
  rw[List.drop_drop] at this
  rwa [show (i+1)*E.size=E.size+i*E.size by rw[Nat.add_mul];omega]
theorem row_part {α:Type} {E:Elem α} {w:World} {P:Nat→Prop} {A:Option Addr} {n:Nat} {L:List α} {xs:List Value} (hA:HasP w P E.size A n xs) (hr:rowIn E w P L xs) (hs:0<E.size) (hL:L≠[]):
  ∃g o,A=some ⟨g,o,none⟩∧P g∧∀(i:Nat) (x:α),L[i]?=some x→∃cs,E.rep w P x cs∧∀(j:Nat) (u:Value),cs[j]?=some u→w.cell? ⟨g,o+i*E.size+j,none⟩=some u:=by
 have hl:=hr.len
 have hp:=List.length_pos_iff.2 hL
 obtain⟨g,o,e,hg,hc⟩:=hA.lies (by rw[hl];exact Nat.mul_pos hp hs)
 refine⟨g,o,e,hg,fun i x hx=>⟨_,hr.at_ i x hx,fun j u hu=>?_⟩⟩
 have:=hc (i*E.size+j) u (by
  rw[List.getElem?_take] at hu
  split at hu
  ·rwa [List.getElem?_drop] at hu
  ·cases hu)
 rwa [←Nat.add_assoc] at this
theorem txt_lists {a b:List UInt8} (h:(txt a).toList=(txt b).toList):a=b:=by
 rw[ByteArray.toList_eq,ByteArray.toList_eq] at h
 rw[←txt_toList a,←txt_toList b]
 exact h
theorem repL_below {α:Type} {E:Elem α} {w w':World} {L:List α} {v:Value} (h:repL E w (inB w) L v) (hb:Below w.heap.size w w'):repL E w' (inB w') L v:=
 repL_move (fun p hp=>hb.cell (by exact hp)) (fun k hk=>Nat.lt_of_lt_of_le hk hb.size) h
theorem rep_below {α:Type} {E:Elem α} {w w':World} {x:α} {cs:List Value} (h:E.rep w (inB w) x cs) (hb:Below w.heap.size w w'):E.rep w' (inB w') x cs:=
 E.move (fun p hp=>hb.cell (by exact hp)) (fun k hk=>Nat.lt_of_lt_of_le hk hb.size) h
theorem sameAttrs_any (w:World) (x y:Atr) (cs cs':List Value) (hx:elA.rep w (inB w) x cs) (hy:elA.rep w (inB w) y cs') (b:Bool) (hb:b=true↔x=y):
  Calls Tryz.prog 53 #[.agg cs.toArray,.agg cs'.toArray] w fun e w'=>e=.returned (.bool b)∧Below w.heap.size w w':=by
 obtain⟨A,c,rfl,hl,hA⟩:=hx
 obtain⟨B,d,rfl,hm,hB⟩:=hy
 obtain⟨xt,xv⟩:=x
 obtain⟨yt,yv⟩:=y
 simp only at hl hA hm hB ⊢
 have hf1:Below w.heap.size w (w.alloc (.cells #[.string (txt xt),.slice A xv.length c] 59)):=(Below.refl _ _).alloc (Nat.le_refl _) _
 have h1:=Blk.new w [.string (txt xt),.slice A xv.length c] 59
 obtain⟨w1,hw1⟩:∃w1,w.alloc (.cells #[.string (txt xt),.slice A xv.length c] 59)=w1:=⟨_,rfl⟩
 have hs1:w1.heap.size=w.heap.size+1:=by rw[←hw1];simp
 rw[hw1] at hf1
 have h1:Blk w1 w.heap.size [.string (txt xt),.slice A xv.length c]:=by rw[←hw1];exact h1
 have hf2:Fr (fun _=>False) w1 (w1.alloc (.cells #[.string (txt yt),.slice B yv.length d] 59)):=Fr.alloc _ _ _
 have h2:=Blk.new w1 [.string (txt yt),.slice B yv.length d] 59
 obtain⟨w2,hw2⟩:∃w2,w1.alloc (.cells #[.string (txt yt),.slice B yv.length d] 59)=w2:=⟨_,rfl⟩
 rw[hw2] at hf2
 have h2:Blk w2 (w.heap.size+1) [.string (txt yt),.slice B yv.length d]:=by rw[←hw2,←hs1];exact h2
 have h1b:=h1.fr hf2 id
 have hb2:Below w.heap.size w w2:=hf1.trans (hf2.below (by omega) (fun k q=>q.elim))
 have hA2:Has w2 w2.heap.size 1 A xv.length (strs xv):=((HasP.has hA (fun k hk=>hk)).below hb2).upto hb2.size
 have hB2:Has w2 w2.heap.size 1 B yv.length (strs yv):=((HasP.has hB (fun k hk=>hk)).below hb2).upto hb2.size
 have k0:=h1b.cells 0 _ rfl
 have k1:=h1b.cells 1 _ rfl
 have q0:=h2.cells 0 _ rfl
 have q1:=h2.cells 1 _ rfl
 have Hw1:=hide hw1
 have Hw2:=hide hw2
 have Hb2:=hide hb2
 obtain⟨b1,hb1⟩:∃b1,w.heap.size=b1:=⟨_,rfl⟩
 have Hb1:=hide hb1
 rw[hb1] at k0 k1 q0 q1
 obtain⟨b3,hb3⟩:∃b3,b1+1=b3:=⟨_,rfl⟩
 have Hb3:=hide hb3
 rw[hb3] at q0 q1
 by_cases ht:xt=yt
 ·subst ht
  have heq:=jequal_any w2 A B xv.length c yv.length d xv yv hA2 hB2 (by omega)
  have hbv:b=decide (xv=yv):=by
   cases b with
   | true=>have:=hb.1 rfl;simp only[Prod.mk.injEq] at this;rw[decide_eq_true this.2]
   | false=>rw[decide_eq_false];intro e;have:=hb.2 (by rw[e]);cases this
  rw[←hbv] at heq
  have Heq:=hide heq
  clear hA hB hA2 hB2 hb hbv heq hf1 hf2 h1 h2 h1b hb2 hs1 hw1 hw2 hb1 hb3 hl hm
  generalize xv.length=n1 at *
  generalize yv.length=n2 at *
  go_enter Tryz.func53,Tryz.ntmps53
  go_upto_region 1 with fail
  rw[Hw1.out,Hw2.out,Hb1.out,Hb3.out]
  go_wp2_with (go_at_call 51;fail)
  refine Heq.out.mono ?_
  rintro e w3 ⟨rfl,hb3⟩
  have HB3:=hide hb3
  clear hb3 Heq k0 k1 q0 q1
  cases b
  all_goals
   go_wp2
   go_ret
   exact⟨rfl,Hb2.out.trans (HB3.out.mono Hb2.out.size)⟩
 ·have n1:¬txt xt=txt yt:=fun q=>ht (txt_inj q)
  have n3:((txt xt).toList==(txt yt).toList)=false:=beq_false_of_ne (fun q=>ht (txt_lists q))
  obtain rfl:b=false:=by
   cases b with
   | false=>rfl
   | true=>exact absurd (congrArg Prod.fst (hb.1 rfl)) ht
  clear hA hB hA2 hB2 hb hf1 hf2 h1 h2 h1b hb2 hs1 hw1 hw2 hb1 hb3 hl hm
  generalize xv.length=n1 at *
  generalize yv.length=n2 at *
  generalize txt xt=s1 at *
  generalize txt yt=s2 at *
  go_enter Tryz.func53,Tryz.ntmps53
  go_upto_region 1 with fail
  rw[Hw1.out,Hw2.out,Hb1.out,Hb3.out]
  go_wp2
  go_ret
  exact⟨rfl,Hb2.out⟩
theorem sameChanges_any (w:World) (x y:Int × Atr) (cs cs':List Value) (hx:elH.rep w (inB w) x cs) (hy:elH.rep w (inB w) y cs') (b:Bool) (hb:b=true↔x=y):
  Calls Tryz.prog 55 #[.agg cs.toArray,.agg cs'.toArray] w fun e w'=>e=.returned (.bool b)∧Below w.heap.size w w':=by
 obtain⟨A,c,rfl,hl,hA⟩:=hx
 obtain⟨B,d,rfl,hm,hB⟩:=hy
 obtain⟨xo,xt,xv⟩:=x
 obtain⟨yo,yt,yv⟩:=y
 simp only at hl hA hm hB ⊢
 have hf1:Below w.heap.size w (w.alloc (.cells #[.int .i64 xo,.string (txt xt),.slice A xv.length c] 61)):=(Below.refl _ _).alloc (Nat.le_refl _) _
 have h1:=Blk.new w [.int .i64 xo,.string (txt xt),.slice A xv.length c] 61
 obtain⟨w1,hw1⟩:∃w1,w.alloc (.cells #[.int .i64 xo,.string (txt xt),.slice A xv.length c] 61)=w1:=⟨_,rfl⟩
 have hs1:w1.heap.size=w.heap.size+1:=by rw[←hw1];simp
 rw[hw1] at hf1
 have h1:Blk w1 w.heap.size [.int .i64 xo,.string (txt xt),.slice A xv.length c]:=by rw[←hw1];exact h1
 have hf2:Fr (fun _=>False) w1 (w1.alloc (.cells #[.int .i64 yo,.string (txt yt),.slice B yv.length d] 61)):=Fr.alloc _ _ _
 have h2:=Blk.new w1 [.int .i64 yo,.string (txt yt),.slice B yv.length d] 61
 obtain⟨w2,hw2⟩:∃w2,w1.alloc (.cells #[.int .i64 yo,.string (txt yt),.slice B yv.length d] 61)=w2:=⟨_,rfl⟩
 rw[hw2] at hf2
 have h2:Blk w2 (w.heap.size+1) [.int .i64 yo,.string (txt yt),.slice B yv.length d]:=by rw[←hw2,←hs1];exact h2
 have h1b:=h1.fr hf2 id
 have hb2:Below w.heap.size w w2:=hf1.trans (hf2.below (by omega) (fun k q=>q.elim))
 have hA2:HasP w2 (inB w2) 1 A xv.length (strs xv):=((HasP.has hA (fun k hk=>hk)).below hb2).upto hb2.size
 have hB2:HasP w2 (inB w2) 1 B yv.length (strs yv):=((HasP.has hB (fun k hk=>hk)).below hb2).upto hb2.size
 have k0:=h1b.cells 0 _ rfl
 have k1:=h1b.cells 1 _ rfl
 have k2:=h1b.cells 2 _ rfl
 have q0:=h2.cells 0 _ rfl
 have q1:=h2.cells 1 _ rfl
 have q2:=h2.cells 2 _ rfl
 have Hw1:=hide hw1
 have Hw2:=hide hw2
 have Hb2:=hide hb2
 obtain⟨b1,hb1⟩:∃b1,w.heap.size=b1:=⟨_,rfl⟩
 have Hb1:=hide hb1
 rw[hb1] at k0 k1 k2 q0 q1 q2
 obtain⟨b3,hb3⟩:∃b3,b1+1=b3:=⟨_,rfl⟩
 have Hb3:=hide hb3
 rw[hb3] at q0 q1 q2
 by_cases ht:xo=yo
 ·subst ht
  have heq:=sameAttrs_any w2 (xt,xv) (yt,yv) [.string (txt xt),.slice A xv.length c] [.string (txt yt),.slice B yv.length d] ⟨A,c,rfl,hl,hA2⟩ ⟨B,d,rfl,hm,hB2⟩ b (by rw[hb];simp)
  have Heq:=hide heq
  clear hA hB hA2 hB2 hb heq hf1 hf2 h1 h2 h1b hb2 hs1 hw1 hw2 hb1 hb3 hl hm
  generalize xv.length=n1 at *
  generalize yv.length=n2 at *
  generalize txt xt=s1 at *
  generalize txt yt=s2 at *
  go_enter Tryz.func55,Tryz.ntmps55
  go_upto_region 1 with fail
  rw[Hw1.out,Hw2.out,Hb1.out,Hb3.out]
  go_wp2_with (go_at_call 53;fail)
  refine Heq.out.mono ?_
  rintro e w3 ⟨rfl,hb3⟩
  have HB3:=hide hb3
  clear hb3 Heq k0 k1 k2 q0 q1 q2
  cases b
  all_goals
   go_wp2
   go_ret
   exact⟨rfl,Hb2.out.trans (HB3.out.mono Hb2.out.size)⟩
 ·have n3:(xo==yo)=false:=beq_false_of_ne ht
  obtain rfl:b=false:=by
   cases b with
   | false=>rfl
   | true=>exact absurd (congrArg Prod.fst (hb.1 rfl)) ht
  clear hA hB hA2 hB2 hb hf1 hf2 h1 h2 h1b hb2 hs1 hw1 hw2 hb1 hb3 hl hm
  generalize xv.length=n1 at *
  generalize yv.length=n2 at *
  generalize txt xt=s1 at *
  generalize txt yt=s2 at *
  go_enter Tryz.func55,Tryz.ntmps55
  go_upto_region 1 with fail
  rw[Hw1.out,Hw2.out,Hb1.out,Hb3.out]
  go_wp2
  go_ret
  exact⟨rfl,Hb2.out⟩
theorem equalfA_any (w:World) (D D':Option Addr) (n n' d d':Nat) (L M:List (Atr)) (hL:repL elA w (inB w) L (.slice D n d)) (hM:repL elA w (inB w) M (.slice D' n' d')) (R:Bool) (hR:R=true↔L=M):
  Calls Tryz.prog 52 #[.slice D n d,.slice D' n' d',.func (.func 53) #[] #[]] w fun e w'=>e=.returned (.bool R)∧Below w.heap.size w w':=by
 obtain⟨A,c,xs,he,hl,hH,hr⟩:=hL
 obtain⟨A',c',ys,he',hl',hH',hr'⟩:=hM
 cases he
 cases he'
 obtain⟨n,hn⟩:∃n,L.length=n:=⟨_,rfl⟩
 obtain⟨n',hn'⟩:∃n',M.length=n':=⟨_,rfl⟩
 rw[hn] at hl hH ⊢
 rw[hn'] at hl' hH' ⊢
 have hni:(n:Int)≤9223372036854775807:=by omega
 have hni':(n':Int)≤9223372036854775807:=by omega
 by_cases hnn:n=n'
 ·subst hnn
  have HR:=hide hR
  have HH:=hide (And.intro hH hr)
  have HH':=hide (And.intro hH' hr')
  have HN:=hide hn
  have HN':=hide hn'
  clear hH hr hH' hr' hn hn' hR
  go_enter Tryz.func52,Tryz.ntmps52
  go_wp2
  go_loopg [17] n (fun r s17 wx=>∃j:Nat,j+r=n∧s17=.int .i64 (j:Int)∧Hid (L.take j=M.take j)∧Hid (Below w.heap.size w wx))
  case atStart=>exact⟨0,by omega,rfl,hide rfl,hide (Below.refl _ _)⟩
  case round=>
   obtain⟨j,hjg,rfl,hpre,hbr⟩:=hrel
   have hb2:=hbr.out
   cases gk with
   | zero=>
    obtain rfl:j=n:=by omega
    have hjz:¬((j:Int)<(j:Int)):=by omega
    have hq:Hid (R=true):=hide (HR.out.2 (by
     have:=hpre.out
     rwa [List.take_of_length_le (by rw[HN.out];exact Nat.le_refl _),List.take_of_length_le (by rw[HN'.out];exact Nat.le_refl _)] at this))
    clear HH HH' HN HN' hpre HR
    go_wp2
    go_ret
    exact⟨by rw[hq.out];rfl,hb2⟩
   | succ r=>
    have hj:j<n:=by omega
    have hjz:(j:Int)<(n:Int):=by omega
    obtain⟨p,hp⟩:∃p,L[j]?=some p:=⟨_,List.getElem?_eq_getElem (by rw[HN.out];exact hj)⟩
    obtain⟨q,hq⟩:∃q,M[j]?=some q:=⟨_,List.getElem?_eq_getElem (by rw[HN'.out];exact hj)⟩
    obtain⟨g1,o1,hDe,hg,hparts⟩:=row_part HH.out.1 HH.out.2 (by decide) (fun h=>by rw[h] at hp;simp at hp)
    obtain⟨g2,o2,hDe',hg',hparts'⟩:=row_part HH'.out.1 HH'.out.2 (by decide) (fun h=>by rw[h] at hq;simp at hq)
    subst hDe hDe'
    obtain⟨cp,hrp,hcp⟩:=hparts j p hp
    obtain⟨cq,hrq,hcq⟩:=hparts' j q hq
    have hrp0:=hrp
    have hrq0:=hrq
    obtain⟨pA,pc,rfl,hpl,hpH⟩:=hrp0
    obtain⟨qA,qc,rfl,hql,hqH⟩:=hrq0
    have x0:wr.cell? ⟨g1,o1+j*2,none⟩=some _:=(hb2.cell (p:=⟨g1,o1+j*2+0,none⟩) hg).trans (hcp 0 _ rfl)
    have y0:wr.cell? ⟨g2,o2+j*2,none⟩=some _:=(hb2.cell (p:=⟨g2,o2+j*2+0,none⟩) hg').trans (hcq 0 _ rfl)
    have x1:wr.cell? ⟨g1,o1+j*2+1,none⟩=some _:=(hb2.cell (p:=⟨g1,o1+j*2+1,none⟩) hg).trans (hcp 1 _ rfl)
    have y1:wr.cell? ⟨g2,o2+j*2+1,none⟩=some _:=(hb2.cell (p:=⟨g2,o2+j*2+1,none⟩) hg').trans (hcq 1 _ rfl)
    have hrp2:=rep_below hrp hb2
    have hrq2:=rep_below hrq hb2
    have hPX:Blk (wr.alloc (.cells #[.string (txt p.1),.slice pA p.2.length pc] 59)) wr.heap.size [.string (txt p.1),.slice pA p.2.length pc]:=Blk.new wr [.string (txt p.1),.slice pA p.2.length pc] 59
    have hbp:Below wr.heap.size wr (wr.alloc (.cells #[.string (txt p.1),.slice pA p.2.length pc] 59)):=(Below.refl _ _).alloc (Nat.le_refl _) _
    obtain⟨wp,hwp⟩:∃wp,wr.alloc (.cells #[.string (txt p.1),.slice pA p.2.length pc] 59)=wp:=⟨_,rfl⟩
    have hsz:wp.heap.size=wr.heap.size+1:=by rw[←hwp];simp
    rw[hwp] at hPX hbp
    have hrp3:=rep_below hrp2 hbp
    have hrq3:=rep_below hrq2 hbp
    have hgp:g2<wr.heap.size:=Nat.lt_of_lt_of_le hg' hb2.size
    have z0:wp.cell? ⟨g2,o2+j*2,none⟩=some _:=(hbp.cell (p:=⟨g2,o2+j*2,none⟩) hgp).trans y0
    have z1:wp.cell? ⟨g2,o2+j*2+1,none⟩=some _:=(hbp.cell (p:=⟨g2,o2+j*2+1,none⟩) hgp).trans y1
    have hQX:Blk (wp.alloc (.cells #[.string (txt q.1),.slice qA q.2.length qc] 59)) wp.heap.size [.string (txt q.1),.slice qA q.2.length qc]:=Blk.new wp [.string (txt q.1),.slice qA q.2.length qc] 59
    have hbq:Below wp.heap.size wp (wp.alloc (.cells #[.string (txt q.1),.slice qA q.2.length qc] 59)):=(Below.refl _ _).alloc (Nat.le_refl _) _
    have hfq:Fr (fun _=>False) wp (wp.alloc (.cells #[.string (txt q.1),.slice qA q.2.length qc] 59)):=Fr.alloc _ _ _
    obtain⟨wq,hwq⟩:∃wq,wp.alloc (.cells #[.string (txt q.1),.slice qA q.2.length qc] 59)=wq:=⟨_,rfl⟩
    rw[hwq] at hQX hbq hfq
    have hrp4:=rep_below hrp3 hbq
    have hrq4:=rep_below hrq3 hbq
    have hPX4:=hPX.fr hfq id
    rw[hsz] at hQX
    have hb4:Below w.heap.size w wq:=(hb2.trans (hbp.mono hb2.size)).trans (hbq.mono (by have:=hb2.size;omega))
    obtain⟨bb,hbb⟩:∃bb:Bool,bb=true↔p=q:=by
     by_cases h:p=q
     ·exact ⟨true,by simp[h]⟩
     ·exact ⟨false,by simp[h]⟩
    have hcall:=sameAttrs_any wq p q _ _ hrp4 hrq4 bb hbb
    have hyes:bb=true→Hid (L.take (j+1)=M.take (j+1)):=fun h=>hide (by
     rw[List.take_add_one,List.take_add_one,hpre.out,hp,hq,hbb.1 h])
    have hno:bb=false→Hid (R=false):=fun h=>hide (by
     cases hRR:R with
     | false=>rfl
     | true=>
      have e:=HR.out.1 hRR
      rw[e,hq] at hp
      have:=hbb.2 (Option.some.inj hp).symm
      rw[h] at this
      cases this)
    have Hcall:=hide hcall
    have HYes:=hide hyes
    have HNo:=hide hno
    have Hwp:=hide hwp
    have Hwq:=hide hwq
    have Hsz:=hide hsz
    have HPX4:=hide hPX4
    have HQX:=hide hQX
    have Hb4:=hide hb4
    have a0:=hPX.cells 0 _ rfl
    have a1:=hPX.cells 1 _ rfl
    clear HH HH' HN HN' hpre HR hcall hp hq hparts hparts' hcp hcq hrp hrq hrp2 hrq2 hrp3 hrq3 hrp4 hrq4 hyes hno hwp hwq hsz hPX4 hQX hPX hb4 hbp hbq hbr hb2 hbb hfq hpl hql hpH hqH y0 y1
    generalize p.2.length=pn at *
    generalize q.2.length=qn at *
    generalize txt p.1=ps at *
    generalize txt q.1=qs at *
    go_upto_region 6 with fail
    rw[Hwp.out]
    go_upto_region 7 with fail
    (try rw[Hsz.out])
    rw[Hwq.out]
    clear a0 x0 z0 a1 x1 z1
    have a0:=HPX4.out.cells 0 _ rfl
    have b0:=HQX.out.cells 0 _ rfl
    have a1:=HPX4.out.cells 1 _ rfl
    have b1:=HQX.out.cells 1 _ rfl
    go_wp2_with (go_at_fn 53;fail)
    refine Hcall.out.mono ?_
    rintro e w5 ⟨rfl,hb5⟩
    have hb6:=hide (Hb4.out.trans (hb5.mono Hb4.out.size))
    clear Hcall hb5 a0 b0 a1 b1 HPX4 HQX Hb4
    cases bb with
    | false=>
     have hbf:=HNo.out rfl
     clear HYes HNo
     go_wp2
     go_ret
     exact⟨by rw[hbf.out];rfl,hb6.out⟩
    | true=>
     have hst:=HYes.out rfl
     clear HYes HNo
     go_wp2
     go_roundg r
     case measure=>omega
     case rel=>exact⟨j+1,by omega,by go_num,hst,hb6⟩
 ·have z1:((n:Int)==(n':Int))=false:=beq_false_of_ne (by omega)
  have z2:((n:Int)!=(n':Int))=true:=by unfold bne;rw[z1];rfl
  obtain rfl:R=false:=by
   cases hRR:R with
   | false=>rfl
   | true=>exact absurd (by rw[←hn,←hn',hR.1 hRR]) hnn
  clear hH hr hH' hr' hn hn' hR hnn
  go_enter Tryz.func52,Tryz.ntmps52
  go_wp2
  go_ret
  exact⟨rfl,Below.refl _ _⟩
theorem equalfH_any (w:World) (D D':Option Addr) (n n' d d':Nat) (L M:List (Int × Atr)) (hL:repL elH w (inB w) L (.slice D n d)) (hM:repL elH w (inB w) M (.slice D' n' d')) (R:Bool) (hR:R=true↔L=M):
  Calls Tryz.prog 54 #[.slice D n d,.slice D' n' d',.func (.func 55) #[] #[]] w fun e w'=>e=.returned (.bool R)∧Below w.heap.size w w':=by
 obtain⟨A,c,xs,he,hl,hH,hr⟩:=hL
 obtain⟨A',c',ys,he',hl',hH',hr'⟩:=hM
 cases he
 cases he'
 obtain⟨n,hn⟩:∃n,L.length=n:=⟨_,rfl⟩
 obtain⟨n',hn'⟩:∃n',M.length=n':=⟨_,rfl⟩
 rw[hn] at hl hH ⊢
 rw[hn'] at hl' hH' ⊢
 have hni:(n:Int)≤9223372036854775807:=by omega
 have hni':(n':Int)≤9223372036854775807:=by omega
 by_cases hnn:n=n'
 ·subst hnn
  have HR:=hide hR
  have HH:=hide (And.intro hH hr)
  have HH':=hide (And.intro hH' hr')
  have HN:=hide hn
  have HN':=hide hn'
  clear hH hr hH' hr' hn hn' hR
  go_enter Tryz.func54,Tryz.ntmps54
  go_wp2
  go_loopg [17] n (fun r s17 wx=>∃j:Nat,j+r=n∧s17=.int .i64 (j:Int)∧Hid (L.take j=M.take j)∧Hid (Below w.heap.size w wx))
  case atStart=>exact⟨0,by omega,rfl,hide rfl,hide (Below.refl _ _)⟩
  case round=>
   obtain⟨j,hjg,rfl,hpre,hbr⟩:=hrel
   have hb2:=hbr.out
   cases gk with
   | zero=>
    obtain rfl:j=n:=by omega
    have hjz:¬((j:Int)<(j:Int)):=by omega
    have hq:Hid (R=true):=hide (HR.out.2 (by
     have:=hpre.out
     rwa [List.take_of_length_le (by rw[HN.out];exact Nat.le_refl _),List.take_of_length_le (by rw[HN'.out];exact Nat.le_refl _)] at this))
    clear HH HH' HN HN' hpre HR
    go_wp2
    go_ret
    exact⟨by rw[hq.out];rfl,hb2⟩
   | succ r=>
    have hj:j<n:=by omega
    have hjz:(j:Int)<(n:Int):=by omega
    obtain⟨p,hp⟩:∃p,L[j]?=some p:=⟨_,List.getElem?_eq_getElem (by rw[HN.out];exact hj)⟩
    obtain⟨q,hq⟩:∃q,M[j]?=some q:=⟨_,List.getElem?_eq_getElem (by rw[HN'.out];exact hj)⟩
    obtain⟨g1,o1,hDe,hg,hparts⟩:=row_part HH.out.1 HH.out.2 (by decide) (fun h=>by rw[h] at hp;simp at hp)
    obtain⟨g2,o2,hDe',hg',hparts'⟩:=row_part HH'.out.1 HH'.out.2 (by decide) (fun h=>by rw[h] at hq;simp at hq)
    subst hDe hDe'
    obtain⟨cp,hrp,hcp⟩:=hparts j p hp
    obtain⟨cq,hrq,hcq⟩:=hparts' j q hq
    have hrp0:=hrp
    have hrq0:=hrq
    obtain⟨pA,pc,rfl,hpl,hpH⟩:=hrp0
    obtain⟨qA,qc,rfl,hql,hqH⟩:=hrq0
    have x0:wr.cell? ⟨g1,o1+j*3,none⟩=some _:=(hb2.cell (p:=⟨g1,o1+j*3+0,none⟩) hg).trans (hcp 0 _ rfl)
    have y0:wr.cell? ⟨g2,o2+j*3,none⟩=some _:=(hb2.cell (p:=⟨g2,o2+j*3+0,none⟩) hg').trans (hcq 0 _ rfl)
    have x1:wr.cell? ⟨g1,o1+j*3+1,none⟩=some _:=(hb2.cell (p:=⟨g1,o1+j*3+1,none⟩) hg).trans (hcp 1 _ rfl)
    have y1:wr.cell? ⟨g2,o2+j*3+1,none⟩=some _:=(hb2.cell (p:=⟨g2,o2+j*3+1,none⟩) hg').trans (hcq 1 _ rfl)
    have x2:wr.cell? ⟨g1,o1+j*3+2,none⟩=some _:=(hb2.cell (p:=⟨g1,o1+j*3+2,none⟩) hg).trans (hcp 2 _ rfl)
    have y2:wr.cell? ⟨g2,o2+j*3+2,none⟩=some _:=(hb2.cell (p:=⟨g2,o2+j*3+2,none⟩) hg').trans (hcq 2 _ rfl)
    have hrp2:=rep_below hrp hb2
    have hrq2:=rep_below hrq hb2
    have hPX:Blk (wr.alloc (.cells #[.int .i64 p.1,.string (txt p.2.1),.slice pA p.2.2.length pc] 61)) wr.heap.size [.int .i64 p.1,.string (txt p.2.1),.slice pA p.2.2.length pc]:=Blk.new wr [.int .i64 p.1,.string (txt p.2.1),.slice pA p.2.2.length pc] 61
    have hbp:Below wr.heap.size wr (wr.alloc (.cells #[.int .i64 p.1,.string (txt p.2.1),.slice pA p.2.2.length pc] 61)):=(Below.refl _ _).alloc (Nat.le_refl _) _
    obtain⟨wp,hwp⟩:∃wp,wr.alloc (.cells #[.int .i64 p.1,.string (txt p.2.1),.slice pA p.2.2.length pc] 61)=wp:=⟨_,rfl⟩
    have hsz:wp.heap.size=wr.heap.size+1:=by rw[←hwp];simp
    rw[hwp] at hPX hbp
    have hrp3:=rep_below hrp2 hbp
    have hrq3:=rep_below hrq2 hbp
    have hgp:g2<wr.heap.size:=Nat.lt_of_lt_of_le hg' hb2.size
    have z0:wp.cell? ⟨g2,o2+j*3,none⟩=some _:=(hbp.cell (p:=⟨g2,o2+j*3,none⟩) hgp).trans y0
    have z1:wp.cell? ⟨g2,o2+j*3+1,none⟩=some _:=(hbp.cell (p:=⟨g2,o2+j*3+1,none⟩) hgp).trans y1
    have z2:wp.cell? ⟨g2,o2+j*3+2,none⟩=some _:=(hbp.cell (p:=⟨g2,o2+j*3+2,none⟩) hgp).trans y2
    have hQX:Blk (wp.alloc (.cells #[.int .i64 q.1,.string (txt q.2.1),.slice qA q.2.2.length qc] 61)) wp.heap.size [.int .i64 q.1,.string (txt q.2.1),.slice qA q.2.2.length qc]:=Blk.new wp [.int .i64 q.1,.string (txt q.2.1),.slice qA q.2.2.length qc] 61
    have hbq:Below wp.heap.size wp (wp.alloc (.cells #[.int .i64 q.1,.string (txt q.2.1),.slice qA q.2.2.length qc] 61)):=(Below.refl _ _).alloc (Nat.le_refl _) _
    have hfq:Fr (fun _=>False) wp (wp.alloc (.cells #[.int .i64 q.1,.string (txt q.2.1),.slice qA q.2.2.length qc] 61)):=Fr.alloc _ _ _
    obtain⟨wq,hwq⟩:∃wq,wp.alloc (.cells #[.int .i64 q.1,.string (txt q.2.1),.slice qA q.2.2.length qc] 61)=wq:=⟨_,rfl⟩
    rw[hwq] at hQX hbq hfq
    have hrp4:=rep_below hrp3 hbq
    have hrq4:=rep_below hrq3 hbq
    have hPX4:=hPX.fr hfq id
    rw[hsz] at hQX
    have hb4:Below w.heap.size w wq:=(hb2.trans (hbp.mono hb2.size)).trans (hbq.mono (by have:=hb2.size;omega))
    obtain⟨bb,hbb⟩:∃bb:Bool,bb=true↔p=q:=by
     by_cases h:p=q
     ·exact ⟨true,by simp[h]⟩
     ·exact ⟨false,by simp[h]⟩
    have hcall:=sameChanges_any wq p q _ _ hrp4 hrq4 bb hbb
    have hyes:bb=true→Hid (L.take (j+1)=M.take (j+1)):=fun h=>hide (by
     rw[List.take_add_one,List.take_add_one,hpre.out,hp,hq,hbb.1 h])
    have hno:bb=false→Hid (R=false):=fun h=>hide (by
     cases hRR:R with
     | false=>rfl
     | true=>
      have e:=HR.out.1 hRR
      rw[e,hq] at hp
      have:=hbb.2 (Option.some.inj hp).symm
      rw[h] at this
      cases this)
    have Hcall:=hide hcall
    have HYes:=hide hyes
    have HNo:=hide hno
    have Hwp:=hide hwp
    have Hwq:=hide hwq
    have Hsz:=hide hsz
    have HPX4:=hide hPX4
    have HQX:=hide hQX
    have Hb4:=hide hb4
    have a0:=hPX.cells 0 _ rfl
    have a1:=hPX.cells 1 _ rfl
    have a2:=hPX.cells 2 _ rfl
    clear HH HH' HN HN' hpre HR hcall hp hq hparts hparts' hcp hcq hrp hrq hrp2 hrq2 hrp3 hrq3 hrp4 hrq4 hyes hno hwp hwq hsz hPX4 hQX hPX hb4 hbp hbq hbr hb2 hbb hfq hpl hql hpH hqH y0 y1 y2
    generalize p.2.2.length=pn at *
    generalize q.2.2.length=qn at *
    generalize txt p.2.1=ps at *
    generalize txt q.2.1=qs at *
    generalize p.1=po at *
    generalize q.1=qo at *
    go_upto_region 6 with fail
    rw[Hwp.out]
    go_upto_region 7 with fail
    (try rw[Hsz.out])
    rw[Hwq.out]
    clear a0 x0 z0 a1 x1 z1 a2 x2 z2
    have a0:=HPX4.out.cells 0 _ rfl
    have b0:=HQX.out.cells 0 _ rfl
    have a1:=HPX4.out.cells 1 _ rfl
    have b1:=HQX.out.cells 1 _ rfl
    have a2:=HPX4.out.cells 2 _ rfl
    have b2:=HQX.out.cells 2 _ rfl
    go_wp2_with (go_at_fn 55;fail)
    refine Hcall.out.mono ?_
    rintro e w5 ⟨rfl,hb5⟩
    have hb6:=hide (Hb4.out.trans (hb5.mono Hb4.out.size))
    clear Hcall hb5 a0 b0 a1 b1 a2 b2 HPX4 HQX Hb4
    cases bb with
    | false=>
     have hbf:=HNo.out rfl
     clear HYes HNo
     go_wp2
     go_ret
     exact⟨by rw[hbf.out];rfl,hb6.out⟩
    | true=>
     have hst:=HYes.out rfl
     clear HYes HNo
     go_wp2
     go_roundg r
     case measure=>omega
     case rel=>exact⟨j+1,by omega,by go_num,hst,hb6⟩
 ·have z1:((n:Int)==(n':Int))=false:=beq_false_of_ne (by omega)
  have z2:((n:Int)!=(n':Int))=true:=by unfold bne;rw[z1];rfl
  obtain rfl:R=false:=by
   cases hRR:R with
   | false=>rfl
   | true=>exact absurd (by rw[←hn,←hn',hR.1 hRR]) hnn
  clear hH hr hH' hr' hn hn' hR hnn
  go_enter Tryz.func54,Tryz.ntmps54
  go_wp2
  go_ret
  exact⟨rfl,Below.refl _ _⟩
end Go.Proofs.YtpkedjohgmnhhaaGreat
