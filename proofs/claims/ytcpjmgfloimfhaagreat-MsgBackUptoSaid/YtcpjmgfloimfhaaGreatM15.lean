/- Several texts in one: LSameL, LSameC, HSame. By an AI agent. -/
import Derived.Test.YtcpjmgfloimfhaaGreatM14
import Derived.Test.YtcpjmgfloimfhaaGreatM13
import Derived.Test.YtcpjmgfloimfhaaGreatM07
import Derived.BigQuiet
set_option linter.unusedSimpArgs false
set_option linter.unusedVariables false
set_option maxRecDepth 100000
set_option maxHeartbeats 64000000
namespace Go.Proofs.YtcpjmgfloimfhaaGreat
open Go.RowKit
theorem txt_lists {a b:List UInt8} (h:(txt a).toList=(txt b).toList):a=b:=by
 rw[ByteArray.toList_eq,ByteArray.toList_eq] at h
 rw[<-zBa a,<-zBa b]
 exact h
theorem repL_below {α:Type} {E:Elem α} {w w':World} {L:List α} {v:Value} (h:repL E w (inB w) L v) (hb:Below w.heap.size w w'):repL E w' (inB w') L v:=
 zA7 (fun p hp=>hb.cell (by exact hp)) (fun k hk=>Nat.lt_of_lt_of_le hk hb.size) h
theorem zBj {α:Type} {E:Elem α} {w w':World} {x:α} {cs:List Value} (h:E.rep w (inB w) x cs) (hb:Below w.heap.size w w'):E.rep w' (inB w') x cs:=
 E.move (fun p hp=>hb.cell (by exact hp)) (fun k hk=>Nat.lt_of_lt_of_le hk hb.size) h
theorem sameAttrs_any (w:World) (x y:Atr) (cs cs':List Value) (hx:elA.rep w (inB w) x cs) (hy:elA.rep w (inB w) y cs') (b:Bool) (hb:b=true↔x=y):
  Calls Tryz.prog 53 #[.agg cs.toArray,.agg cs'.toArray] w fun e w'=>e=.returned (.bool b)/\Below w.heap.size w w':=by
 obtain⟨A,c,rfl,hl,hA⟩:=hx
 obtain⟨B,d,rfl,hm,hB⟩:=hy
 obtain⟨xt,xv⟩:=x
 obtain⟨yt,yv⟩:=y
 simp only at hl hA hm hB ⊢
 have hf1:Below w.heap.size w (w.alloc (.cells #[.string (txt xt),.slice A xv.length c] 59)):=(Below.refl _ _).alloc (Nat.le_refl _) _
 have h1:=Blk.new w [.string (txt xt),.slice A xv.length c] 59
 obtain⟨w1,hw1⟩:∃w1,w.alloc (.cells #[.string (txt xt),.slice A xv.length c] 59)=w1:=⟨_,rfl⟩
 have hs1:w1.heap.size=w.heap.size+1:=by rw[<-hw1];simp
 rw[hw1] at hf1
 have h1:Blk w1 w.heap.size [.string (txt xt),.slice A xv.length c]:=by rw[<-hw1];exact h1
 have hf2:Fr (fun _=>False) w1 (w1.alloc (.cells #[.string (txt yt),.slice B yv.length d] 59)):=Fr.alloc _ _ _
 have h2:=Blk.new w1 [.string (txt yt),.slice B yv.length d] 59
 obtain⟨w2,hw2⟩:∃w2,w1.alloc (.cells #[.string (txt yt),.slice B yv.length d] 59)=w2:=⟨_,rfl⟩
 rw[hw2] at hf2
 have h2:Blk w2 (w.heap.size+1) [.string (txt yt),.slice B yv.length d]:=by rw[<-hw2,<-hs1];exact h2
 have h1b:=h1.fr hf2 id
 have hb2:Below w.heap.size w w2:=hf1.trans (hf2.below (by omega) (fun k q=>q.elim))
 have hA2:Has w2 w2.heap.size 1 A xv.length (strs xv):=((HasP.has hA (fun k hk=>hk)).below hb2).upto hb2.size
 have hB2:Has w2 w2.heap.size 1 B yv.length (strs yv):=((HasP.has hB (fun k hk=>hk)).below hb2).upto hb2.size
 have k0:=h1b.cells 0 _ rfl
 have k1:=h1b.cells 1 _ rfl
 have q0:=h2.cells 0 _ rfl
 have q1:=h2.cells 1 _ rfl
 have Hw1:=hide hw1
 have Hw2:=hide hw2
 have Hb2:=hide hb2
 obtain⟨b1,hb1⟩:∃b1,w.heap.size=b1:=⟨_,rfl⟩
 have Hb1:=hide hb1
 rw[hb1] at k0 k1 q0 q1
 obtain⟨b3,hb3⟩:∃b3,b1+1=b3:=⟨_,rfl⟩
 have Hb3:=hide hb3
 rw[hb3] at q0 q1
 by_cases ht:xt=yt
 ·subst ht
  have heq:=jequal_any w2 A B xv.length c yv.length d xv yv hA2 hB2 (by omega)
  have hbv:b=decide (xv=yv):=by
   cases b with
   | true=>have:=hb.1 rfl;simp only[Prod.mk.injEq] at this;rw[decide_eq_true this.2]
   | false=>rw[decide_eq_false];intro e;have:=hb.2 (by rw[e]);cases this
  rw[<-hbv] at heq
  have Heq:=hide heq
  clear hA hB hA2 hB2 hb hbv heq hf1 hf2 h1 h2 h1b hb2 hs1 hw1 hw2 hb1 hb3 hl hm
  generalize xv.length=n1 at *
  generalize yv.length=n2 at *
  go_enter Tryz.func53,Tryz.ntmps53
  go_upto_region 1 with fail
  rw[Hw1.out,Hw2.out,Hb1.out,Hb3.out]
  go_wp2_with (go_at_call 51;fail)
  refine Heq.out.mono ?_
  rintro e w3 ⟨rfl,hb3⟩
  have HB3:=hide hb3
  clear hb3 Heq k0 k1 q0 q1
  cases b
  all_goals
   go_wp2
   go_ret
   exact⟨rfl,Hb2.out.trans (HB3.out.mono Hb2.out.size)⟩
 ·have n1:¬txt xt=txt yt:=fun q=>ht (txt_inj q)
  have n3:((txt xt).toList==(txt yt).toList)=false:=beq_false_of_ne (fun q=>ht (txt_lists q))
  obtain rfl:b=false:=by
   cases b with
   | false=>rfl
   | true=>exact absurd (congrArg Prod.fst (hb.1 rfl)) ht
  clear hA hB hA2 hB2 hb hf1 hf2 h1 h2 h1b hb2 hs1 hw1 hw2 hb1 hb3 hl hm
  generalize xv.length=n1 at *
  generalize yv.length=n2 at *
  generalize txt xt=s1 at *
  generalize txt yt=s2 at *
  go_enter Tryz.func53,Tryz.ntmps53
  go_upto_region 1 with fail
  rw[Hw1.out,Hw2.out,Hb1.out,Hb3.out]
  go_wp2
  go_ret
  exact⟨rfl,Hb2.out⟩
theorem sameChanges_any (w:World) (x y:Int × Atr) (cs cs':List Value) (hx:elH.rep w (inB w) x cs) (hy:elH.rep w (inB w) y cs') (b:Bool) (hb:b=true↔x=y):
  Calls Tryz.prog 55 #[.agg cs.toArray,.agg cs'.toArray] w fun e w'=>e=.returned (.bool b)/\Below w.heap.size w w':=by
 obtain⟨A,c,rfl,hl,hA⟩:=hx
 obtain⟨B,d,rfl,hm,hB⟩:=hy
 obtain⟨xo,xt,xv⟩:=x
 obtain⟨yo,yt,yv⟩:=y
 simp only at hl hA hm hB ⊢
 have hf1:Below w.heap.size w (w.alloc (.cells #[.int .i64 xo,.string (txt xt),.slice A xv.length c] 61)):=(Below.refl _ _).alloc (Nat.le_refl _) _
 have h1:=Blk.new w [.int .i64 xo,.string (txt xt),.slice A xv.length c] 61
 obtain⟨w1,hw1⟩:∃w1,w.alloc (.cells #[.int .i64 xo,.string (txt xt),.slice A xv.length c] 61)=w1:=⟨_,rfl⟩
 have hs1:w1.heap.size=w.heap.size+1:=by rw[<-hw1];simp
 rw[hw1] at hf1
 have h1:Blk w1 w.heap.size [.int .i64 xo,.string (txt xt),.slice A xv.length c]:=by rw[<-hw1];exact h1
 have hf2:Fr (fun _=>False) w1 (w1.alloc (.cells #[.int .i64 yo,.string (txt yt),.slice B yv.length d] 61)):=Fr.alloc _ _ _
 have h2:=Blk.new w1 [.int .i64 yo,.string (txt yt),.slice B yv.length d] 61
 obtain⟨w2,hw2⟩:∃w2,w1.alloc (.cells #[.int .i64 yo,.string (txt yt),.slice B yv.length d] 61)=w2:=⟨_,rfl⟩
 rw[hw2] at hf2
 have h2:Blk w2 (w.heap.size+1) [.int .i64 yo,.string (txt yt),.slice B yv.length d]:=by rw[<-hw2,<-hs1];exact h2
 have h1b:=h1.fr hf2 id
 have hb2:Below w.heap.size w w2:=hf1.trans (hf2.below (by omega) (fun k q=>q.elim))
 have hA2:HasP w2 (inB w2) 1 A xv.length (strs xv):=((HasP.has hA (fun k hk=>hk)).below hb2).upto hb2.size
 have hB2:HasP w2 (inB w2) 1 B yv.length (strs yv):=((HasP.has hB (fun k hk=>hk)).below hb2).upto hb2.size
 have k0:=h1b.cells 0 _ rfl
 have k1:=h1b.cells 1 _ rfl
 have k2:=h1b.cells 2 _ rfl
 have q0:=h2.cells 0 _ rfl
 have q1:=h2.cells 1 _ rfl
 have q2:=h2.cells 2 _ rfl
 have Hw1:=hide hw1
 have Hw2:=hide hw2
 have Hb2:=hide hb2
 obtain⟨b1,hb1⟩:∃b1,w.heap.size=b1:=⟨_,rfl⟩
 have Hb1:=hide hb1
 rw[hb1] at k0 k1 k2 q0 q1 q2
 obtain⟨b3,hb3⟩:∃b3,b1+1=b3:=⟨_,rfl⟩
 have Hb3:=hide hb3
 rw[hb3] at q0 q1 q2
 by_cases ht:xo=yo
 ·subst ht
  have heq:=sameAttrs_any w2 (xt,xv) (yt,yv) [.string (txt xt),.slice A xv.length c] [.string (txt yt),.slice B yv.length d] ⟨A,c,rfl,hl,hA2⟩ ⟨B,d,rfl,hm,hB2⟩ b (by rw[hb];simp)
  have Heq:=hide heq
  clear hA hB hA2 hB2 hb heq hf1 hf2 h1 h2 h1b hb2 hs1 hw1 hw2 hb1 hb3 hl hm
  generalize xv.length=n1 at *
  generalize yv.length=n2 at *
  generalize txt xt=s1 at *
  generalize txt yt=s2 at *
  go_enter Tryz.func55,Tryz.ntmps55
  go_upto_region 1 with fail
  rw[Hw1.out,Hw2.out,Hb1.out,Hb3.out]
  go_wp2_with (go_at_call 53;fail)
  refine Heq.out.mono ?_
  rintro e w3 ⟨rfl,hb3⟩
  have HB3:=hide hb3
  clear hb3 Heq k0 k1 k2 q0 q1 q2
  cases b
  all_goals
   go_wp2
   go_ret
   exact⟨rfl,Hb2.out.trans (HB3.out.mono Hb2.out.size)⟩
 ·have n3:(xo==yo)=false:=beq_false_of_ne ht
  obtain rfl:b=false:=by
   cases b with
   | false=>rfl
   | true=>exact absurd (congrArg Prod.fst (hb.1 rfl)) ht
  clear hA hB hA2 hB2 hb hf1 hf2 h1 h2 h1b hb2 hs1 hw1 hw2 hb1 hb3 hl hm
  generalize xv.length=n1 at *
  generalize yv.length=n2 at *
  generalize txt xt=s1 at *
  generalize txt yt=s2 at *
  go_enter Tryz.func55,Tryz.ntmps55
  go_upto_region 1 with fail
  rw[Hw1.out,Hw2.out,Hb1.out,Hb3.out]
  go_wp2
  go_ret
  exact⟨rfl,Hb2.out⟩
theorem equalfA_any (w:World) (D D':Option Addr) (n n' d d':Nat) (L M:List (Atr)) (hL:repL elA w (inB w) L (.slice D n d)) (hM:repL elA w (inB w) M (.slice D' n' d')) (R:Bool) (hR:R=true↔L=M):
  Calls Tryz.prog 52 #[.slice D n d,.slice D' n' d',.func (.func 53) #[] #[]] w fun e w'=>e=.returned (.bool R)/\Below w.heap.size w w':=by
 obtain⟨A,c,xs,he,hl,hH,hr⟩:=hL
 obtain⟨A',c',ys,he',hl',hH',hr'⟩:=hM
 cases he
 cases he'
 obtain⟨n,hn⟩:∃n,L.length=n:=⟨_,rfl⟩
 obtain⟨n',hn'⟩:∃n',M.length=n':=⟨_,rfl⟩
 rw[hn] at hl hH ⊢
 rw[hn'] at hl' hH' ⊢
 have hni:(n:Int)<=9223372036854775807:=by omega
 have hni':(n':Int)<=9223372036854775807:=by omega
 by_cases hnn:n=n'
 ·subst hnn
  have HR:=hide hR
  have HH:=hide (And.intro hH hr)
  have HH':=hide (And.intro hH' hr')
  have HN:=hide hn
  have HN':=hide hn'
  clear hH hr hH' hr' hn hn' hR
  go_enter Tryz.func52,Tryz.ntmps52
  go_wp2
  go_loopg [17] n (fun r s17 wx=>∃j:Nat,j+r=n/\s17=.int .i64 (j:Int)/\Hid (L.take j=M.take j)/\Hid (Below w.heap.size w wx))
  case atStart=>exact⟨0,by omega,rfl,hide rfl,hide (Below.refl _ _)⟩
  case round=>
   obtain⟨j,hjg,rfl,hpre,hbr⟩:=hrel
   have hb2:=hbr.out
   cases gk with
   | zero=>
    obtain rfl:j=n:=by omega
    have hjz:¬((j:Int)<(j:Int)):=by omega
    have hq:Hid (R=true):=hide (HR.out.2 (by
     have:=hpre.out
     rwa [List.take_of_length_le (by rw[HN.out];exact Nat.le_refl _),List.take_of_length_le (by rw[HN'.out];exact Nat.le_refl _)] at this))
    clear HH HH' HN HN' hpre HR
    go_wp2
    go_ret
    exact⟨by rw[hq.out];rfl,hb2⟩
   | succ r=>
    have hj:j<n:=by omega
    have hjz:(j:Int)<(n:Int):=by omega
    obtain⟨p,hp⟩:∃p,L[j]?=some p:=⟨_,List.getElem?_eq_getElem (by rw[HN.out];exact hj)⟩
    obtain⟨q,hq⟩:∃q,M[j]?=some q:=⟨_,List.getElem?_eq_getElem (by rw[HN'.out];exact hj)⟩
    obtain⟨g1,o1,hDe,hg,hparts⟩:=zBc HH.out.1 HH.out.2 (by decide) (fun h=>by rw[h] at hp;simp at hp)
    obtain⟨g2,o2,hDe',hg',hparts'⟩:=zBc HH'.out.1 HH'.out.2 (by decide) (fun h=>by rw[h] at hq;simp at hq)
    subst hDe hDe'
    obtain⟨cp,hrp,hcp⟩:=hparts j p hp
    obtain⟨cq,hrq,hcq⟩:=hparts' j q hq
    have hrp0:=hrp
    have hrq0:=hrq
    obtain⟨pA,pc,rfl,hpl,hpH⟩:=hrp0
    obtain⟨qA,qc,rfl,hql,hqH⟩:=hrq0
    have x0:wr.cell? ⟨g1,o1+j*2,none⟩=some _:=(hb2.cell (p:=⟨g1,o1+j*2+0,none⟩) hg).trans (hcp 0 _ rfl)
    have y0:wr.cell? ⟨g2,o2+j*2,none⟩=some _:=(hb2.cell (p:=⟨g2,o2+j*2+0,none⟩) hg').trans (hcq 0 _ rfl)
    have x1:wr.cell? ⟨g1,o1+j*2+1,none⟩=some _:=(hb2.cell (p:=⟨g1,o1+j*2+1,none⟩) hg).trans (hcp 1 _ rfl)
    have y1:wr.cell? ⟨g2,o2+j*2+1,none⟩=some _:=(hb2.cell (p:=⟨g2,o2+j*2+1,none⟩) hg').trans (hcq 1 _ rfl)
    have hrp2:=zBj hrp hb2
    have hrq2:=zBj hrq hb2
    have hPX:Blk (wr.alloc (.cells #[.string (txt p.1),.slice pA p.2.length pc] 59)) wr.heap.size [.string (txt p.1),.slice pA p.2.length pc]:=Blk.new wr [.string (txt p.1),.slice pA p.2.length pc] 59
    have hbp:Below wr.heap.size wr (wr.alloc (.cells #[.string (txt p.1),.slice pA p.2.length pc] 59)):=(Below.refl _ _).alloc (Nat.le_refl _) _
    obtain⟨wp,hwp⟩:∃wp,wr.alloc (.cells #[.string (txt p.1),.slice pA p.2.length pc] 59)=wp:=⟨_,rfl⟩
    have hsz:wp.heap.size=wr.heap.size+1:=by rw[<-hwp];simp
    rw[hwp] at hPX hbp
    have hrp3:=zBj hrp2 hbp
    have hrq3:=zBj hrq2 hbp
    have hgp:g2<wr.heap.size:=Nat.lt_of_lt_of_le hg' hb2.size
    have z0:wp.cell? ⟨g2,o2+j*2,none⟩=some _:=(hbp.cell (p:=⟨g2,o2+j*2,none⟩) hgp).trans y0
    have z1:wp.cell? ⟨g2,o2+j*2+1,none⟩=some _:=(hbp.cell (p:=⟨g2,o2+j*2+1,none⟩) hgp).trans y1
    have hQX:Blk (wp.alloc (.cells #[.string (txt q.1),.slice qA q.2.length qc] 59)) wp.heap.size [.string (txt q.1),.slice qA q.2.length qc]:=Blk.new wp [.string (txt q.1),.slice qA q.2.length qc] 59
    have hbq:Below wp.heap.size wp (wp.alloc (.cells #[.string (txt q.1),.slice qA q.2.length qc] 59)):=(Below.refl _ _).alloc (Nat.le_refl _) _
    have hfq:Fr (fun _=>False) wp (wp.alloc (.cells #[.string (txt q.1),.slice qA q.2.length qc] 59)):=Fr.alloc _ _ _
    obtain⟨wq,hwq⟩:∃wq,wp.alloc (.cells #[.string (txt q.1),.slice qA q.2.length qc] 59)=wq:=⟨_,rfl⟩
    rw[hwq] at hQX hbq hfq
    have hrp4:=zBj hrp3 hbq
    have hrq4:=zBj hrq3 hbq
    have hPX4:=hPX.fr hfq id
    rw[hsz] at hQX
    have hb4:Below w.heap.size w wq:=(hb2.trans (hbp.mono hb2.size)).trans (hbq.mono (by have:=hb2.size;omega))
    obtain⟨bb,hbb⟩:∃bb:Bool,bb=true↔p=q:=by
     by_cases h:p=q
     ·exact ⟨true,by simp[h]⟩
     ·exact ⟨false,by simp[h]⟩
    have hcall:=sameAttrs_any wq p q _ _ hrp4 hrq4 bb hbb
    have hyes:bb=true->Hid (L.take (j+1)=M.take (j+1)):=fun h=>hide (by
     rw[List.take_add_one,List.take_add_one,hpre.out,hp,hq,hbb.1 h])
    have hno:bb=false->Hid (R=false):=fun h=>hide (by
     cases hRR:R with
     | false=>rfl
     | true=>
      have e:=HR.out.1 hRR
      rw[e,hq] at hp
      have:=hbb.2 (Option.some.inj hp).symm
      rw[h] at this
      cases this)
    have Hcall:=hide hcall
    have HYes:=hide hyes
    have HNo:=hide hno
    have Hwp:=hide hwp
    have Hwq:=hide hwq
    have Hsz:=hide hsz
    have HPX4:=hide hPX4
    have HQX:=hide hQX
    have Hb4:=hide hb4
    have a0:=hPX.cells 0 _ rfl
    have a1:=hPX.cells 1 _ rfl
    clear HH HH' HN HN' hpre HR hcall hp hq hparts hparts' hcp hcq hrp hrq hrp2 hrq2 hrp3 hrq3 hrp4 hrq4 hyes hno hwp hwq hsz hPX4 hQX hPX hb4 hbp hbq hbr hb2 hbb hfq hpl hql hpH hqH y0 y1
    generalize p.2.length=pn at *
    generalize q.2.length=qn at *
    generalize txt p.1=ps at *
    generalize txt q.1=qs at *
    go_upto_region 6 with fail
    rw[Hwp.out]
    go_upto_region 7 with fail
    (try rw[Hsz.out])
    rw[Hwq.out]
    clear a0 x0 z0 a1 x1 z1
    have a0:=HPX4.out.cells 0 _ rfl
    have b0:=HQX.out.cells 0 _ rfl
    have a1:=HPX4.out.cells 1 _ rfl
    have b1:=HQX.out.cells 1 _ rfl
    go_wp2_with (go_at_fn 53;fail)
    refine Hcall.out.mono ?_
    rintro e w5 ⟨rfl,hb5⟩
    have hb6:=hT Hb4 hb5
    clear Hcall hb5 a0 b0 a1 b1 HPX4 HQX Hb4
    cases bb with
    | false=>
     have hbf:=HNo.out rfl
     clear HYes HNo
     go_wp2
     go_ret
     exact⟨by rw[hbf.out];rfl,hb6.out⟩
    | true=>
     have hst:=HYes.out rfl
     clear HYes HNo
     go_wp2
     go_roundg r
     case measure=>omega
     case rel=>exact⟨j+1,by omega,by go_num,hst,hb6⟩
 ·have z1:((n:Int)==(n':Int))=false:=beq_false_of_ne (by omega)
  have z2:((n:Int)!=(n':Int))=true:=by unfold bne;rw[z1];rfl
  obtain rfl:R=false:=by
   cases hRR:R with
   | false=>rfl
   | true=>exact absurd (by rw[<-hn,<-hn',hR.1 hRR]) hnn
  clear hH hr hH' hr' hn hn' hR hnn
  go_enter Tryz.func52,Tryz.ntmps52
  go_wp2
  go_ret
  exact⟨rfl,Below.refl _ _⟩
theorem equalfH_any (w:World) (D D':Option Addr) (n n' d d':Nat) (L M:List (Int × Atr)) (hL:repL elH w (inB w) L (.slice D n d)) (hM:repL elH w (inB w) M (.slice D' n' d')) (R:Bool) (hR:R=true↔L=M):
  Calls Tryz.prog 54 #[.slice D n d,.slice D' n' d',.func (.func 55) #[] #[]] w fun e w'=>e=.returned (.bool R)/\Below w.heap.size w w':=by
 obtain⟨A,c,xs,he,hl,hH,hr⟩:=hL
 obtain⟨A',c',ys,he',hl',hH',hr'⟩:=hM
 cases he
 cases he'
 obtain⟨n,hn⟩:∃n,L.length=n:=⟨_,rfl⟩
 obtain⟨n',hn'⟩:∃n',M.length=n':=⟨_,rfl⟩
 rw[hn] at hl hH ⊢
 rw[hn'] at hl' hH' ⊢
 have hni:(n:Int)<=9223372036854775807:=by omega
 have hni':(n':Int)<=9223372036854775807:=by omega
 by_cases hnn:n=n'
 ·subst hnn
  have HR:=hide hR
  have HH:=hide (And.intro hH hr)
  have HH':=hide (And.intro hH' hr')
  have HN:=hide hn
  have HN':=hide hn'
  clear hH hr hH' hr' hn hn' hR
  go_enter Tryz.func54,Tryz.ntmps54
  go_wp2
  go_loopg [17] n (fun r s17 wx=>∃j:Nat,j+r=n/\s17=.int .i64 (j:Int)/\Hid (L.take j=M.take j)/\Hid (Below w.heap.size w wx))
  case atStart=>exact⟨0,by omega,rfl,hide rfl,hide (Below.refl _ _)⟩
  case round=>
   obtain⟨j,hjg,rfl,hpre,hbr⟩:=hrel
   have hb2:=hbr.out
   cases gk with
   | zero=>
    obtain rfl:j=n:=by omega
    have hjz:¬((j:Int)<(j:Int)):=by omega
    have hq:Hid (R=true):=hide (HR.out.2 (by
     have:=hpre.out
     rwa [List.take_of_length_le (by rw[HN.out];exact Nat.le_refl _),List.take_of_length_le (by rw[HN'.out];exact Nat.le_refl _)] at this))
    clear HH HH' HN HN' hpre HR
    go_wp2
    go_ret
    exact⟨by rw[hq.out];rfl,hb2⟩
   | succ r=>
    have hj:j<n:=by omega
    have hjz:(j:Int)<(n:Int):=by omega
    obtain⟨p,hp⟩:∃p,L[j]?=some p:=⟨_,List.getElem?_eq_getElem (by rw[HN.out];exact hj)⟩
    obtain⟨q,hq⟩:∃q,M[j]?=some q:=⟨_,List.getElem?_eq_getElem (by rw[HN'.out];exact hj)⟩
    obtain⟨g1,o1,hDe,hg,hparts⟩:=zBc HH.out.1 HH.out.2 (by decide) (fun h=>by rw[h] at hp;simp at hp)
    obtain⟨g2,o2,hDe',hg',hparts'⟩:=zBc HH'.out.1 HH'.out.2 (by decide) (fun h=>by rw[h] at hq;simp at hq)
    subst hDe hDe'
    obtain⟨cp,hrp,hcp⟩:=hparts j p hp
    obtain⟨cq,hrq,hcq⟩:=hparts' j q hq
    have hrp0:=hrp
    have hrq0:=hrq
    obtain⟨pA,pc,rfl,hpl,hpH⟩:=hrp0
    obtain⟨qA,qc,rfl,hql,hqH⟩:=hrq0
    have x0:wr.cell? ⟨g1,o1+j*3,none⟩=some _:=(hb2.cell (p:=⟨g1,o1+j*3+0,none⟩) hg).trans (hcp 0 _ rfl)
    have y0:wr.cell? ⟨g2,o2+j*3,none⟩=some _:=(hb2.cell (p:=⟨g2,o2+j*3+0,none⟩) hg').trans (hcq 0 _ rfl)
    have x1:wr.cell? ⟨g1,o1+j*3+1,none⟩=some _:=(hb2.cell (p:=⟨g1,o1+j*3+1,none⟩) hg).trans (hcp 1 _ rfl)
    have y1:wr.cell? ⟨g2,o2+j*3+1,none⟩=some _:=(hb2.cell (p:=⟨g2,o2+j*3+1,none⟩) hg').trans (hcq 1 _ rfl)
    have x2:wr.cell? ⟨g1,o1+j*3+2,none⟩=some _:=(hb2.cell (p:=⟨g1,o1+j*3+2,none⟩) hg).trans (hcp 2 _ rfl)
    have y2:wr.cell? ⟨g2,o2+j*3+2,none⟩=some _:=(hb2.cell (p:=⟨g2,o2+j*3+2,none⟩) hg').trans (hcq 2 _ rfl)
    have hrp2:=zBj hrp hb2
    have hrq2:=zBj hrq hb2
    have hPX:Blk (wr.alloc (.cells #[.int .i64 p.1,.string (txt p.2.1),.slice pA p.2.2.length pc] 61)) wr.heap.size [.int .i64 p.1,.string (txt p.2.1),.slice pA p.2.2.length pc]:=Blk.new wr [.int .i64 p.1,.string (txt p.2.1),.slice pA p.2.2.length pc] 61
    have hbp:Below wr.heap.size wr (wr.alloc (.cells #[.int .i64 p.1,.string (txt p.2.1),.slice pA p.2.2.length pc] 61)):=(Below.refl _ _).alloc (Nat.le_refl _) _
    obtain⟨wp,hwp⟩:∃wp,wr.alloc (.cells #[.int .i64 p.1,.string (txt p.2.1),.slice pA p.2.2.length pc] 61)=wp:=⟨_,rfl⟩
    have hsz:wp.heap.size=wr.heap.size+1:=by rw[<-hwp];simp
    rw[hwp] at hPX hbp
    have hrp3:=zBj hrp2 hbp
    have hrq3:=zBj hrq2 hbp
    have hgp:g2<wr.heap.size:=Nat.lt_of_lt_of_le hg' hb2.size
    have z0:wp.cell? ⟨g2,o2+j*3,none⟩=some _:=(hbp.cell (p:=⟨g2,o2+j*3,none⟩) hgp).trans y0
    have z1:wp.cell? ⟨g2,o2+j*3+1,none⟩=some _:=(hbp.cell (p:=⟨g2,o2+j*3+1,none⟩) hgp).trans y1
    have z2:wp.cell? ⟨g2,o2+j*3+2,none⟩=some _:=(hbp.cell (p:=⟨g2,o2+j*3+2,none⟩) hgp).trans y2
    have hQX:Blk (wp.alloc (.cells #[.int .i64 q.1,.string (txt q.2.1),.slice qA q.2.2.length qc] 61)) wp.heap.size [.int .i64 q.1,.string (txt q.2.1),.slice qA q.2.2.length qc]:=Blk.new wp [.int .i64 q.1,.string (txt q.2.1),.slice qA q.2.2.length qc] 61
    have hbq:Below wp.heap.size wp (wp.alloc (.cells #[.int .i64 q.1,.string (txt q.2.1),.slice qA q.2.2.length qc] 61)):=(Below.refl _ _).alloc (Nat.le_refl _) _
    have hfq:Fr (fun _=>False) wp (wp.alloc (.cells #[.int .i64 q.1,.string (txt q.2.1),.slice qA q.2.2.length qc] 61)):=Fr.alloc _ _ _
    obtain⟨wq,hwq⟩:∃wq,wp.alloc (.cells #[.int .i64 q.1,.string (txt q.2.1),.slice qA q.2.2.length qc] 61)=wq:=⟨_,rfl⟩
    rw[hwq] at hQX hbq hfq
    have hrp4:=zBj hrp3 hbq
    have hrq4:=zBj hrq3 hbq
    have hPX4:=hPX.fr hfq id
    rw[hsz] at hQX
    have hb4:Below w.heap.size w wq:=(hb2.trans (hbp.mono hb2.size)).trans (hbq.mono (by have:=hb2.size;omega))
    obtain⟨bb,hbb⟩:∃bb:Bool,bb=true↔p=q:=by
     by_cases h:p=q
     ·exact ⟨true,by simp[h]⟩
     ·exact ⟨false,by simp[h]⟩
    have hcall:=sameChanges_any wq p q _ _ hrp4 hrq4 bb hbb
    have hyes:bb=true->Hid (L.take (j+1)=M.take (j+1)):=fun h=>hide (by
     rw[List.take_add_one,List.take_add_one,hpre.out,hp,hq,hbb.1 h])
    have hno:bb=false->Hid (R=false):=fun h=>hide (by
     cases hRR:R with
     | false=>rfl
     | true=>
      have e:=HR.out.1 hRR
      rw[e,hq] at hp
      have:=hbb.2 (Option.some.inj hp).symm
      rw[h] at this
      cases this)
    have Hcall:=hide hcall
    have HYes:=hide hyes
    have HNo:=hide hno
    have Hwp:=hide hwp
    have Hwq:=hide hwq
    have Hsz:=hide hsz
    have HPX4:=hide hPX4
    have HQX:=hide hQX
    have Hb4:=hide hb4
    have a0:=hPX.cells 0 _ rfl
    have a1:=hPX.cells 1 _ rfl
    have a2:=hPX.cells 2 _ rfl
    clear HH HH' HN HN' hpre HR hcall hp hq hparts hparts' hcp hcq hrp hrq hrp2 hrq2 hrp3 hrq3 hrp4 hrq4 hyes hno hwp hwq hsz hPX4 hQX hPX hb4 hbp hbq hbr hb2 hbb hfq hpl hql hpH hqH y0 y1 y2
    generalize p.2.2.length=pn at *
    generalize q.2.2.length=qn at *
    generalize txt p.2.1=ps at *
    generalize txt q.2.1=qs at *
    generalize p.1=po at *
    generalize q.1=qo at *
    go_upto_region 6 with fail
    rw[Hwp.out]
    go_upto_region 7 with fail
    (try rw[Hsz.out])
    rw[Hwq.out]
    clear a0 x0 z0 a1 x1 z1 a2 x2 z2
    have a0:=HPX4.out.cells 0 _ rfl
    have b0:=HQX.out.cells 0 _ rfl
    have a1:=HPX4.out.cells 1 _ rfl
    have b1:=HQX.out.cells 1 _ rfl
    have a2:=HPX4.out.cells 2 _ rfl
    have b2:=HQX.out.cells 2 _ rfl
    go_wp2_with (go_at_fn 55;fail)
    refine Hcall.out.mono ?_
    rintro e w5 ⟨rfl,hb5⟩
    have hb6:=hT Hb4 hb5
    clear Hcall hb5 a0 b0 a1 b1 a2 b2 HPX4 HQX Hb4
    cases bb with
    | false=>
     have hbf:=HNo.out rfl
     clear HYes HNo
     go_wp2
     go_ret
     exact⟨by rw[hbf.out];rfl,hb6.out⟩
    | true=>
     have hst:=HYes.out rfl
     clear HYes HNo
     go_wp2
     go_roundg r
     case measure=>omega
     case rel=>exact⟨j+1,by omega,by go_num,hst,hb6⟩
 ·have z1:((n:Int)==(n':Int))=false:=beq_false_of_ne (by omega)
  have z2:((n:Int)!=(n':Int))=true:=by unfold bne;rw[z1];rfl
  obtain rfl:R=false:=by
   cases hRR:R with
   | false=>rfl
   | true=>exact absurd (by rw[<-hn,<-hn',hR.1 hRR]) hnn
  clear hH hr hH' hr' hn hn' hR hnn
  go_enter Tryz.func54,Tryz.ntmps54
  go_wp2
  go_ret
  exact⟨rfl,Below.refl _ _⟩
theorem ctl_eq (x y:Ct) (b:Bool) (hb:b=true↔x=y) (w:World):(Op.equalIn 10000 67 (.agg #[.string (txt x.oid),.bool x.crit,.bool x.hasv,.string (txt x.value)]) (.agg #[.string (txt y.oid),.bool y.crit,.bool y.hasv,.string (txt y.value)])).run Tryz.prog w=.ok b w:=by
 have hS:Tryz.prog.underlying 67=some (.struct (Tryz.prog.fieldsOf 67)):=by kernel_rfl
 have hp:Tryz.prog.stoodInHeld 67=false:=by kernel_rfl
 rw[show (10000:Nat)=9999+1 from rfl,run_equalIn_agg w 9999 67 _ _ hS hp]
 simp only[Program.fieldsOf,Tryz.underlying67]
 obtain⟨xo,xc,xh,xv⟩:=x
 obtain⟨yo,yc,yh,yv⟩:=y
 simp only
 go_simp
 by_cases h0:xo=yo
 rotate_left
 ·obtain rfl:b=false:=by
   cases b with
   | false=>rfl
   | true=>have:=hb.1 rfl;simp only[Ct.mk.injEq] at this;exact absurd this.1 h0
  simp[h0]
 subst h0
 by_cases h1:xc=yc
 rotate_left
 ·obtain rfl:b=false:=by
   cases b with
   | false=>rfl
   | true=>have:=hb.1 rfl;simp only[Ct.mk.injEq] at this;exact absurd this.2.1 h1
  simp[h1]
 subst h1
 by_cases h2:xh=yh
 rotate_left
 ·obtain rfl:b=false:=by
   cases b with
   | false=>rfl
   | true=>have:=hb.1 rfl;simp only[Ct.mk.injEq] at this;exact absurd this.2.2.1 h2
  simp[h2]
 subst h2
 by_cases h3:xv=yv
 rotate_left
 ·obtain rfl:b=false:=by
   cases b with
   | false=>rfl
   | true=>have:=hb.1 rfl;simp only[Ct.mk.injEq] at this;exact absurd this.2.2.2 h3
  simp[h3]
 subst h3
 obtain rfl:b=true:=hb.2 rfl
 simp
theorem equalC_any (w:World) (D D':Option Addr) (n n' d d':Nat) (L M:List Ct) (hL:repL elC w (inB w) L (.slice D n d)) (hM:repL elC w (inB w) M (.slice D' n' d')) (R:Bool) (hR:R=true↔L=M):
  Calls Tryz.prog 56 #[.slice D n d,.slice D' n' d'] w fun e w'=>e=.returned (.bool R)/\Below w.heap.size w w':=by
 obtain⟨A,c,xs,he,hl,hH,hr⟩:=hL
 obtain⟨A',c',ys,he',hl',hH',hr'⟩:=hM
 cases he
 cases he'
 obtain⟨n,hn⟩:∃n,L.length=n:=⟨_,rfl⟩
 obtain⟨n',hn'⟩:∃n',M.length=n':=⟨_,rfl⟩
 rw[hn] at hl hH ⊢
 rw[hn'] at hl' hH' ⊢
 have hni:(n:Int)<=9223372036854775807:=by omega
 have hni':(n':Int)<=9223372036854775807:=by omega
 by_cases hnn:n=n'
 ·subst hnn
  have HR:=hide hR
  have HH:=hide (And.intro hH hr)
  have HH':=hide (And.intro hH' hr')
  have HN:=hide hn
  have HN':=hide hn'
  clear hH hr hH' hr' hn hn' hR
  go_enter Tryz.func56,Tryz.ntmps56
  go_wp2
  go_loopg [13] n (fun r s13 wx=>∃j:Nat,j+r=n/\s13=.int .i64 (j:Int)/\Hid (L.take j=M.take j)/\Hid ((∀a:Addr,wx.cell? a=w.cell? a)/\Below w.heap.size w wx))
  case atStart=>exact⟨0,by omega,rfl,hide rfl,hide ⟨fun _=>rfl,Below.refl _ _⟩⟩
  case round=>
   obtain⟨j,hjg,rfl,hpre,hbr⟩:=hrel
   cases gk with
   | zero=>
    obtain rfl:j=n:=by omega
    have hjz:¬((j:Int)<(j:Int)):=by omega
    have hq:Hid (R=true):=hide (HR.out.2 (by
     have:=hpre.out
     rwa [List.take_of_length_le (by rw[HN.out];exact Nat.le_refl _),List.take_of_length_le (by rw[HN'.out];exact Nat.le_refl _)] at this))
    clear HH HH' HN HN' hpre HR
    go_wp2
    go_ret
    exact⟨by rw[hq.out];rfl,hbr.out.2⟩
   | succ r=>
    have hj:j<n:=by omega
    have hjz:(j:Int)<(n:Int):=by omega
    obtain⟨p,hp⟩:∃p,L[j]?=some p:=⟨_,List.getElem?_eq_getElem (by rw[HN.out];exact hj)⟩
    obtain⟨q,hq⟩:∃q,M[j]?=some q:=⟨_,List.getElem?_eq_getElem (by rw[HN'.out];exact hj)⟩
    obtain⟨g1,o1,hDe,hg,hparts⟩:=zBc HH.out.1 HH.out.2 (by decide) (fun h=>by rw[h] at hp;simp at hp)
    obtain⟨g2,o2,hDe',hg',hparts'⟩:=zBc HH'.out.1 HH'.out.2 (by decide) (fun h=>by rw[h] at hq;simp at hq)
    subst hDe hDe'
    obtain⟨cp,hrp,hcp⟩:=hparts j p hp
    obtain⟨cq,hrq,hcq⟩:=hparts' j q hq
    obtain rfl:=hrp
    obtain rfl:=hrq
    have hcell:=hbr.out.1
    obtain⟨bb,hbb⟩:∃bb:Bool,bb=true↔p=q:=by
     by_cases h:p=q
     ·exact ⟨true,by simp[h]⟩
     ·exact ⟨false,by simp[h]⟩
    have hce:=ctl_eq p q bb hbb
    have hyes:bb=true->Hid (L.take (j+1)=M.take (j+1)):=fun h=>hide (by
     rw[List.take_add_one,List.take_add_one,hpre.out,hp,hq,hbb.1 h])
    have hno:bb=false->Hid (R=false):=fun h=>hide (by
     cases hRR:R with
     | false=>rfl
     | true=>
      have e:=HR.out.1 hRR
      rw[e,hq] at hp
      have:=hbb.2 (Option.some.inj hp).symm
      rw[h] at this
      cases this)
    have x0:wr.cell? ⟨g1,o1+j*4,none⟩=some _:=(hcell _).trans (hcp 0 _ rfl)
    have y0:wr.cell? ⟨g2,o2+j*4,none⟩=some _:=(hcell _).trans (hcq 0 _ rfl)
    have x1:wr.cell? ⟨g1,o1+j*4+1,none⟩=some _:=(hcell _).trans (hcp 1 _ rfl)
    have y1:wr.cell? ⟨g2,o2+j*4+1,none⟩=some _:=(hcell _).trans (hcq 1 _ rfl)
    have x2:wr.cell? ⟨g1,o1+j*4+2,none⟩=some _:=(hcell _).trans (hcp 2 _ rfl)
    have y2:wr.cell? ⟨g2,o2+j*4+2,none⟩=some _:=(hcell _).trans (hcq 2 _ rfl)
    have x3:wr.cell? ⟨g1,o1+j*4+3,none⟩=some _:=(hcell _).trans (hcp 3 _ rfl)
    have y3:wr.cell? ⟨g2,o2+j*4+3,none⟩=some _:=(hcell _).trans (hcq 3 _ rfl)
    have HYes:=hide hyes
    have HNo:=hide hno
    clear HH HH' HN HN' hpre HR hp hq hparts hparts' hcp hcq hyes hno hbb hcell
    go_wp2_with fail
    go_quiet (fail)
    have hbn:Hid ((∀a:Addr,(wr.drewN nq).cell? a=w.cell? a)/\Below w.heap.size w (wr.drewN nq)):=hide ⟨fun a=>(show (wr.drewN nq).cell? a=wr.cell? a from rfl).trans (hbr.out.1 a),Below.drewN hbr.out.2 nq⟩
    clear x0 x1 x2 x3 y0 y1 y2 y3 hce hbr
    generalize wr.drewN nq=wn at *
    cases bb with
    | false=>
     have hbf:=HNo.out rfl
     clear HYes HNo
     go_wp2
     go_ret
     exact⟨by rw[hbf.out];rfl,hbn.out.2⟩
    | true=>
     have hst:=HYes.out rfl
     clear HYes HNo
     go_wp2
     go_roundg r
     case measure=>omega
     case rel=>exact⟨j+1,by omega,by go_num,hst,hbn⟩
 ·have z1:((n:Int)==(n':Int))=false:=beq_false_of_ne (by omega)
  have z2:((n:Int)!=(n':Int))=true:=by unfold bne;rw[z1];rfl
  obtain rfl:R=false:=by
   cases hRR:R with
   | false=>rfl
   | true=>exact absurd (by rw[<-hn,<-hn',hR.1 hRR]) hnn
  clear hH hr hH' hr' hn hn' hR hnn
  go_enter Tryz.func56,Tryz.ntmps56
  go_wp2
  go_ret
  exact⟨rfl,Below.refl _ _⟩
theorem rsametexts_any (w:World) (A A':Option Addr) (m m' c c':Nat) (L M:List (List UInt8)) (hA:Has w w.heap.size 1 A m (strs L)) (hA':Has w w.heap.size 1 A' m' (strs M)) (hm:m<=maxLen)
  (b:Bool) (hb:b=true↔L=M):
  Calls Tryz.prog 42 #[.slice A m c,.slice A' m' c'] w fun e w'=>e=.returned (.bool b)/\Below w.heap.size w w':=by
 have h1:=hA.strs_n
 have h2:=hA'.strs_n
 unfold maxLen at hm
 have hm1:(m:Int)<=9223372036854775807:=by omega
 by_cases hmm:m=m'
 ·subst hmm
  have HA:=hide hA
  have HA':=hide hA'
  have H1:=hide h1
  have H2:=hide h2
  have Hb:=hide hb
  clear hA hA' h1 h2 hb hm
  go_enter Tryz.func42,Tryz.ntmps42
  go_wp2
  go_loopg [13] m (fun r s13 wx=>∃i:Nat,i+r=m/\s13=.int .i64 (i:Int)/\Hid (Below w.heap.size w wx)/\Hid (L.take i=M.take i))
  case atStart=>exact⟨0,by omega,rfl,hide (Below.refl _ _),hide rfl⟩
  case round=>
   obtain⟨i,hig,rfl,hbr,hpre⟩:=hrel
   cases gk with
   | zero=>
    obtain rfl:i=m:=by omega
    have hiz:¬((i:Int)<(i:Int)):=by omega
    have hbt:Hid (b=true):=hide (Hb.out.2 (by
     have:=hpre.out
     rwa [List.take_of_length_le (by rw[<-H1.out];exact Nat.le_refl _),List.take_of_length_le (by rw[<-H2.out];exact Nat.le_refl _)] at this))
    clear HA HA' H1 H2 hpre Hb
    go_wp2
    go_ret
    exact⟨by rw[hbt.out];rfl,hbr.out⟩
   | succ r=>
    have hi:i<m:=by omega
    have hiz:(i:Int)<(m:Int):=by omega
    obtain⟨x,hx⟩:∃x,L[i]?=some x:=⟨_,List.getElem?_eq_getElem (by rw[<-H1.out];exact hi)⟩
    obtain⟨y,hy⟩:∃y,M[i]?=some y:=⟨_,List.getElem?_eq_getElem (by rw[<-H2.out];exact hi)⟩
    obtain⟨g,o,hAe,hg,hc⟩:=HA.out.texts (fun h=>by rw[h] at hx;simp at hx)
    obtain⟨g',o',hAe',hg',hc'⟩:=HA'.out.texts (fun h=>by rw[h] at hy;simp at hy)
    subst hAe hAe'
    have x0:=(hbr.out.cell (p:=⟨g,o+i,none⟩) hg).trans (hc i x hx)
    have y0:=(hbr.out.cell (p:=⟨g',o'+i,none⟩) hg').trans (hc' i y hy)
    by_cases hxy:x=y
    ·subst hxy
     have hpre2:Hid (L.take (i+1)=M.take (i+1)):=hide (by rw[List.take_add_one,List.take_add_one,hpre.out,hx,hy])
     generalize txt x=X at *
     clear hx hy hc hc' HA HA' H1 H2 hpre Hb
     go_wp2
     go_quiet (fail)
     go_wp2
     go_roundg r
     case measure=>omega
     case rel=>exact⟨i+1,by omega,by go_num,hide (Below.drewN hbr.out _),hpre2⟩
    ·have hbf:Hid (b=false):=hide (by
      cases hbb:b with
      | false=>rfl
      | true=>
       have:=Hb.out.1 hbb
       rw[this,hy] at hx
       exact absurd (Option.some.inj hx).symm hxy)
     have e1:=str_ne hxy
     have e2:=bne_of e1
     generalize txt x=X at *
     generalize txt y=Y at *
     clear hx hy hc hc' HA HA' H1 H2 hpre Hb hxy
     go_wp2
     go_quiet (fail)
     go_wp2
     go_ret
     exact⟨by rw[hbf.out];rfl,Below.drewN hbr.out _⟩
 ·have z1:((m:Int)==(m':Int))=false:=beq_false_of_ne (by omega)
  have z2:((m:Int)!=(m':Int))=true:=by unfold bne;rw[z1];rfl
  obtain rfl:b=false:=by
   cases b with
   | false=>rfl
   | true=>exact absurd (by rw[h1,h2,hb.1 rfl]) hmm
  clear hA hA' h1 h2 hb hm hmm
  go_enter Tryz.func42,Tryz.ntmps42
  go_wp2
  go_ret
  exact⟨rfl,Below.refl _ _⟩
theorem rfsame_any (t:FT):∀(t':FT) (w:World) (u0 u1 u2 u3 u4 u5 u6 v0 v1 v2 v3 v4 v5 v6:Value),FIn w w.heap.size t [u0,u1,u2,u3,u4,u5,u6]->FIn w w.heap.size t' [v0,v1,v2,v3,v4,v5,v6]->
  ∀b:Bool,(b=true↔t=t')->
  Calls Tryz.prog 41 #[.agg #[u0,u1,u2,u3,u4,u5,u6],.agg #[v0,v1,v2,v3,v4,v5,v6]] w fun e w'=>e=.returned (.bool b)/\Below w.heap.size w w':=by
 induction t using FT.induct
 rename_i k a v f l any ps ih
 intro t' w u0 u1 u2 u3 u4 u5 u6 v0 v1 v2 v3 v4 v5 v6 hF hF' b hb
 cases t' with
 | mk k' a' v' f' l' any' ps'=>
 simp only[FIn] at hF hF'
 obtain⟨A,c,D,dd,xs,hcs,⟨hml,hnl⟩,hA,hD,hP⟩:=hF
 cases hcs
 obtain⟨A',c',D',dd',xs',hcs,⟨hml',hnl'⟩,hA',hD',hP'⟩:=hF'
 cases hcs
 obtain⟨m,hm⟩:∃m,any.length=m:=⟨_,rfl⟩
 obtain⟨np,hnp⟩:∃np,ps.length=np:=⟨_,rfl⟩
 obtain⟨m',hm'⟩:∃m',any'.length=m':=⟨_,rfl⟩
 obtain⟨np',hnp'⟩:∃np',ps'.length=np':=⟨_,rfl⟩
 have hX:=Box7.new w k (txt a) (txt v) (txt f) (txt l) A any.length c D ps.length dd 25
 have hb0:=below1 w (.cells #[.int .i64 k,.string (txt a),.string (txt v),.string (txt f),.string (txt l),.slice A any.length c,.slice D ps.length dd] 25)
 obtain⟨w1,hw1⟩:∃w1,(w.alloc (.cells #[.int .i64 k,.string (txt a),.string (txt v),.string (txt f),.string (txt l),.slice A any.length c,.slice D ps.length dd] 25))=w1:=⟨_,rfl⟩
 have hsz:w1.heap.size=w.heap.size+1:=by rw[<-hw1];simp
 rw[hw1] at hX hb0
 have hY:=Box7.new w1 k' (txt a') (txt v') (txt f') (txt l') A' any'.length c' D' ps'.length dd' 25
 have hb1:=below1 w1 (.cells #[.int .i64 k',.string (txt a'),.string (txt v'),.string (txt f'),.string (txt l'),.slice A' any'.length c',.slice D' ps'.length dd'] 25)
 have hX1:=hX.below hX.lt hb1
 have hb2:=hb0.trans (hb1.mono hb0.size)
 have hTx:=fun w hA hA' bt hbt=>rsametexts_any w A A' any.length any'.length c c' any any' hA hA' hml bt hbt
 unfold maxLen at hml hnl hml' hnl'
 rw[hm,hm'] at hTx
 rw[hm,hnp] at hX1 hw1 ⊢
 rw[hm',hnp'] at hY hb1 hb2 hX1 ⊢
 rw[hsz] at hY
 have hnl1:(np:Int)<=9223372036854775807:=by omega
 have hA2:=(hA.below hb2).upto hb2.size
 have hA2':=(hA'.below hb2).upto hb2.size
 rw[hm] at hA2
 rw[hm'] at hA2'
 have hw2:∃w2,w1.alloc (.cells #[.int .i64 k',.string (txt a'),.string (txt v'),.string (txt f'),.string (txt l'),.slice A' m' c',.slice D' np' dd'] 25)=w2:=⟨_,rfl⟩
 obtain⟨w2,hw2⟩:=hw2
 have HW1:=hide hw1
 have HW2:=hide hw2
 rw[hw2] at hX1 hY hb2 hA2 hA2'
 have HX:=hide hX1
 have HY:=hide hY
 have HB:=hide hb2
 have HD:=hide hD
 have HP:=hide hP
 have HD':=hide hD'
 have HP':=hide hP'
 have Hih:=hide ih
 have Hnp:=hide hnp
 have Hnp':=hide hnp'
 have HTx:=hide (hTx w2 hA2 hA2')
 have Hb:=hide hb
 have HSz:=hide hsz
 have inj:=fun h=>FT.mk.inj (hb.1 h)
 clear hD hP hD' hP' ih hnp hnp' hTx hA hA' hA2 hA2' hb hm hm' hml hnl hml' hnl' hX hb0 hb1 hb2 hw1 hw2
 obtain⟨_,c0,c1,c2,c3,c4,c5,c6⟩:=hX1
 obtain⟨_,d0,d1,d2,d3,d4,d5,d6⟩:=hY
 have start:∀(P:Prop),P->P:=fun _ h=>h
 by_cases h0:k=k'
 ·subst h0
  by_cases h1:a=a'
  ·subst h1
   by_cases h2:v=v'
   ·subst h2
    by_cases h3:f=f'
    ·subst h3
     by_cases h4:l=l'
     ·subst h4
      by_cases h5:any=any'
      ·have hcall:=HTx.out true ⟨fun _=>h5,fun _=>rfl⟩
       by_cases h6:np=np'
       ·subst h6
        have hps:¬b=true->ps≠ps':=fun h e=>h (Hb.out.2 (by rw[h5,e]))
        have hpt:ps=ps'->b=true:=fun e=>Hb.out.2 (by rw[h5,e])
        have hpf:b=true->ps=ps':=fun h=>(inj h).2.2.2.2.2.2
        have HPt:=hide hpt
        have HPf:=hide hpf
        clear HTx inj hps hpt hpf Hb h5 start
        generalize txt a=sa at *
        generalize txt v=sv at *
        generalize txt f=sf at *
        generalize txt l=sl at *
        go_enter Tryz.func41,Tryz.ntmps41
        go_upto_region 1 with fail
        rw[HW1.out,HW2.out]
        (try rw[HSz.out])
        go_wp2_with (go_at_call 42;fail)
        refine hcall.mono ?_
        rintro e w3 ⟨rfl,hb3⟩
        have HX3:=hide (HX.out.below HX.out.lt hb3)
        have HY3:=hide (HY.out.below HY.out.lt hb3)
        have HB3:=hT HB hb3
        clear hcall hb3 HX HY HB c0 c1 c2 c3 c4 c5 c6 d0 d1 d2 d3 d4 d5 d6
        obtain⟨_,c0,c1,c2,c3,c4,c5,c6⟩:=HX3.out
        obtain⟨_,d0,d1,d2,d3,d4,d5,d6⟩:=HY3.out
        go_wp2
        go_loopg [59] np (fun r s59 wx=>∃j:Nat,j+r=np/\s59=.int .i64 (j:Int)/\Hid (ps.take j=ps'.take j)/\Hid (Below w.heap.size w wx/\Box7 wx w.heap.size k sa sv sf sl A m c D np dd/\Box7 wx (w.heap.size+1) k sa sv sf sl A' m' c' D' np dd'))
        case atStart=>exact⟨0,by omega,rfl,hide rfl,hide ⟨HB3.out,HX3.out,HY3.out⟩⟩
        case round=>
         obtain⟨j,hjg,rfl,hpre,hbr⟩:=hrel
         clear c0 c1 c2 c3 c4 c5 c6 d0 d1 d2 d3 d4 d5 d6 HX3 HY3 HB3
         obtain⟨hb3,hX3,hY3⟩:=hbr.out
         cases gk with
         | zero=>
          obtain rfl:j=np:=by omega
          have hjz:¬((j:Int)<(j:Int)):=by omega
          have hq:Hid (b=true):=hide (HPt.out (by
           have:=hpre.out
           rwa [List.take_of_length_le (by rw[Hnp.out];exact Nat.le_refl _),List.take_of_length_le (by rw[Hnp'.out];exact Nat.le_refl _)] at this))
          obtain⟨_,c0,c1,c2,c3,c4,c5,c6⟩:=hX3
          clear HD HP HD' HP' Hih Hnp Hnp' hpre HPt HPf hY3
          go_wp2
          go_ret
          exact⟨by rw[hq.out];rfl,hb3⟩
         | succ r=>
          have hj:j<np:=by omega
          have hjz:(j:Int)<(np:Int):=by omega
          obtain⟨p,hp⟩:∃p,ps[j]?=some p:=⟨_,List.getElem?_eq_getElem (by rw[Hnp.out];exact hj)⟩
          obtain⟨q,hq⟩:∃q,ps'[j]?=some q:=⟨_,List.getElem?_eq_getElem (by rw[Hnp'.out];exact hj)⟩
          have HP1:=HP.out
          have HP2:=HP'.out
          obtain⟨g,o,hDe,hg,hparts⟩:=HD.out.part HP1 (fun h=>by rw[h] at hp;simp at hp)
          obtain⟨g',o',hDe',hg',hparts'⟩:=HD'.out.part HP2 (fun h=>by rw[h] at hq;simp at hq)
          subst hDe hDe'
          obtain⟨u0,u1,u2,u3,u4,u5,u6,hpart⟩:=hparts j p hp
          obtain⟨v0,v1,v2,v3,v4,v5,v6,hpart'⟩:=hparts' j q hq
          have hdr:Below wr.heap.size wr wr.drew:=(Below.refl _ _).drew
          have hpd:Part7 wr.drew wr.drew.heap.size g (o+j*7) p u0 u1 u2 u3 u4 u5 u6:=((hpart.below hb3).up hb3.size).below hdr |>.up hdr.size
          have hqd:Part7 wr.drew wr.drew.heap.size g' (o'+j*7) q v0 v1 v2 v3 v4 v5 v6:=((hpart'.below hb3).up hb3.size).below hdr |>.up hdr.size
          have hXd:=hX3.below hX3.lt hdr
          have hYd:=hY3.below hY3.lt hdr
          have hbd:=hb3.trans (hdr.mono hb3.size)
          obtain⟨_,c0,c1,c2,c3,c4,c5,c6⟩:=hX3
          obtain⟨_,d0,d1,d2,d3,d4,d5,d6⟩:=hY3
          have hcall:=fun bb hbb=>Hih.out p (List.mem_of_getElem? hp) q wr.drew _ _ _ _ _ _ _ _ _ _ _ _ _ _ hpd.fin hqd.fin bb hbb
          obtain⟨bb,hbb⟩:∃bb:Bool,(bb=true↔p=q):=by
           by_cases h:p=q
           ·exact ⟨true,⟨fun _=>h,fun _=>rfl⟩⟩
           ·exact ⟨false,⟨fun h'=>(by cases h'),fun h'=>absurd h' h⟩⟩
          have hcall1:=hcall bb hbb
          have hyes:bb=true->Hid (ps.take (j+1)=ps'.take (j+1)):=fun h=>hide (by rw[List.take_add_one,List.take_add_one,hpre.out,hp,hq,hbb.1 h])
          have hno:bb=false->Hid (b=false):=fun h=>hide (by
           cases hb':b with
           | false=>rfl
           | true=>
            have e:=HPf.out hb'
            rw[e,hq] at hp
            have:=hbb.2 (Option.some.inj hp).symm
            rw[h] at this
            cases this)
          have HYes:=hide hyes
          have HNo:=hide hno
          have HPd:=hide hpd
          have HQd:=hide hqd
          have HXd:=hide hXd
          have HYd:=hide hYd
          have HBd:=hide hbd
          clear HD HP HD' HP' Hih Hnp Hnp' hpre HPt HPf HP1 HP2 hparts hparts' hpart hpart' hp hq hcall hyes hno hpd hqd hXd hYd hbd hdr hbb hbr hb3
          go_wp2_with fail
          refine zAs (by kernel_rfl) ?_
          clear c0 c1 c2 c3 c4 c5 c6 d0 d1 d2 d3 d4 d5 d6
          generalize wr.drew=w3 at *
          refine zAa 0 (some 62) rfl rfl (by kernel_rfl) rfl (by rfl) (fun W hW=>by go_simp<;>with_reducible rfl) ?_
          simp only[pU]
          refine zAa 1 (some 63) (v:=?vs1) rfl rfl (by kernel_rfl) rfl (by rfl) (fun W hW=>?ys1) ?_
          case ys1=>
           have h6:=(HXd.out.below HXd.out.lt hW).c6
           go_simp<;>with_reducible rfl
          simp only[pU]
          refine zAa 2 (some 64) rfl rfl (by kernel_rfl) rfl (by rfl) (fun W hW=>by go_simp<;>with_reducible rfl) ?_
          simp only[pU]
          refine zAa 3 (some 65) rfl rfl (by kernel_rfl) rfl (by rfl) (fun W hW=>by go_simp<;>with_reducible rfl) ?_
          simp only[pU]
          refine zAa 4 (some 66) (v:=?vs4) rfl rfl (by kernel_rfl) rfl (by rfl) (fun W hW=>?ys4) ?_
          case ys4=>
           obtain⟨_,_,e0,e1,e2,e3,e4,e5,e6⟩:=HPd.out.below hW
           go_simp<;>with_reducible rfl
          simp only[pU]
          refine zAa 5 (some 67) rfl rfl (by kernel_rfl) rfl (by rfl) (fun W hW=>by go_simp<;>with_reducible rfl) ?_
          simp only[pU]
          refine zAa 6 (some 68) (v:=?vs6) rfl rfl (by kernel_rfl) rfl (by rfl) (fun W hW=>?ys6) ?_
          case ys6=>
           have h6:=(HYd.out.below HYd.out.lt hW).c6
           go_simp<;>with_reducible rfl
          simp only[pU]
          refine zAa 7 (some 69) rfl rfl (by kernel_rfl) rfl (by rfl) (fun W hW=>by go_simp<;>with_reducible rfl) ?_
          simp only[pU]
          refine zAa 8 (some 70) rfl rfl (by kernel_rfl) rfl (by rfl) (fun W hW=>by go_simp<;>with_reducible rfl) ?_
          simp only[pU]
          refine zAa 9 (some 71) (v:=?vs9) rfl rfl (by kernel_rfl) rfl (by rfl) (fun W hW=>?ys9) ?_
          case ys9=>
           obtain⟨_,_,e0,e1,e2,e3,e4,e5,e6⟩:=HQd.out.below hW
           go_simp<;>with_reducible rfl
          simp only[pU]
          refine zAc 10 rfl (by kernel_rfl) (fun K hK=>?_)
          go_simp
          refine hcall1.mono ?_
          rintro e w4 ⟨rfl,hb4⟩
          have HX4:=hide (HXd.out.below HXd.out.lt hb4)
          have HY4:=hide (HYd.out.below HYd.out.lt hb4)
          have HB4:=hT HBd hb4
          refine hK.out _ _ hb4 ?_
          clear hK K hcall1 hb4 HXd HYd HBd HPd HQd
          try simp only[pU]
          refine zAa 11 (some 73) rfl rfl (by kernel_rfl) rfl (by rfl) (fun W hW=>by go_simp<;>with_reducible rfl) ?_
          simp only[pU]
          refine zAi (by kernel_rfl) ?_ _
          obtain⟨_,c0,c1,c2,c3,c4,c5,c6⟩:=HX4.out
          cases bb with
          | false=>
           have hbf:=HNo.out rfl
           clear HYes HNo HX4 HY4
           go_wp2
           go_ret
           exact⟨by rw[hbf.out];rfl,HB4.out⟩
          | true=>
           have hst:=HYes.out rfl
           clear HYes HNo
           go_wp2
           go_roundg r
           case measure=>omega
           case rel=>exact⟨j+1,by omega,by go_num,hst,hide ⟨HB4.out,HX4.out,HY4.out⟩⟩
       ·have e1:((np:Int)==(np':Int))=false:=beq_false_of_ne (by omega)
        have e2:((np:Int)!=(np':Int))=true:=by unfold bne;rw[e1];rfl
        have hbf:Hid (b=false):=hide (by
         cases hbb:b with
         | false=>rfl
         | true=>exact absurd (by have h:=(inj hbb).2.2.2.2.2.2;rw[<-Hnp.out,<-Hnp'.out,h]) h6)
        clear HTx inj HD HP HD' HP' Hih Hnp Hnp' Hb h5 h6 start
        generalize txt a=sa at *
        generalize txt v=sv at *
        generalize txt f=sf at *
        generalize txt l=sl at *
        go_enter Tryz.func41,Tryz.ntmps41
        go_upto_region 1 with fail
        rw[HW1.out,HW2.out]
        (try rw[HSz.out])
        go_wp2_with (go_at_call 42;fail)
        refine hcall.mono ?_
        rintro e w3 ⟨rfl,hb3⟩
        have HX3:=hide (HX.out.below HX.out.lt hb3)
        have HY3:=hide (HY.out.below HY.out.lt hb3)
        have HB3:=hT HB hb3
        clear hcall hb3 HX HY HB c0 c1 c2 c3 c4 c5 c6 d0 d1 d2 d3 d4 d5 d6
        obtain⟨_,c0,c1,c2,c3,c4,c5,c6⟩:=HX3.out
        obtain⟨_,d0,d1,d2,d3,d4,d5,d6⟩:=HY3.out
        go_wp2
        go_ret
        exact⟨by rw[hbf.out];rfl,HB3.out⟩
      ·have hcall:=HTx.out false ⟨fun h=>(by cases h),fun h=>absurd h h5⟩
       have hbf:Hid (b=false):=hide (by
        cases hbb:b with
        | false=>rfl
        | true=>exact absurd (inj hbb).2.2.2.2.2.1 h5)
       clear HTx inj HD HP HD' HP' Hih Hnp Hnp' Hb h5 start
       generalize txt a=sa at *
       generalize txt v=sv at *
       generalize txt f=sf at *
       generalize txt l=sl at *
       go_enter Tryz.func41,Tryz.ntmps41
       go_upto_region 1 with fail
       rw[HW1.out,HW2.out]
       (try rw[HSz.out])
       go_wp2_with (go_at_call 42;fail)
       refine hcall.mono ?_
       rintro e w3 ⟨rfl,hb3⟩
       have HB3:=hT HB hb3
       clear hcall hb3 HX HY HB c0 c1 c2 c3 c4 c5 c6 d0 d1 d2 d3 d4 d5 d6
       go_wp2
       go_ret
       exact⟨by rw[hbf.out];rfl,HB3.out⟩
     ·have e1:=str_ne h4
      have e2:=bne_of e1
      have hbf:Hid (b=false):=hide (by
       cases hbb:b with
       | false=>rfl
       | true=>exact absurd (by have h:=hbb;exact (inj h |>.2.2.2.2.1)) h4)
      clear h4 inj HTx
      clear HD HP HD' HP' Hih Hnp Hnp' Hb start
      generalize txt a=sa at *
      generalize txt v=sv at *
      generalize txt f=sf at *
      generalize txt l=sl at *
      generalize txt l'=sl' at *
      go_enter Tryz.func41,Tryz.ntmps41
      go_upto_region 1 with fail
      rw[HW1.out,HW2.out]
      (try rw[HSz.out])
      go_wp2
      go_ret
      exact⟨by rw[hbf.out];rfl,HB.out⟩
    ·have e1:=str_ne h3
     have e2:=bne_of e1
     have hbf:Hid (b=false):=hide (by
      cases hbb:b with
      | false=>rfl
      | true=>exact absurd (by have h:=hbb;exact (inj h |>.2.2.2.1)) h3)
     clear h3 inj HTx
     clear HD HP HD' HP' Hih Hnp Hnp' Hb start
     generalize txt a=sa at *
     generalize txt v=sv at *
     generalize txt f=sf at *
     generalize txt l=sl at *
     generalize txt f'=sf' at *
     generalize txt l'=sl' at *
     go_enter Tryz.func41,Tryz.ntmps41
     go_upto_region 1 with fail
     rw[HW1.out,HW2.out]
     (try rw[HSz.out])
     go_wp2
     go_ret
     exact⟨by rw[hbf.out];rfl,HB.out⟩
   ·have e1:=str_ne h2
    have e2:=bne_of e1
    have hbf:Hid (b=false):=hide (by
     cases hbb:b with
     | false=>rfl
     | true=>exact absurd (by have h:=hbb;exact (inj h |>.2.2.1)) h2)
    clear h2 inj HTx
    clear HD HP HD' HP' Hih Hnp Hnp' Hb start
    generalize txt a=sa at *
    generalize txt v=sv at *
    generalize txt f=sf at *
    generalize txt l=sl at *
    generalize txt v'=sv' at *
    generalize txt f'=sf' at *
    generalize txt l'=sl' at *
    go_enter Tryz.func41,Tryz.ntmps41
    go_upto_region 1 with fail
    rw[HW1.out,HW2.out]
    (try rw[HSz.out])
    go_wp2
    go_ret
    exact⟨by rw[hbf.out];rfl,HB.out⟩
  ·have e1:=str_ne h1
   have e2:=bne_of e1
   have hbf:Hid (b=false):=hide (by
    cases hbb:b with
    | false=>rfl
    | true=>exact absurd (by have h:=hbb;exact (inj h |>.2.1)) h1)
   clear h1 inj HTx
   clear HD HP HD' HP' Hih Hnp Hnp' Hb start
   generalize txt a=sa at *
   generalize txt v=sv at *
   generalize txt f=sf at *
   generalize txt l=sl at *
   generalize txt a'=sa' at *
   generalize txt v'=sv' at *
   generalize txt f'=sf' at *
   generalize txt l'=sl' at *
   go_enter Tryz.func41,Tryz.ntmps41
   go_upto_region 1 with fail
   rw[HW1.out,HW2.out]
   (try rw[HSz.out])
   go_wp2
   go_ret
   exact⟨by rw[hbf.out];rfl,HB.out⟩
 ·have e1:(k==k')=false:=beq_false_of_ne h0
  have e2:(k !=k')=true:=by unfold bne;rw[e1];rfl
  have hbf:Hid (b=false):=hide (by
   cases hbb:b with
   | false=>rfl
   | true=>exact absurd (by have h:=hbb;exact (inj h |>.1)) h0)
  clear h0 inj HTx
  clear HD HP HD' HP' Hih Hnp Hnp' Hb start
  generalize txt a=sa at *
  generalize txt v=sv at *
  generalize txt f=sf at *
  generalize txt l=sl at *
  generalize txt a'=sa' at *
  generalize txt v'=sv' at *
  generalize txt f'=sf' at *
  generalize txt l'=sl' at *
  go_enter Tryz.func41,Tryz.ntmps41
  go_upto_region 1 with fail
  rw[HW1.out,HW2.out]
  (try rw[HSz.out])
  go_wp2
  go_ret
  exact⟨by rw[hbf.out];rfl,HB.out⟩
end Go.Proofs.YtcpjmgfloimfhaaGreat
