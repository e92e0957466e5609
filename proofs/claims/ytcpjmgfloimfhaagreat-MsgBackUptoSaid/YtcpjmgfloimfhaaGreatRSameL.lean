/- Lists of attributes, of changes and of controls, compared by the reference. By an AI agent. -/
import Derived.Test.YtcpjmgfloimfhaaGreatM15
import Derived.Test.YtcpjmgfloimfhaaGreatM16
set_option linter.unusedSimpArgs false
set_option linter.unusedVariables false
set_option maxRecDepth 100000
set_option maxHeartbeats 32000000
namespace Go.Proofs.YtcpjmgfloimfhaaGreat
open Go.RowKit
theorem lit_rep (w:World) (a:Atr) (A:Option Addr) (c:Nat) (hl:a.2.length<=20000) (hA:HasP w (inB w) 1 A a.2.length (strs a.2)):
  repL elA (w.alloc (.cells #[.string (txt a.1),.slice A a.2.length c] 59)) (inB (w.alloc (.cells #[.string (txt a.1),.slice A a.2.length c] 59))) [a] (.slice (some ⟨w.heap.size,0,none⟩) 1 1):=by
 have hB:=Blk.new w [.string (txt a.1),.slice A a.2.length c] 59
 refine⟨some ⟨w.heap.size,0,none⟩,1,[.string (txt a.1),.slice A a.2.length c],rfl,by simp,⟨rfl,.inr ⟨_,rfl,by simp[inB],fun j u hu=>?_⟩⟩,⟨⟨A,c,rfl,hl,?_⟩,rfl⟩⟩
 ·rw [show (⟨w.heap.size,0,none⟩:Addr).add j=⟨w.heap.size,j,none⟩ by unfold Addr.add;split<;>simp_all]
  exact hB.cells j u hu
 ·exact hA.move (fun p hp=>(below1 w _).cell (by exact hp)) (fun k hk=>by have h4:k<w.heap.size:=hk;simp[inB];omega)
theorem ctl_eqR (x y:Ct) (b:Bool) (hb:b=true↔x=y) (w:World):(Op.equalIn 10000 68 (.agg #[.string (txt x.oid),.bool x.crit,.bool x.hasv,.string (txt x.value)]) (.agg #[.string (txt y.oid),.bool y.crit,.bool y.hasv,.string (txt y.value)])).run Tryz.prog w=.ok b w:=by
 have hS:Tryz.prog.underlying 68=some (.struct (Tryz.prog.fieldsOf 68)):=by kernel_rfl
 have hp:Tryz.prog.stoodInHeld 68=false:=by kernel_rfl
 rw[show (10000:Nat)=9999+1 from rfl,run_equalIn_agg w 9999 68 _ _ hS hp]
 simp only[Program.fieldsOf,Tryz.underlying68]
 obtain⟨xo,xc,xh,xv⟩:=x
 obtain⟨yo,yc,yh,yv⟩:=y
 simp only
 go_simp
 by_cases h0:xo=yo
 rotate_left
 ·obtain rfl:b=false:=by
   cases b with
   | false=>rfl
   | true=>have:=hb.1 rfl;simp only[Ct.mk.injEq] at this;exact absurd this.1 h0
  simp[h0]
 subst h0
 by_cases h1:xc=yc
 rotate_left
 ·obtain rfl:b=false:=by
   cases b with
   | false=>rfl
   | true=>have:=hb.1 rfl;simp only[Ct.mk.injEq] at this;exact absurd this.2.1 h1
  simp[h1]
 subst h1
 by_cases h2:xh=yh
 rotate_left
 ·obtain rfl:b=false:=by
   cases b with
   | false=>rfl
   | true=>have:=hb.1 rfl;simp only[Ct.mk.injEq] at this;exact absurd this.2.2.1 h2
  simp[h2]
 subst h2
 by_cases h3:xv=yv
 rotate_left
 ·obtain rfl:b=false:=by
   cases b with
   | false=>rfl
   | true=>have:=hb.1 rfl;simp only[Ct.mk.injEq] at this;exact absurd this.2.2.2 h3
  simp[h3]
 subst h3
 obtain rfl:b=true:=hb.2 rfl
 simp
theorem rsameC_any (w:World) (D D':Option Addr) (n n' d d':Nat) (L M:List (Ct)) (hL:repL elC w (inB w) L (.slice D n d)) (hM:repL elC w (inB w) M (.slice D' n' d')) (R:Bool) (hR:R=true↔L=M):
  Calls Tryz.prog 45 #[.slice D n d,.slice D' n' d'] w fun e w'=>e=.returned (.bool R)/\Below w.heap.size w w':=by
 obtain⟨A,c,xs,he,hl,hH,hr⟩:=hL
 obtain⟨A',c',ys,he',hl',hH',hr'⟩:=hM
 cases he
 cases he'
 obtain⟨n,hn⟩:∃n,L.length=n:=⟨_,rfl⟩
 obtain⟨n',hn'⟩:∃n',M.length=n':=⟨_,rfl⟩
 rw[hn] at hl hH ⊢
 rw[hn'] at hl' hH' ⊢
 have hni:(n:Int)<=9223372036854775807:=by omega
 have hni':(n':Int)<=9223372036854775807:=by omega
 by_cases hnn:n=n'
 ·subst hnn
  have HR:=hide hR
  have HH:=hide (And.intro hH hr)
  have HH':=hide (And.intro hH' hr')
  have HN:=hide hn
  have HN':=hide hn'
  clear hH hr hH' hr' hn hn' hR
  go_enter Tryz.func45,Tryz.ntmps45
  go_wp2
  go_loopg [13] n (fun r s13 wx=>∃j:Nat,j+r=n/\s13=.int .i64 (j:Int)/\Hid (L.take j=M.take j)/\Hid ((∀a:Addr,wx.cell? a=w.cell? a)/\Below w.heap.size w wx))
  case atStart=>exact⟨0,by omega,rfl,hide rfl,hide ⟨fun _=>rfl,Below.refl _ _⟩⟩
  case round=>
   obtain⟨j,hjg,rfl,hpre,hbr⟩:=hrel
   cases gk with
   | zero=>
    obtain rfl:j=n:=by omega
    have hjz:¬((j:Int)<(j:Int)):=by omega
    have hq:Hid (R=true):=hide (HR.out.2 (by
     have:=hpre.out
     rwa [List.take_of_length_le (by rw[HN.out];exact Nat.le_refl _),List.take_of_length_le (by rw[HN'.out];exact Nat.le_refl _)] at this))
    clear HH HH' HN HN' hpre HR
    go_wp2
    go_ret
    exact⟨by rw[hq.out];rfl,hbr.out.2⟩
   | succ r=>
    have hj:j<n:=by omega
    have hjz:(j:Int)<(n:Int):=by omega
    obtain⟨p,hp⟩:∃p,L[j]?=some p:=⟨_,List.getElem?_eq_getElem (by rw[HN.out];exact hj)⟩
    obtain⟨q,hq⟩:∃q,M[j]?=some q:=⟨_,List.getElem?_eq_getElem (by rw[HN'.out];exact hj)⟩
    obtain⟨g1,o1,hDe,hg,hparts⟩:=zBc HH.out.1 HH.out.2 (by decide) (fun h=>by rw[h] at hp;simp at hp)
    obtain⟨g2,o2,hDe',hg',hparts'⟩:=zBc HH'.out.1 HH'.out.2 (by decide) (fun h=>by rw[h] at hq;simp at hq)
    subst hDe hDe'
    obtain⟨cp,hrp,hcp⟩:=hparts j p hp
    obtain⟨cq,hrq,hcq⟩:=hparts' j q hq
    obtain⟨bb,hbb⟩:=boolOf (p=q)
    have hyes:bb=true->Hid (L.take (j+1)=M.take (j+1)):=fun h=>hide (by
     rw[List.take_add_one,List.take_add_one,hpre.out,hp,hq,hbb.1 h])
    have hno:bb=false->Hid (R=false):=fun h=>hide (by
     cases hRR:R with
     | false=>rfl
     | true=>
      have e:=HR.out.1 hRR
      rw[e,hq] at hp
      have:=hbb.2 (Option.some.inj hp).symm
      rw[h] at this
      cases this)
    have HYes:=hide hyes
    have HNo:=hide hno
    obtain rfl:=hrp
    obtain rfl:=hrq
    have hcell:=hbr.out.1
    have hce:=ctl_eqR p q bb hbb
    have x0:wr.cell? ⟨g1,o1+j*4,none⟩=some _:=(hcell _).trans (hcp 0 _ rfl)
    have y0:wr.cell? ⟨g2,o2+j*4,none⟩=some _:=(hcell _).trans (hcq 0 _ rfl)
    have x1:wr.cell? ⟨g1,o1+j*4+1,none⟩=some _:=(hcell _).trans (hcp 1 _ rfl)
    have y1:wr.cell? ⟨g2,o2+j*4+1,none⟩=some _:=(hcell _).trans (hcq 1 _ rfl)
    have x2:wr.cell? ⟨g1,o1+j*4+2,none⟩=some _:=(hcell _).trans (hcp 2 _ rfl)
    have y2:wr.cell? ⟨g2,o2+j*4+2,none⟩=some _:=(hcell _).trans (hcq 2 _ rfl)
    have x3:wr.cell? ⟨g1,o1+j*4+3,none⟩=some _:=(hcell _).trans (hcp 3 _ rfl)
    have y3:wr.cell? ⟨g2,o2+j*4+3,none⟩=some _:=(hcell _).trans (hcq 3 _ rfl)
    clear HH HH' HN HN' hpre HR hp hq hparts hparts' hcp hcq hyes hno hbb hcell
    go_wp2_with fail
    go_quiet (fail)
    have hbn:Hid ((∀a:Addr,(wr.drewN nq).cell? a=w.cell? a)/\Below w.heap.size w (wr.drewN nq)):=hide ⟨fun a=>(show (wr.drewN nq).cell? a=wr.cell? a from rfl).trans (hbr.out.1 a),Below.drewN hbr.out.2 nq⟩
    clear x0 x1 x2 x3 y0 y1 y2 y3 hce hbr
    generalize wr.drewN nq=wn at *
    cases bb with
    | false=>
     have hbf:=HNo.out rfl
     clear HYes HNo
     go_wp2
     go_ret
     exact⟨by rw[hbf.out];rfl,hbn.out.2⟩
    | true=>
     have hst:=HYes.out rfl
     clear HYes HNo
     go_wp2
     go_roundg r
     case measure=>omega
     case rel=>exact⟨j+1,by omega,by go_num,hst,hbn⟩
 ·have z1:((n:Int)==(n':Int))=false:=beq_false_of_ne (by omega)
  have z2:((n:Int)!=(n':Int))=true:=by unfold bne;rw[z1];rfl
  obtain rfl:R=false:=by
   cases hRR:R with
   | false=>rfl
   | true=>exact absurd (by rw[<-hn,<-hn',hR.1 hRR]) hnn
  clear hH hr hH' hr' hn hn' hR hnn
  go_enter Tryz.func45,Tryz.ntmps45
  go_wp2
  go_ret
  exact⟨rfl,Below.refl _ _⟩
theorem rsameA_any (w:World) (D D':Option Addr) (n n' d d':Nat) (L M:List (Atr)) (hL:repL elA w (inB w) L (.slice D n d)) (hM:repL elA w (inB w) M (.slice D' n' d')) (R:Bool) (hR:R=true↔L=M):
  Calls Tryz.prog 43 #[.slice D n d,.slice D' n' d'] w fun e w'=>e=.returned (.bool R)/\Below w.heap.size w w':=by
 obtain⟨A,c,xs,he,hl,hH,hr⟩:=hL
 obtain⟨A',c',ys,he',hl',hH',hr'⟩:=hM
 cases he
 cases he'
 obtain⟨n,hn⟩:∃n,L.length=n:=⟨_,rfl⟩
 obtain⟨n',hn'⟩:∃n',M.length=n':=⟨_,rfl⟩
 rw[hn] at hl hH ⊢
 rw[hn'] at hl' hH' ⊢
 have hni:(n:Int)<=9223372036854775807:=by omega
 have hni':(n':Int)<=9223372036854775807:=by omega
 by_cases hnn:n=n'
 ·subst hnn
  have HR:=hide hR
  have HH:=hide (And.intro hH hr)
  have HH':=hide (And.intro hH' hr')
  have HN:=hide hn
  have HN':=hide hn'
  clear hH hr hH' hr' hn hn' hR
  go_enter Tryz.func43,Tryz.ntmps43
  go_wp2
  go_loopg [13] n (fun r s13 wx=>∃j:Nat,j+r=n/\s13=.int .i64 (j:Int)/\Hid (L.take j=M.take j)/\Hid (Below w.heap.size w wx))
  case atStart=>exact⟨0,by omega,rfl,hide rfl,hide (Below.refl _ _)⟩
  case round=>
   obtain⟨j,hjg,rfl,hpre,hbr⟩:=hrel
   cases gk with
   | zero=>
    obtain rfl:j=n:=by omega
    have hjz:¬((j:Int)<(j:Int)):=by omega
    have hq:Hid (R=true):=hide (HR.out.2 (by
     have:=hpre.out
     rwa [List.take_of_length_le (by rw[HN.out];exact Nat.le_refl _),List.take_of_length_le (by rw[HN'.out];exact Nat.le_refl _)] at this))
    clear HH HH' HN HN' hpre HR
    go_wp2
    go_ret
    exact⟨by rw[hq.out];rfl,hbr.out⟩
   | succ r=>
    have hj:j<n:=by omega
    have hjz:(j:Int)<(n:Int):=by omega
    obtain⟨p,hp⟩:∃p,L[j]?=some p:=⟨_,List.getElem?_eq_getElem (by rw[HN.out];exact hj)⟩
    obtain⟨q,hq⟩:∃q,M[j]?=some q:=⟨_,List.getElem?_eq_getElem (by rw[HN'.out];exact hj)⟩
    obtain⟨g1,o1,hDe,hg,hparts⟩:=zBc HH.out.1 HH.out.2 (by decide) (fun h=>by rw[h] at hp;simp at hp)
    obtain⟨g2,o2,hDe',hg',hparts'⟩:=zBc HH'.out.1 HH'.out.2 (by decide) (fun h=>by rw[h] at hq;simp at hq)
    subst hDe hDe'
    obtain⟨cp,hrp,hcp⟩:=hparts j p hp
    obtain⟨cq,hrq,hcq⟩:=hparts' j q hq
    obtain⟨bb,hbb⟩:=boolOf (p=q)
    have hyes:bb=true->Hid (L.take (j+1)=M.take (j+1)):=fun h=>hide (by
     rw[List.take_add_one,List.take_add_one,hpre.out,hp,hq,hbb.1 h])
    have hno:bb=false->Hid (R=false):=fun h=>hide (by
     cases hRR:R with
     | false=>rfl
     | true=>
      have e:=HR.out.1 hRR
      rw[e,hq] at hp
      have:=hbb.2 (Option.some.inj hp).symm
      rw[h] at this
      cases this)
    have HYes:=hide hyes
    have HNo:=hide hno
    obtain⟨pA,pc,rfl,hpl,hpH⟩:=hrp
    obtain⟨qA,qc,rfl,hql,hqH⟩:=hrq
    obtain⟨pt,pv⟩:=p
    obtain⟨qt,qv⟩:=q
    simp only at hpl hpH hql hqH hcp hcq
    have hb2:=hbr.out
    have hbd:Below w.heap.size w wr.drew:=hb2.drew
    have X0:Hid (∀W,Below wr.drew.heap.size wr.drew W->W.cell? ⟨g1,o1+j*2,none⟩=some (.string (txt pt))/\W.cell? ⟨g1,o1+j*2+1,none⟩=some (.slice pA pv.length pc)):=hide fun W hW=>by
     have h2:=hbd.trans (hW.mono hbd.size)
     exact⟨(h2.cell (p:=⟨g1,o1+j*2,none⟩) hg).trans (hcp 0 _ rfl),(h2.cell (p:=⟨g1,o1+j*2+1,none⟩) hg).trans (hcp 1 _ rfl)⟩
    have Y0:Hid (∀W,Below wr.drew.heap.size wr.drew W->W.cell? ⟨g2,o2+j*2,none⟩=some (.string (txt qt))/\W.cell? ⟨g2,o2+j*2+1,none⟩=some (.slice qA qv.length qc)):=hide fun W hW=>by
     have h2:=hbd.trans (hW.mono hbd.size)
     exact⟨(h2.cell (p:=⟨g2,o2+j*2,none⟩) hg').trans (hcq 0 _ rfl),(h2.cell (p:=⟨g2,o2+j*2+1,none⟩) hg').trans (hcq 1 _ rfl)⟩
    have HBd:=hide hbd
    by_cases ht:pt=qt
    ·subst ht
     have HC:Hid (∀W,Below wr.drew.heap.size wr.drew W->Calls Tryz.prog 42 #[.slice pA pv.length pc,.slice qA qv.length qc] W fun e w'=>e=.returned (.bool bb)/\Below W.heap.size W w'):=hide fun W hW=>by
      have h2:=hbd.trans (hW.mono hbd.size)
      exact rsametexts_any W pA qA _ _ pc qc pv qv (((HasP.has hpH (fun k hk=>hk)).below h2).upto h2.size) (((HasP.has hqH (fun k hk=>hk)).below h2).upto h2.size) (by unfold maxLen;omega) bb (by rw[hbb];simp)
     clear HH HH' HN HN' hpre HR hp hq hparts hparts' hcp hcq hyes hno hbb hpl hql hpH hqH hb2 hbd hbr
     generalize pv.length=n1 at *
     generalize qv.length=n2 at *
     generalize txt pt=s1 at *
     go_wp2_with fail
     refine zAs (by kernel_rfl) ?_
     generalize wr.drew=wd at *
     refine zAa 0 (some 16) rfl rfl (by kernel_rfl) rfl (by rfl) (fun W hW=>by go_simp<;>with_reducible rfl) ?_
     try simp only[pU]
     refine zAa 1 (some 17) rfl rfl (by kernel_rfl) rfl (by rfl) (fun W hW=>by go_simp<;>with_reducible rfl) ?_
     try simp only[pU]
     refine zAa 2 (some 18) rfl rfl (by kernel_rfl) rfl (by rfl) (fun W hW=>by go_simp<;>with_reducible rfl) ?_
     try simp only[pU]
     refine zAa 3 (some 19) rfl rfl (by kernel_rfl) rfl (by rfl) (fun W hW=>by go_simp<;>with_reducible rfl) ?_
     try simp only[pU]
     refine zAa 4 (some 20) (v:=.string s1) rfl rfl (by kernel_rfl) rfl (by rfl) (fun W hW=>?ya4) ?_
     case ya4=>
      exact zAd _ _ _ rfl g1 (o1+j*2) rfl _ (loadS8 W _ _ (X0.out W hW).1)
     try simp only[pU]
     refine zAa 5 (some 21) rfl rfl (by kernel_rfl) rfl (by rfl) (fun W hW=>by go_simp<;>with_reducible rfl) ?_
     try simp only[pU]
     refine zAa 6 (some 22) rfl rfl (by kernel_rfl) rfl (by rfl) (fun W hW=>by go_simp<;>with_reducible rfl) ?_
     try simp only[pU]
     refine zAa 7 (some 23) rfl rfl (by kernel_rfl) rfl (by rfl) (fun W hW=>by go_simp<;>with_reducible rfl) ?_
     try simp only[pU]
     refine zAa 8 (some 24) rfl rfl (by kernel_rfl) rfl (by rfl) (fun W hW=>by go_simp<;>with_reducible rfl) ?_
     try simp only[pU]
     refine zAa 9 (some 25) (v:=.string s1) rfl rfl (by kernel_rfl) rfl (by rfl) (fun W hW=>?ya9) ?_
     case ya9=>
      exact zAd _ _ _ rfl g2 (o2+j*2) rfl _ (loadS8 W _ _ (Y0.out W hW).1)
     try simp only[pU]
     refine zAa 10 (some 26) (v:=.bool false) rfl rfl (by kernel_rfl) rfl (by rfl) (fun W hW=>by go_simp<;>with_reducible rfl) ?_
     try simp only[pU]
     refine zAa 11 (some 27) (v:=.bool false) rfl rfl (by kernel_rfl) rfl (by rfl) (fun W hW=>by go_simp<;>with_reducible rfl) ?_
     try simp only[pU]
     refine zAa 12 (some 28) rfl rfl (by kernel_rfl) rfl (by rfl) (fun W hW=>by go_simp<;>with_reducible rfl) ?_
     try simp only[pU]
     refine zAa 13 (some 29) rfl rfl (by kernel_rfl) rfl (by rfl) (fun W hW=>by go_simp<;>with_reducible rfl) ?_
     try simp only[pU]
     refine zAa 14 (some 30) rfl rfl (by kernel_rfl) rfl (by rfl) (fun W hW=>by go_simp<;>with_reducible rfl) ?_
     try simp only[pU]
     refine zAa 15 (some 31) rfl rfl (by kernel_rfl) rfl (by rfl) (fun W hW=>by go_simp<;>with_reducible rfl) ?_
     try simp only[pU]
     refine zAa 16 (some 32) (v:=.slice pA n1 pc) rfl rfl (by kernel_rfl) rfl (by rfl) (fun W hW=>?ya16) ?_
     case ya16=>
      exact zAd _ _ _ rfl g1 (o1+j*2+1) rfl _ (loadT W _ _ (X0.out W hW).2)
     try simp only[pU]
     refine zAa 17 (some 33) rfl rfl (by kernel_rfl) rfl (by rfl) (fun W hW=>by go_simp<;>with_reducible rfl) ?_
     try simp only[pU]
     refine zAa 18 (some 34) rfl rfl (by kernel_rfl) rfl (by rfl) (fun W hW=>by go_simp<;>with_reducible rfl) ?_
     try simp only[pU]
     refine zAa 19 (some 35) rfl rfl (by kernel_rfl) rfl (by rfl) (fun W hW=>by go_simp<;>with_reducible rfl) ?_
     try simp only[pU]
     refine zAa 20 (some 36) rfl rfl (by kernel_rfl) rfl (by rfl) (fun W hW=>by go_simp<;>with_reducible rfl) ?_
     try simp only[pU]
     refine zAa 21 (some 37) (v:=.slice qA n2 qc) rfl rfl (by kernel_rfl) rfl (by rfl) (fun W hW=>?ya21) ?_
     case ya21=>
      exact zAd _ _ _ rfl g2 (o2+j*2+1) rfl _ (loadT W _ _ (Y0.out W hW).2)
     try simp only[pU]
     refine zAc 22 rfl (by kernel_rfl) (fun K hK=>?_)
     go_simp
     refine (HC.out _ (Below.refl _ _)).mono ?_
     rintro e w5 ⟨rfl,hb5⟩
     have HBz:=hT HBd hb5
     refine hK.out _ _ hb5 ?_
     clear hK K hb5 HC X0 Y0 HBd
     try simp only[pU]
     refine zAa 23 (some 39) rfl rfl (by kernel_rfl) rfl (by rfl) (fun W hW=>by go_simp<;>with_reducible rfl) ?_
     try simp only[pU]
     refine zAa 24 (some 40) rfl rfl (by kernel_rfl) rfl (by rfl) (fun W hW=>by go_simp<;>with_reducible rfl) ?_
     try simp only[pU]
     refine zAi (by kernel_rfl) ?_ _
     cases bb with
     | false=>
      have hbf:=HNo.out rfl
      clear HYes HNo
      go_wp2
      go_ret
      exact⟨by rw[hbf.out];rfl,HBz.out⟩
     | true=>
      have hst:=HYes.out rfl
      clear HYes HNo
      go_wp2
      go_roundg r
      case measure=>omega
      case rel=>exact⟨j+1,by omega,by go_num,hst,HBz⟩
    ·obtain rfl:bb=false:=by
      cases bb with
      | false=>rfl
      | true=>exact absurd (congrArg Prod.fst (hbb.1 rfl)) ht
     have n1:¬txt pt=txt qt:=fun q=>ht (txt_inj q)
     have n3:((txt pt).toList==(txt qt).toList)=false:=beq_false_of_ne (fun q=>ht (txt_lists q))
     clear HH HH' HN HN' hpre HR hp hq hparts hparts' hcp hcq hyes hno hbb hpl hql hpH hqH hb2 hbd hbr ht
     generalize pv.length=n1 at *
     generalize qv.length=n2 at *
     generalize txt pt=s1 at *
     generalize txt qt=s2 at *
     have HBz:=HBd
     go_wp2_with fail
     refine zAs (by kernel_rfl) ?_
     generalize wr.drew=wd at *
     refine zAa 0 (some 16) rfl rfl (by kernel_rfl) rfl (by rfl) (fun W hW=>by go_simp<;>with_reducible rfl) ?_
     try simp only[pU]
     refine zAa 1 (some 17) rfl rfl (by kernel_rfl) rfl (by rfl) (fun W hW=>by go_simp<;>with_reducible rfl) ?_
     try simp only[pU]
     refine zAa 2 (some 18) rfl rfl (by kernel_rfl) rfl (by rfl) (fun W hW=>by go_simp<;>with_reducible rfl) ?_
     try simp only[pU]
     refine zAa 3 (some 19) rfl rfl (by kernel_rfl) rfl (by rfl) (fun W hW=>by go_simp<;>with_reducible rfl) ?_
     try simp only[pU]
     refine zAa 4 (some 20) (v:=.string s1) rfl rfl (by kernel_rfl) rfl (by rfl) (fun W hW=>?yb4) ?_
     case yb4=>
      exact zAd _ _ _ rfl g1 (o1+j*2) rfl _ (loadS8 W _ _ (X0.out W hW).1)
     try simp only[pU]
     refine zAa 5 (some 21) rfl rfl (by kernel_rfl) rfl (by rfl) (fun W hW=>by go_simp<;>with_reducible rfl) ?_
     try simp only[pU]
     refine zAa 6 (some 22) rfl rfl (by kernel_rfl) rfl (by rfl) (fun W hW=>by go_simp<;>with_reducible rfl) ?_
     try simp only[pU]
     refine zAa 7 (some 23) rfl rfl (by kernel_rfl) rfl (by rfl) (fun W hW=>by go_simp<;>with_reducible rfl) ?_
     try simp only[pU]
     refine zAa 8 (some 24) rfl rfl (by kernel_rfl) rfl (by rfl) (fun W hW=>by go_simp<;>with_reducible rfl) ?_
     try simp only[pU]
     refine zAa 9 (some 25) (v:=.string s2) rfl rfl (by kernel_rfl) rfl (by rfl) (fun W hW=>?yb9) ?_
     case yb9=>
      exact zAd _ _ _ rfl g2 (o2+j*2) rfl _ (loadS8 W _ _ (Y0.out W hW).1)
     try simp only[pU]
     refine zAa 10 (some 26) (v:=.bool true) rfl rfl (by kernel_rfl) rfl (by rfl) (fun W hW=>by go_simp<;>with_reducible rfl) ?_
     try simp only[pU]
     refine zAa 11 (some 27) (v:=.bool true) rfl rfl (by kernel_rfl) rfl (by rfl) (fun W hW=>by go_simp<;>with_reducible rfl) ?_
     try simp only[pU]
     refine zAb 12 (some 28) rfl rfl (by kernel_rfl) rfl (by rfl) ?_
     try simp only[pU]
     refine zAb 13 (some 29) rfl rfl (by kernel_rfl) rfl (by rfl) ?_
     try simp only[pU]
     refine zAb 14 (some 30) rfl rfl (by kernel_rfl) rfl (by rfl) ?_
     try simp only[pU]
     refine zAb 15 (some 31) rfl rfl (by kernel_rfl) rfl (by rfl) ?_
     try simp only[pU]
     refine zAb 16 (some 32) rfl rfl (by kernel_rfl) rfl (by rfl) ?_
     try simp only[pU]
     refine zAb 17 (some 33) rfl rfl (by kernel_rfl) rfl (by rfl) ?_
     try simp only[pU]
     refine zAb 18 (some 34) rfl rfl (by kernel_rfl) rfl (by rfl) ?_
     try simp only[pU]
     refine zAb 19 (some 35) rfl rfl (by kernel_rfl) rfl (by rfl) ?_
     try simp only[pU]
     refine zAb 20 (some 36) rfl rfl (by kernel_rfl) rfl (by rfl) ?_
     try simp only[pU]
     refine zAb 21 (some 37) rfl rfl (by kernel_rfl) rfl (by rfl) ?_
     try simp only[pU]
     refine zAb 22 (some 38) rfl rfl (by kernel_rfl) rfl (by rfl) ?_
     try simp only[pU]
     refine zAb 23 (some 39) rfl rfl (by kernel_rfl) rfl (by rfl) ?_
     try simp only[pU]
     refine zAa 24 (some 40) rfl rfl (by kernel_rfl) rfl (by rfl) (fun W hW=>by go_simp<;>with_reducible rfl) ?_
     try simp only[pU]
     refine zAi (by kernel_rfl) ?_ _
     have hbf:=HNo.out (by first | rfl | trivial)
     clear HYes HNo X0 Y0
     go_wp2
     go_ret
     exact⟨by rw[hbf.out];rfl,HBz.out⟩
 ·have z1:((n:Int)==(n':Int))=false:=beq_false_of_ne (by omega)
  have z2:((n:Int)!=(n':Int))=true:=by unfold bne;rw[z1];rfl
  obtain rfl:R=false:=by
   cases hRR:R with
   | false=>rfl
   | true=>exact absurd (by rw[<-hn,<-hn',hR.1 hRR]) hnn
  clear hH hr hH' hr' hn hn' hR hnn
  go_enter Tryz.func43,Tryz.ntmps43
  go_wp2
  go_ret
  exact⟨rfl,Below.refl _ _⟩
theorem loadN8 (W:World) (p:Addr) (v:Value) (h:W.cell? p=some v):(loadVar 3 p).run Tryz.prog W=.ok v W:=by go_simp
theorem rsameH_any (w:World) (D D':Option Addr) (n n' d d':Nat) (L M:List (Int × Atr)) (hL:repL elH w (inB w) L (.slice D n d)) (hM:repL elH w (inB w) M (.slice D' n' d')) (R:Bool) (hR:R=true↔L=M):
  Calls Tryz.prog 44 #[.slice D n d,.slice D' n' d'] w fun e w'=>e=.returned (.bool R)/\Below w.heap.size w w':=by
 obtain⟨A,c,xs,he,hl,hH,hr⟩:=hL
 obtain⟨A',c',ys,he',hl',hH',hr'⟩:=hM
 cases he
 cases he'
 obtain⟨n,hn⟩:∃n,L.length=n:=⟨_,rfl⟩
 obtain⟨n',hn'⟩:∃n',M.length=n':=⟨_,rfl⟩
 rw[hn] at hl hH ⊢
 rw[hn'] at hl' hH' ⊢
 have hni:(n:Int)<=9223372036854775807:=by omega
 have hni':(n':Int)<=9223372036854775807:=by omega
 by_cases hnn:n=n'
 ·subst hnn
  have HR:=hide hR
  have HH:=hide (And.intro hH hr)
  have HH':=hide (And.intro hH' hr')
  have HN:=hide hn
  have HN':=hide hn'
  clear hH hr hH' hr' hn hn' hR
  go_enter Tryz.func44,Tryz.ntmps44
  go_wp2
  go_loopg [13] n (fun r s13 wx=>∃j:Nat,j+r=n/\s13=.int .i64 (j:Int)/\Hid (L.take j=M.take j)/\Hid (Below w.heap.size w wx))
  case atStart=>exact⟨0,by omega,rfl,hide rfl,hide (Below.refl _ _)⟩
  case round=>
   obtain⟨j,hjg,rfl,hpre,hbr⟩:=hrel
   cases gk with
   | zero=>
    obtain rfl:j=n:=by omega
    have hjz:¬((j:Int)<(j:Int)):=by omega
    have hq:Hid (R=true):=hide (HR.out.2 (by
     have:=hpre.out
     rwa [List.take_of_length_le (by rw[HN.out];exact Nat.le_refl _),List.take_of_length_le (by rw[HN'.out];exact Nat.le_refl _)] at this))
    clear HH HH' HN HN' hpre HR
    go_wp2
    go_ret
    exact⟨by rw[hq.out];rfl,hbr.out⟩
   | succ r=>
    have hj:j<n:=by omega
    have hjz:(j:Int)<(n:Int):=by omega
    obtain⟨p,hp⟩:∃p,L[j]?=some p:=⟨_,List.getElem?_eq_getElem (by rw[HN.out];exact hj)⟩
    obtain⟨q,hq⟩:∃q,M[j]?=some q:=⟨_,List.getElem?_eq_getElem (by rw[HN'.out];exact hj)⟩
    obtain⟨g1,o1,hDe,hg,hparts⟩:=zBc HH.out.1 HH.out.2 (by decide) (fun h=>by rw[h] at hp;simp at hp)
    obtain⟨g2,o2,hDe',hg',hparts'⟩:=zBc HH'.out.1 HH'.out.2 (by decide) (fun h=>by rw[h] at hq;simp at hq)
    subst hDe hDe'
    obtain⟨cp,hrp,hcp⟩:=hparts j p hp
    obtain⟨cq,hrq,hcq⟩:=hparts' j q hq
    obtain⟨bb,hbb⟩:=boolOf (p=q)
    have hyes:bb=true->Hid (L.take (j+1)=M.take (j+1)):=fun h=>hide (by
     rw[List.take_add_one,List.take_add_one,hpre.out,hp,hq,hbb.1 h])
    have hno:bb=false->Hid (R=false):=fun h=>hide (by
     cases hRR:R with
     | false=>rfl
     | true=>
      have e:=HR.out.1 hRR
      rw[e,hq] at hp
      have:=hbb.2 (Option.some.inj hp).symm
      rw[h] at this
      cases this)
    have HYes:=hide hyes
    have HNo:=hide hno
    obtain⟨pA,pc,rfl,hpl,hpH⟩:=hrp
    obtain⟨qA,qc,rfl,hql,hqH⟩:=hrq
    obtain⟨po,pt,pv⟩:=p
    obtain⟨qo,qt,qv⟩:=q
    simp only at hpl hpH hql hqH hcp hcq
    have hb2:=hbr.out
    have hbd:Below w.heap.size w wr.drew:=hb2.drew
    have X0:Hid (∀W,Below wr.drew.heap.size wr.drew W->W.cell? ⟨g1,o1+j*3,none⟩=some (.int .i64 po)/\W.rangeAt g1 (o1+j*3+1) [.string (txt pt),.slice pA pv.length pc]):=hide fun W hW=>by
     have h2:=hbd.trans (hW.mono hbd.size)
     refine⟨(h2.cell (p:=⟨g1,o1+j*3,none⟩) hg).trans (hcp 0 _ rfl),fun i u hu=>?_⟩
     rw[show o1+j*3+1+i=o1+j*3+(i+1) by omega]
     exact (h2.cell (p:=⟨g1,o1+j*3+(i+1),none⟩) hg).trans (hcp (i+1) u (by simpa using hu))
    have Y0:Hid (∀W,Below wr.drew.heap.size wr.drew W->W.cell? ⟨g2,o2+j*3,none⟩=some (.int .i64 qo)/\W.rangeAt g2 (o2+j*3+1) [.string (txt qt),.slice qA qv.length qc]):=hide fun W hW=>by
     have h2:=hbd.trans (hW.mono hbd.size)
     refine⟨(h2.cell (p:=⟨g2,o2+j*3,none⟩) hg').trans (hcq 0 _ rfl),fun i u hu=>?_⟩
     rw[show o2+j*3+1+i=o2+j*3+(i+1) by omega]
     exact (h2.cell (p:=⟨g2,o2+j*3+(i+1),none⟩) hg').trans (hcq (i+1) u (by simpa using hu))
    have HBd:=hide hbd
    by_cases ht:po=qo
    ·subst ht
     have HP:Hid (∀W,Below wr.drew.heap.size wr.drew W->HasP W (inB W) 1 pA pv.length (strs pv)):=hide fun W hW=>by
      have h2:=hbd.trans (hW.mono hbd.size)
      exact hpH.move (fun p hp=>h2.cell (by exact hp)) (fun k hk=>Nat.lt_of_lt_of_le hk h2.size)
     have HQ:Hid (∀W,Below wr.drew.heap.size wr.drew W->HasP W (inB W) 1 qA qv.length (strs qv)):=hide fun W hW=>by
      have h2:=hbd.trans (hW.mono hbd.size)
      exact hqH.move (fun p hp=>h2.cell (by exact hp)) (fun k hk=>Nat.lt_of_lt_of_le hk h2.size)
     have HC:Hid (∀(W:World) (b1 b2:Nat),repL elA W (inB W) [(pt,pv)] (.slice (some ⟨b1,0,none⟩) 1 1)->repL elA W (inB W) [(qt,qv)] (.slice (some ⟨b2,0,none⟩) 1 1)->Calls Tryz.prog 43 #[.slice (some ⟨b1,0,none⟩) 1 1,.slice (some ⟨b2,0,none⟩) 1 1] W fun e w'=>e=.returned (.bool bb)/\Below W.heap.size W w'):=hide fun W b1 b2 h1 h2=>rsameA_any W _ _ _ _ _ _ _ _ h1 h2 bb (by rw[hbb];simp)
     have Hpl:=hide hpl
     have Hql:=hide hql
     clear HH HH' HN HN' hpre HR hp hq hparts hparts' hcp hcq hyes hno hbb hpl hql hpH hqH hb2 hbd hbr
     go_wp2_with fail
     refine zAs (by kernel_rfl) ?_
     generalize wr.drew=wd at *
     refine zAa 0 (some 16) rfl rfl (by kernel_rfl) rfl (by rfl) (fun W hW=>by go_simp<;>with_reducible rfl) ?_
     try simp only[pU]
     refine zAa 1 (some 17) rfl rfl (by kernel_rfl) rfl (by rfl) (fun W hW=>by go_simp<;>with_reducible rfl) ?_
     try simp only[pU]
     refine zAa 2 (some 18) rfl rfl (by kernel_rfl) rfl (by rfl) (fun W hW=>by go_simp<;>with_reducible rfl) ?_
     try simp only[pU]
     refine zAa 3 (some 19) rfl rfl (by kernel_rfl) rfl (by rfl) (fun W hW=>by go_simp<;>with_reducible rfl) ?_
     try simp only[pU]
     refine zAa 4 (some 20) (v:=.int .i64 po) rfl rfl (by kernel_rfl) rfl (by rfl) (fun W hW=>?ya4) ?_
     case ya4=>
      exact zAd _ _ _ rfl g1 (o1+j*3) rfl _ (loadN8 W _ _ (X0.out W hW).1)
     try simp only[pU]
     refine zAa 5 (some 21) rfl rfl (by kernel_rfl) rfl (by rfl) (fun W hW=>by go_simp<;>with_reducible rfl) ?_
     try simp only[pU]
     refine zAa 6 (some 22) rfl rfl (by kernel_rfl) rfl (by rfl) (fun W hW=>by go_simp<;>with_reducible rfl) ?_
     try simp only[pU]
     refine zAa 7 (some 23) rfl rfl (by kernel_rfl) rfl (by rfl) (fun W hW=>by go_simp<;>with_reducible rfl) ?_
     try simp only[pU]
     refine zAa 8 (some 24) rfl rfl (by kernel_rfl) rfl (by rfl) (fun W hW=>by go_simp<;>with_reducible rfl) ?_
     try simp only[pU]
     refine zAa 9 (some 25) (v:=.int .i64 po) rfl rfl (by kernel_rfl) rfl (by rfl) (fun W hW=>?ya9) ?_
     case ya9=>
      exact zAd _ _ _ rfl g2 (o2+j*3) rfl _ (loadN8 W _ _ (Y0.out W hW).1)
     try simp only[pU]
     refine zAa 10 (some 26) (v:=.bool false) rfl rfl (by kernel_rfl) rfl (by rfl) (fun W hW=>by go_simp<;>with_reducible rfl) ?_
     try simp only[pU]
     refine zAa 11 (some 27) (v:=.bool false) rfl rfl (by kernel_rfl) rfl (by rfl) (fun W hW=>by go_simp<;>with_reducible rfl) ?_
     try simp only[pU]
     refine zAa 12 (some 28) rfl rfl (by kernel_rfl) rfl (by rfl) (fun W hW=>by go_simp<;>with_reducible rfl) ?_
     try simp only[pU]
     refine zAa 13 (some 29) rfl rfl (by kernel_rfl) rfl (by rfl) (fun W hW=>by go_simp<;>with_reducible rfl) ?_
     try simp only[pU]
     refine zAa 14 (some 30) rfl rfl (by kernel_rfl) rfl (by rfl) (fun W hW=>by go_simp<;>with_reducible rfl) ?_
     try simp only[pU]
     refine zAa 15 (some 31) rfl rfl (by kernel_rfl) rfl (by rfl) (fun W hW=>by go_simp<;>with_reducible rfl) ?_
     try simp only[pU]
     refine zAa 16 (some 32) (v:=.agg #[.string (txt pt),.slice pA pv.length pc]) rfl rfl (by kernel_rfl) rfl (by rfl) (fun W hW=>?ya16) ?_
     case ya16=>
      exact zAd _ _ _ rfl g1 (o1+j*3+1) rfl _ (run_loadVar_mid W g1 (o1+j*3+1) 59 _ _ (X0.out W hW).2 Tryz.underlying59 rfl (by kernel_rfl))
     try simp only[pU]
     refine zAa 18 (some 34) rfl rfl (by kernel_rfl) rfl (by rfl) (fun W hW=>by go_simp<;>with_reducible rfl) ?_
     try simp only[pU]
     refine zAa 19 (some 35) rfl rfl (by kernel_rfl) rfl (by rfl) (fun W hW=>by go_simp<;>with_reducible rfl) ?_
     try simp only[pU]
     refine zAa 20 (some 36) rfl rfl (by kernel_rfl) rfl (by rfl) (fun W hW=>by go_simp<;>with_reducible rfl) ?_
     try simp only[pU]
     refine zAa 21 (some 37) rfl rfl (by kernel_rfl) rfl (by rfl) (fun W hW=>by go_simp<;>with_reducible rfl) ?_
     try simp only[pU]
     refine zAa 22 (some 38) (v:=.agg #[.string (txt qt),.slice qA qv.length qc]) rfl rfl (by kernel_rfl) rfl (by rfl) (fun W hW=>?ya22) ?_
     case ya22=>
      exact zAd _ _ _ rfl g2 (o2+j*3+1) rfl _ (run_loadVar_mid W g2 (o2+j*3+1) 59 _ _ (Y0.out W hW).2 Tryz.underlying59 rfl (by kernel_rfl))
     try simp only[pU]
     refine grow_each [17,23] (by kernel_rfl) (by simp) ?_
     refine AllG.cons rfl (fun K hK=>?_) (AllG.cons rfl (fun K hK=>?_) AllG.nil)
     ·go_simp
      have hrp:=lit_rep wd (pt,pv) pA pc Hpl.out (HP.out wd (Below.refl _ _))
      have hbx:Below wd.heap.size wd (wd.alloc (.cells #[.string (txt pt),.slice pA pv.length pc] 59)):=(Below.refl _ _).alloc (Nat.le_refl _) _
      have HBa:=hide hbx
      have HRp:=hide hrp
      refine hK.out _ _ hbx ?_
      clear hK K hbx hrp
      simp only at HRp
      generalize wd.alloc (.cells #[.string (txt pt),.slice pA pv.length pc] 59)=wa at *
      obtain⟨b1,hbp⟩:∃b1,wd.heap.size=b1:=⟨_,rfl⟩
      rw[hbp] at HRp
      rw[hbp]
      try simp only[pU]
      refine zAc 23 rfl (by kernel_rfl) (fun K hK=>?_)
      go_simp
      have hrq:=lit_rep wa (qt,qv) qA qc Hql.out (HQ.out wa HBa.out)
      have hbx:Below wa.heap.size wa (wa.alloc (.cells #[.string (txt qt),.slice qA qv.length qc] 59)):=(Below.refl _ _).alloc (Nat.le_refl _) _
      have HRp2:=hide (repL_below HRp.out hbx)
      have HBb:=hT HBa hbx
      have HRq2:=hide hrq
      refine hK.out _ _ hbx ?_
      clear hK K hbx hrq
      simp only at HRq2
      generalize wa.alloc (.cells #[.string (txt qt),.slice qA qv.length qc] 59)=wb at *
      generalize wa.heap.size=b2 at *
      try simp only[pU]
      refine zAc 24 rfl (by kernel_rfl) (fun K hK=>?_)
      go_simp
      refine (HC.out _ _ _ HRp2.out HRq2.out).mono ?_
      rintro e w5 ⟨rfl,hb5⟩
      have HBz:=hide (HBd.out.trans ((HBb.out.trans (hb5.mono HBb.out.size)).mono HBd.out.size))
      refine hK.out _ _ hb5 ?_
      clear hK K hb5 HC X0 Y0 HBd HP HQ HRp2 HRq2 HBb HBa
      try simp only[pU]
      refine zAa 25 (some 41) rfl rfl (by kernel_rfl) rfl (by rfl) (fun W hW=>by go_simp<;>with_reducible rfl) ?_
      try simp only[pU]
      refine zAa 26 (some 42) rfl rfl (by kernel_rfl) rfl (by rfl) (fun W hW=>by go_simp<;>with_reducible rfl) ?_
      try simp only[pU]
      refine zAi (by kernel_rfl) ?_ _
      cases bb with
      | false=>
       have hbf:=HNo.out rfl
       clear HYes HNo
       go_wp2
       go_ret
       exact⟨by rw[hbf.out];rfl,HBz.out⟩
      | true=>
       have hst:=HYes.out rfl
       clear HYes HNo
       go_wp2
       go_roundg r
       case measure=>omega
       case rel=>exact⟨j+1,by omega,by go_num,hst,HBz⟩
     ·go_simp
      have hrq:=lit_rep wd (qt,qv) qA qc Hql.out (HQ.out wd (Below.refl _ _))
      have hbx:Below wd.heap.size wd (wd.alloc (.cells #[.string (txt qt),.slice qA qv.length qc] 59)):=(Below.refl _ _).alloc (Nat.le_refl _) _
      have HBa:=hide hbx
      have HRq:=hide hrq
      refine hK.out _ _ hbx ?_
      clear hK K hbx hrq
      simp only at HRq
      generalize wd.alloc (.cells #[.string (txt qt),.slice qA qv.length qc] 59)=wa at *
      obtain⟨b2,hbq⟩:∃b2,wd.heap.size=b2:=⟨_,rfl⟩
      rw[hbq] at HRq
      rw[hbq]
      try simp only[pU]
      refine zAc 17 rfl (by kernel_rfl) (fun K hK=>?_)
      go_simp
      have hrp:=lit_rep wa (pt,pv) pA pc Hpl.out (HP.out wa HBa.out)
      have hbx:Below wa.heap.size wa (wa.alloc (.cells #[.string (txt pt),.slice pA pv.length pc] 59)):=(Below.refl _ _).alloc (Nat.le_refl _) _
      have HRq2:=hide (repL_below HRq.out hbx)
      have HBb:=hT HBa hbx
      have HRp2:=hide hrp
      refine hK.out _ _ hbx ?_
      clear hK K hbx hrp
      simp only at HRp2
      generalize wa.alloc (.cells #[.string (txt pt),.slice pA pv.length pc] 59)=wb at *
      generalize wa.heap.size=b1 at *
      try simp only[pU]
      refine zAc 24 rfl (by kernel_rfl) (fun K hK=>?_)
      go_simp
      refine (HC.out _ _ _ HRp2.out HRq2.out).mono ?_
      rintro e w5 ⟨rfl,hb5⟩
      have HBz:=hide (HBd.out.trans ((HBb.out.trans (hb5.mono HBb.out.size)).mono HBd.out.size))
      refine hK.out _ _ hb5 ?_
      clear hK K hb5 HC X0 Y0 HBd HP HQ HRp2 HRq2 HBb HBa
      try simp only[pU]
      refine zAa 25 (some 41) rfl rfl (by kernel_rfl) rfl (by rfl) (fun W hW=>by go_simp<;>with_reducible rfl) ?_
      try simp only[pU]
      refine zAa 26 (some 42) rfl rfl (by kernel_rfl) rfl (by rfl) (fun W hW=>by go_simp<;>with_reducible rfl) ?_
      try simp only[pU]
      refine zAi (by kernel_rfl) ?_ _
      cases bb with
      | false=>
       have hbf:=HNo.out rfl
       clear HYes HNo
       go_wp2
       go_ret
       exact⟨by rw[hbf.out];rfl,HBz.out⟩
      | true=>
       have hst:=HYes.out rfl
       clear HYes HNo
       go_wp2
       go_roundg r
       case measure=>omega
       case rel=>exact⟨j+1,by omega,by go_num,hst,HBz⟩
    ·obtain rfl:bb=false:=by
      cases bb with
      | false=>rfl
      | true=>exact absurd (congrArg Prod.fst (hbb.1 rfl)) ht
     have n3:(po==qo)=false:=beq_false_of_ne ht
     clear HH HH' HN HN' hpre HR hp hq hparts hparts' hcp hcq hyes hno hbb hpl hql hpH hqH hb2 hbd hbr
     have HBz:=HBd
     go_wp2_with fail
     refine zAs (by kernel_rfl) ?_
     generalize wr.drew=wd at *
     refine zAa 0 (some 16) rfl rfl (by kernel_rfl) rfl (by rfl) (fun W hW=>by go_simp<;>with_reducible rfl) ?_
     try simp only[pU]
     refine zAa 1 (some 17) rfl rfl (by kernel_rfl) rfl (by rfl) (fun W hW=>by go_simp<;>with_reducible rfl) ?_
     try simp only[pU]
     refine zAa 2 (some 18) rfl rfl (by kernel_rfl) rfl (by rfl) (fun W hW=>by go_simp<;>with_reducible rfl) ?_
     try simp only[pU]
     refine zAa 3 (some 19) rfl rfl (by kernel_rfl) rfl (by rfl) (fun W hW=>by go_simp<;>with_reducible rfl) ?_
     try simp only[pU]
     refine zAa 4 (some 20) (v:=.int .i64 po) rfl rfl (by kernel_rfl) rfl (by rfl) (fun W hW=>?yb4) ?_
     case yb4=>
      exact zAd _ _ _ rfl g1 (o1+j*3) rfl _ (loadN8 W _ _ (X0.out W hW).1)
     try simp only[pU]
     refine zAa 5 (some 21) rfl rfl (by kernel_rfl) rfl (by rfl) (fun W hW=>by go_simp<;>with_reducible rfl) ?_
     try simp only[pU]
     refine zAa 6 (some 22) rfl rfl (by kernel_rfl) rfl (by rfl) (fun W hW=>by go_simp<;>with_reducible rfl) ?_
     try simp only[pU]
     refine zAa 7 (some 23) rfl rfl (by kernel_rfl) rfl (by rfl) (fun W hW=>by go_simp<;>with_reducible rfl) ?_
     try simp only[pU]
     refine zAa 8 (some 24) rfl rfl (by kernel_rfl) rfl (by rfl) (fun W hW=>by go_simp<;>with_reducible rfl) ?_
     try simp only[pU]
     refine zAa 9 (some 25) (v:=.int .i64 qo) rfl rfl (by kernel_rfl) rfl (by rfl) (fun W hW=>?yb9) ?_
     case yb9=>
      exact zAd _ _ _ rfl g2 (o2+j*3) rfl _ (loadN8 W _ _ (Y0.out W hW).1)
     try simp only[pU]
     refine zAa 10 (some 26) (v:=.bool true) rfl rfl (by kernel_rfl) rfl (by rfl) (fun W hW=>by go_simp<;>with_reducible rfl) ?_
     try simp only[pU]
     refine zAa 11 (some 27) (v:=.bool true) rfl rfl (by kernel_rfl) rfl (by rfl) (fun W hW=>by go_simp<;>with_reducible rfl) ?_
     try simp only[pU]
     refine zAb 12 (some 28) rfl rfl (by kernel_rfl) rfl (by rfl) ?_
     try simp only[pU]
     refine zAb 13 (some 29) rfl rfl (by kernel_rfl) rfl (by rfl) ?_
     try simp only[pU]
     refine zAb 14 (some 30) rfl rfl (by kernel_rfl) rfl (by rfl) ?_
     try simp only[pU]
     refine zAb 15 (some 31) rfl rfl (by kernel_rfl) rfl (by rfl) ?_
     try simp only[pU]
     refine zAb 16 (some 32) rfl rfl (by kernel_rfl) rfl (by rfl) ?_
     try simp only[pU]
     refine zAb 17 (some 33) rfl rfl (by kernel_rfl) rfl (by rfl) ?_
     try simp only[pU]
     refine zAb 18 (some 34) rfl rfl (by kernel_rfl) rfl (by rfl) ?_
     try simp only[pU]
     refine zAb 19 (some 35) rfl rfl (by kernel_rfl) rfl (by rfl) ?_
     try simp only[pU]
     refine zAb 20 (some 36) rfl rfl (by kernel_rfl) rfl (by rfl) ?_
     try simp only[pU]
     refine zAb 21 (some 37) rfl rfl (by kernel_rfl) rfl (by rfl) ?_
     try simp only[pU]
     refine zAb 22 (some 38) rfl rfl (by kernel_rfl) rfl (by rfl) ?_
     try simp only[pU]
     refine zAb 23 (some 39) rfl rfl (by kernel_rfl) rfl (by rfl) ?_
     try simp only[pU]
     refine zAb 24 (some 40) rfl rfl (by kernel_rfl) rfl (by rfl) ?_
     try simp only[pU]
     refine zAb 25 (some 41) rfl rfl (by kernel_rfl) rfl (by rfl) ?_
     try simp only[pU]
     refine zAa 26 (some 42) rfl rfl (by kernel_rfl) rfl (by rfl) (fun W hW=>by go_simp<;>with_reducible rfl) ?_
     try simp only[pU]
     refine zAi (by kernel_rfl) ?_ _
     have hbf:=HNo.out (by first | rfl | trivial)
     clear HYes HNo X0 Y0
     go_wp2
     go_ret
     exact⟨by rw[hbf.out];rfl,HBz.out⟩
 ·have z1:((n:Int)==(n':Int))=false:=beq_false_of_ne (by omega)
  have z2:((n:Int)!=(n':Int))=true:=by unfold bne;rw[z1];rfl
  obtain rfl:R=false:=by
   cases hRR:R with
   | false=>rfl
   | true=>exact absurd (by rw[<-hn,<-hn',hR.1 hRR]) hnn
  clear hH hr hH' hr' hn hn' hR hnn
  go_enter Tryz.func44,Tryz.ntmps44
  go_wp2
  go_ret
  exact⟨rfl,Below.refl _ _⟩
end Go.Proofs.YtcpjmgfloimfhaaGreat
