/- The alias by which a name is followed, by the program. By an AI agent. -/
import Derived.Test.YtiobnllopliclaaGreatDoorZAlias
import Derived.Test.YtiobnllopliclaaGreatDoorZDown
import Derived.OwnWalk
set_option maxRecDepth 100000
set_option maxHeartbeats 64000000
namespace Go.Proofs.YtiobnllopliclaaGreatDoor
open Go.RowKit
set_option linter.unusedVariables false
set_option linter.unusedSimpArgs false
def WeeZ (e:EN):Prop:=e.1.length≤1000000∧e.2.length≤1000000∧∀a∈e.2,a.2.length≤1000000∧∀u∈a.2,u.length≤1000000
structure VZ (w0 w:World) (A:Option Addr) (n:Nat) (xs:List Value) (L:List EN):Prop where
 base:Below w0.heap.size w0 w
 tm:TM w
 has:Has w w.heap.size 2 A n xs
 ents:ENs w w.heap.size xs L
theorem VZ.grow {w0 w w':World} {A:Option Addr} {n:Nat} {xs:List Value} {L:List EN} (h:VZ w0 w A n xs L) (hb:Below w.heap.size w w'):VZ w0 w' A n xs L:=
 ⟨h.base.trans (hb.mono h.base.size),h.tm.below hb,(h.has.below hb).upto hb.size,h.ents.grow hb⟩
theorem EnAt.belowZ {w w':World} {B g o:Nat} {e:EN} {V:Option Addr} {c:Nat} {ys:List Value} (h:EnAt w B g o e V c ys) (hg:g<B) (hb:Below B w w'):EnAt w' B g o e V c ys:=
 ⟨(hb.cell (p:=⟨g,o,none⟩) hg).trans h.e0,(hb.cell (p:=⟨g,o+1,none⟩) hg).trans h.e1,h.cap,h.most,h.has.below hb,h.attrs.below hb⟩
def leadT (r:Option (List UInt8 × List UInt8)):List UInt8 × List UInt8 × Bool:=match r with
 | some p=>(p.1,p.2,true)
 | none=>([],[],false)
theorem hit_drop {L:List EN} {i:Nat} {e:EN} (h:L[i]?=some e) (a:List UInt8):hitV (L.drop i) a=if e.1=a∧(aliasE e.2).2=true then some (aliasE e.2).1 else hitV (L.drop (i+1)) a:=by
 obtain⟨h1,h2⟩:=List.getElem?_eq_some_iff.1 h
 rw[List.drop_eq_getElem_cons h1,h2]
 rfl
def hitOr (H:Option (List UInt8)) (a:List UInt8) (rest:Option (List UInt8 × List UInt8)):Option (List UInt8 × List UInt8):=match H with
 | some t=>some (a,t)
 | none=>rest
theorem lead_drop {L:List EN} {D:List (List UInt8)} {j:Nat} {a:List UInt8} (h:D[j]?=some a):leadP L (D.drop j)=hitOr (hitV L a) a (leadP L (D.drop (j+1))):=by
 obtain⟨h1,h2⟩:=List.getElem?_eq_some_iff.1 h
 rw[List.drop_eq_getElem_cons h1,h2]
 rfl
theorem plead_any (L:List EN) (n:List UInt8) (hn:normT n=(n,0)) (w:World) (A:Option Addr) (m c:Nat) (xs:List Value) (hA:Has w w.heap.size 2 A m xs) (hL:ENs w w.heap.size xs L) (hm:m≤1000000) (hwe:∀e∈L,WeeZ e) (hT:TM w):
  Calls Tryz.prog 51 #[.slice A m c,.string (txt n)] w fun e w'=>e=.returned (.tuple #[.string (txt (leadT (leadP L (downV n))).1),.string (txt (leadT (leadP L (downV n))).2.1),.bool (leadT (leadP L (downV n))).2.2])∧Below w.heap.size w w':=by
 have hml:=hA.ens_n hL
 have hC:VZ w w A m xs L:=⟨Below.refl _ _,hT,hA,hL⟩
 have hD:=pdown_any n hn w hT
 have hdl:=(down_len hn).1
 have hAl:∀e∈L,∀(w:World) (U:Option Addr) (cu:Nat) (ys:List Value),Has w w.heap.size 2 U e.2.length ys→EAs w w.heap.size ys e.2→TM w→
   Calls Tryz.prog 88 #[.agg #[.string (txt e.1),.slice U e.2.length cu]] w fun e2 w'=>e2=.returned (.tuple #[.string (txt (aliasE e.2).1),.bool (aliasE e.2).2])∧Below w.heap.size w w':=fun e he w U cu ys hA hL hT=>by
  obtain⟨h1,h2,h3⟩:=hwe e he
  exact palias_any e.1 e.2 w U _ cu ys hA hL h2 h3 hT
 obtain⟨R,hR⟩:∃R,leadP L (downV n)=R:=⟨_,rfl⟩
 rw[hR]
 generalize downV n=D at *
 have HC:=hide hC
 have HD:=hide hD
 have HAl:=hide hAl
 have HN:=hide hml
 have HR:=hide hR
 obtain⟨q,hq⟩:∃q,D.length=q:=⟨_,rfl⟩
 rw[hq] at hdl
 have Hq:=hide hq
 clear hC hD hAl hml hR hA hL hwe hT hq hn
 generalize txt n=SN at *
 go_enter Tryz.func51,Tryz.ntmps51
 go_wp2_with (go_at_call 87;fail)
 refine HD.out.mono ?_
 rintro e w2 hpost
 obtain⟨AD,cD,rfl,hHD,_,_,hb2⟩:=hpost.out
 rw[Hq.out] at hHD ⊢
 have HC2:=hide (HC.out.grow hb2)
 have HD2:=hide hHD
 clear hpost hHD hb2 HC HD
 go_wp2
 go_loopg [16] q (fun k s16 wx=>∃j:Nat,j+k=q∧s16=.int .i64 (j:Int)∧Hid (leadP L (D.drop j)=R)∧Hid (Below w2.heap.size w2 wx))
 case atStart=>exact⟨0,by omega,rfl,hide (by rw[List.drop_zero];exact HR.out),hide (Below.refl _ _)⟩
 case round=>
  obtain⟨j,hjg,rfl,hpre,hbr⟩:=hrel
  cases gk with
  | zero=>
   obtain rfl:j=q:=by omega
   have hjz:¬((j:Int)<(j:Int)):=by omega
   have hp:=hpre.out
   rw[List.drop_eq_nil_of_le (by rw[Hq.out];exact Nat.le_refl _)] at hp
   have hR1:Hid (R=none):=hide hp.symm
   have HE:=hide (HC2.out.grow hbr.out).base
   clear hp hpre HC2 HD2 HN HR HAl hbr Hq
   go_wp2
   go_ret3
   exact⟨by rw[hR1.out];rfl,HE.out⟩
  | succ k=>
   have hj:j<q:=by omega
   have hjz:(j:Int)<(q:Int):=by omega
   obtain⟨a,ha⟩:∃a,D[j]?=some a:=⟨_,List.getElem?_eq_getElem (by rw[Hq.out];exact hj)⟩
   obtain⟨gd,od,hAD,hgd,hatd⟩:=HD2.out.texts (fun h=>by rw[h] at ha;simp at ha)
   subst hAD
   have d0:=(hbr.out.cell (p:=⟨gd,od+j,none⟩) hgd).trans (hatd j a ha)
   obtain⟨H,hH⟩:∃H,hitV L a=H:=⟨_,rfl⟩
   have hnx:=lead_drop (L:=L) ha
   rw[hpre.out,hH] at hnx
   have Hnx:=hide hnx
   have HH:=hide hH
   obtain⟨TA,hTA⟩:∃TA,txt a=TA:=⟨_,rfl⟩
   rw[hTA] at d0
   have HTA:=hide hTA
   clear ha hnx hH hTA hpre hatd HR
   go_wp2
   go_loopg [22] m (fun k2 s22 wx=>∃i:Nat,i+k2=m∧s22=.int .i64 (i:Int)∧Hid (hitV (L.drop i) a=H)∧Hid (Below w2.heap.size w2 wx))
   case atStart=>exact⟨0,by omega,rfl,hide (by rw[List.drop_zero];exact HH.out),hbr⟩
   case round=>
    obtain⟨i,hig,rfl,hpre,hbr2⟩:=hrel
    clear d0 hbr
    cases gk with
    | zero=>
     obtain rfl:i=m:=by omega
     have hiz:¬((i:Int)<(i:Int)):=by omega
     have hp:=hpre.out
     rw[List.drop_eq_nil_of_le (by rw[HN.out];exact Nat.le_refl _)] at hp
     have hRn:Hid (leadP L (D.drop (j+1))=R):=hide (by
      have:=Hnx.out
      rw[←hp] at this
      exact this.symm)
     clear hp hpre Hnx HH
     go_wp2
     go_roundg k
     case measure=>omega
     case rel=>exact⟨j+1,by omega,by go_num,hRn,hbr2⟩
    | succ k2=>
     have hi:i<m:=by omega
     have hiz:(i:Int)<(m:Int):=by omega
     obtain⟨e,he⟩:∃e,L[i]?=some e:=⟨_,List.getElem?_eq_getElem (by rw[←HN.out];exact hi)⟩
     have hem:=List.mem_of_getElem? he
     obtain⟨g,o,hAe,hg,hat⟩:=HC2.out.has.en HC2.out.ents (fun h=>by rw[h] at he;simp at he)
     subst hAe
     obtain⟨U,cu,ys,hat⟩:=hat i e he
     have hat:=hat.belowZ hg hbr2.out
     have e0:=hat.e0
     have e1:=hat.e1
     have hba:=below1 wr (.cells #[.string (txt e.1),.slice U e.2.length cu] 26)
     have hXa:=BoxE.new wr (txt e.1) U e.2.length cu 26
     have z0:=hXa.c0
     have z1:=hXa.c1
     have hC1:=(HC2.out.grow hbr2.out).grow hba
     have Hcall:=hide (HAl.out e hem _ U cu ys (((hat.has.upto hbr2.out.size).below hba).upto hba.size) ((hat.attrs.upto hbr2.out.size).grow hba) hC1.tm)
     have Hb1:=hide (hbr2.out.trans (hba.mono hbr2.out.size))
     have hpd:=hit_drop he a
     rw[hpre.out] at hpd
     generalize e.2.length=ke at *
     by_cases hea:e.1=a
     ·have q1:((txt e.1).toList==TA.toList)=true:=by rw[hea,HTA.out];simp
      have q2:((txt e.1).toList !=TA.toList)=false:=by unfold bne;rw[q1];rfl
      obtain⟨y,hy⟩:∃y,aliasE e.2=y:=⟨_,rfl⟩
      rw[hy] at Hcall hpd
      obtain⟨t,b⟩:=y
      simp only at Hcall hpd
      cases b with
      | true=>
       rw[if_pos ⟨hea,rfl⟩] at hpd
       have hRs:Hid (R=some (a,t)):=hide (by
        have:=Hnx.out
        rw[hpd] at this
        exact this)
       generalize txt e.1=TE at *
       obtain⟨TT1,hTT⟩:∃TT1,txt t=TT1:=⟨_,rfl⟩
       rw[hTT] at Hcall
       have HTT:=hide hTT
       have HCz:=hide HC2.out.base
       clear hpd hpre hea hat he hem hba hXa hC1 hy hTT Hnx HH HC2 HD2 HN HAl Hq
       go_wp2_with (go_at_call 88;fail)
       refine Hcall.out.mono ?_
       rintro e5 w5 ⟨rfl,hb5⟩
       have hE:=Hb1.out.trans (hb5.mono Hb1.out.size)
       have HE:=hide (HCz.out.trans (hE.mono HCz.out.size))
       clear hb5 hE Hcall Hb1 z0 z1 e0 e1 hbr2
       go_wp2
       go_ret3
       exact⟨by rw[hRs.out,←HTA.out,←HTT.out];rfl,HE.out⟩
      | false=>
       rw[if_neg (by simp)] at hpd
       have Hpd:=hide hpd.symm
       generalize txt e.1=TE at *
       generalize txt t=TT1 at *
       clear hpd hpre hea hat he hem hba hXa hC1 hy
       go_wp2_with (go_at_call 88;fail)
       refine Hcall.out.mono ?_
       rintro e5 w5 ⟨rfl,hb5⟩
       have HE:=hide (Hb1.out.trans (hb5.mono Hb1.out.size))
       clear hb5 Hcall Hb1 z0 z1 e0 e1 hbr2
       go_wp2
       go_roundg k2
       case measure=>omega
       case rel=>exact⟨i+1,by omega,by go_num,Hpd,HE⟩
     ·have q1:((txt e.1).toList==TA.toList)=false:=by rw[←HTA.out];exact str_ne hea
      have q2:((txt e.1).toList !=TA.toList)=true:=by unfold bne;rw[q1];rfl
      rw[if_neg (fun h=>hea h.1)] at hpd
      have Hpd:=hide hpd.symm
      generalize txt e.1=TE at *
      clear hpd hpre hea hat he hem hba hXa hC1 Hcall
      go_wp2
      go_roundg k2
      case measure=>omega
      case rel=>exact⟨i+1,by omega,by go_num,Hpd,Hb1⟩
end Go.Proofs.YtiobnllopliclaaGreatDoor
