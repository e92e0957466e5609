/- What the statements of layer 13 look at. By an AI agent. -/
import Derived.Test.YtiobnllopliclaaGreatDoorZLead
import Derived.Test.YtiobnllopliclaaGreatDoorEY
import Derived.Test.YtiobnllopliclaaGreatDoorOpenEnts
set_option maxRecDepth 100000
set_option maxHeartbeats 64000000
namespace Go.Proofs.YtiobnllopliclaaGreatDoor
open Go.RowKit Go.Proofs.YtiobnllopliclaaGreatDoor.Opens
set_option linter.unusedVariables false
set_option linter.unusedSimpArgs false
def OkZ (e:EN):Prop:=normT e.1=(e.1,0)∧e.1≠[]
def FewZ (L:List EN) (s:List UInt8):Prop:=nW L≤3000∧s.length≤3000∧∀e∈L,OkZ e
theorem wee_z {L:List EN} (h:nW L≤3000):L.length≤3000∧∀e∈L,WeeZ e:=by
 have hs:=small_ofN h
 exact⟨hs.len,fun e he=>⟨by have:=hs.name e he;omega,by have:=hs.attrs e he;omega,fun a ha=>⟨by have:=(hs.each e he a ha).1;omega,fun u hu=>by have:=(hs.each e he a ha).2 u hu;omega⟩⟩⟩
theorem bulk_z {N:Nat} {L:List EN} (h:SmN N L) (hN:N≤1048576):∀e∈L,BulkN e:=fun e he=>by
 obtain⟨h1,h2⟩:=h.each e he
 exact⟨Nat.le_trans h1 hN,Nat.le_trans h2.len hN,fun a ha=>⟨Nat.le_trans (h2.each a ha).vals hN,fun u hu=>Nat.le_trans ((h2.each a ha).each u hu) hN⟩⟩
theorem fewZ_any (L:List EN) (s:List UInt8) (w:World) (A:Option Addr) (n c:Nat) (xs:List Value) (hA:Has w w.heap.size 2 A n xs) (hL:ENs w w.heap.size xs L) (hn:n≤1048576) (hb:∀e∈L,BulkN e) (hs:s.length≤1048576) (hT:TM w):
  Calls Tryz.prog 21 #[.slice A n c,.string (txt s)] w fun e w'=>e=.returned (.bool (Tr (FewZ L s)))∧Below w.heap.size w w':=by
 have hml:=hA.ens_n hL
 have hS:=rsmallE_all L w A n c xs hA hL hn hb
 have hsz:=txt_size s
 have HS:=hide hS
 by_cases h1:nW L≤3000
 ·rw [decide_eq_true h1] at HS
  by_cases h2:s.length≤3000
  ·have z:¬(3000:Int)<((txt s).size:Int):=by omega
   obtain⟨hlen,hwe⟩:=wee_z h1
   have hC:VZ w w A n xs L:=⟨Below.refl _ _,hT,hA,hL⟩
   have hN:∀e∈L,∀w,TM w→Calls Tryz.prog 27 #[.string (txt e.1)] w fun e2 w'=>e2=.returned (.tuple #[.string (txt (normT e.1).1),.int .i64 (normT e.1).2])∧Below w.heap.size w w':=fun e he w hT=>rnormal_text e.1 (hwe e he).1 w hT
   obtain⟨R,hR⟩:∃R,Tr (FewZ L s)=R:=⟨_,rfl⟩
   rw[hR]
   have hyes:(∀e∈L,OkZ e)→R=true:=fun h=>by rw[←hR];exact Tr_yes ⟨h1,h2,h⟩
   have hnot:∀e∈L,¬OkZ e→R=false:=fun e he h=>by rw[←hR];exact Tr_no fun q=>h (q.2.2 e he)
   have HC:=hide hC
   have HN:=hide hN
   have HY:=hide hyes
   have HX:=hide hnot
   have HM:=hide hml
   clear hS hC hN hyes hnot hml hA hL hb hs hT hwe hR h1 h2 hsz hlen
   generalize txt s=S at *
   go_enter Tryz.func21,Tryz.ntmps21
   go_wp2_with (go_at_call 30;fail)
   refine HS.out.mono ?_
   rintro e w2 ⟨rfl,hw2⟩
   obtain rfl:=hw2.symm
   clear hw2 HS
   go_wp2
   go_loopg [18] n (fun k s18 wx=>∃i:Nat,i+k=n∧s18=.int .i64 (i:Int)∧Hid (∀e∈L.take i,OkZ e)∧Hid (Below w.heap.size w wx))
   case atStart=>exact⟨0,by omega,rfl,hide (fun e he=>by simp at he),hide (Below.refl _ _)⟩
   case round=>
    obtain⟨i,hig,rfl,hpre,hbr⟩:=hrel
    cases gk with
    | zero=>
     obtain rfl:i=n:=by omega
     have hiz:¬((i:Int)<(i:Int)):=by omega
     have hp:=hpre.out
     rw[List.take_of_length_le (by rw[HM.out];exact Nat.le_refl _)] at hp
     have hR1:=hide (HY.out hp)
     clear hp hpre HC HN HY HX HM
     go_wp2
     go_ret
     exact⟨by rw[hR1.out];rfl,hbr.out⟩
    | succ k=>
     have hi:i<n:=by omega
     have hiz:(i:Int)<(n:Int):=by omega
     obtain⟨e,he⟩:∃e,L[i]?=some e:=⟨_,List.getElem?_eq_getElem (by rw[←HM.out];exact hi)⟩
     have hem:=List.mem_of_getElem? he
     obtain⟨g,o,hAe,hg,hat⟩:=HC.out.has.en HC.out.ents (fun h=>by rw[h] at he;simp at he)
     subst hAe
     obtain⟨U,cu,ys,hat⟩:=hat i e he
     have e0:=(hbr.out.cell (p:=⟨g,o+i*2,none⟩) hg).trans hat.e0
     have hcr:=hide (HC.out.grow hbr.out)
     have Hgr:Hid (g<wr.heap.size):=hide (Nat.lt_of_lt_of_le hg hbr.out.size)
     have Hcall:=hide (HN.out e hem wr hcr.out.tm)
     have Hno:=hide (HX.out e hem)
     have Hnx:Hid (OkZ e→∀x∈L.take (i+1),OkZ x):=hide (fun h=>by
      rw[List.take_add_one,he]
      intro x hx
      rcases List.mem_append.1 hx with hx | hx
      ·exact hpre.out x hx
      ·obtain rfl:x=e:=by simpa using hx
       exact h)
     obtain⟨y,hy⟩:∃y,(normT e.1).2=y:=⟨_,rfl⟩
     obtain⟨T,hTt⟩:∃T,(normT e.1).1=T:=⟨_,rfl⟩
     rw[hy,hTt] at Hcall
     have hok:OkZ e↔T=e.1∧y=0∧e.1≠[]:=by
      unfold OkZ
      rw[←hy,←hTt,Prod.ext_iff]
      exact⟨fun h=>⟨h.1.1,h.1.2,h.2⟩,fun h=>⟨⟨h.1,h.2.1⟩,h.2.2⟩⟩
     have Hok:=hide hok
     clear hat he hem hy hTt hpre hok hcr
     by_cases hy0:y=0
     ·by_cases ht:T=e.1
      ·by_cases hz:e.1=[]
       ·have hR1:=hide (Hno.out fun h=>(Hok.out.1 h).2.2 hz)
        have q1:((txt T).toList==(txt e.1).toList)=true:=by rw[ht];simp
        have q2:((txt T).toList !=(txt e.1).toList)=false:=by unfold bne;rw[q1];rfl
        have q3:((txt T).toList==[])=true:=by rw[toeq,ht,hz];rfl
        generalize txt T=TT1 at *
        generalize txt e.1=TE at *
        subst hy0
        clear Hno Hnx Hok ht hz HC HN HY HX HM
        go_wp2_with (go_at_call 27;fail)
        refine Hcall.out.mono ?_
        rintro e w3 ⟨rfl,hb3⟩
        have HE:=hide (hbr.out.trans (hb3.mono hbr.out.size))
        have f0:=(hb3.cell (p:=⟨g,o+i*2,none⟩) Hgr.out).trans e0
        clear hb3 hbr Hcall e0 Hgr
        go_wp2
        go_ret
        exact⟨by rw[hR1.out];rfl,HE.out⟩
       ·have hR1:=hide (Hnx.out (Hok.out.2 ⟨ht,hy0,hz⟩))
        have q1:((txt T).toList==(txt e.1).toList)=true:=by rw[ht];simp
        have q2:((txt T).toList !=(txt e.1).toList)=false:=by unfold bne;rw[q1];rfl
        have q3:((txt T).toList==[])=false:=by rw[toeq,ht];simpa using hz
        generalize txt T=TT1 at *
        generalize txt e.1=TE at *
        subst hy0
        clear Hno Hnx Hok ht hz
        go_wp2_with (go_at_call 27;fail)
        refine Hcall.out.mono ?_
        rintro e w3 ⟨rfl,hb3⟩
        have HE:=hide (hbr.out.trans (hb3.mono hbr.out.size))
        have f0:=(hb3.cell (p:=⟨g,o+i*2,none⟩) Hgr.out).trans e0
        clear hb3 hbr Hcall e0 Hgr
        go_wp2
        go_roundg k
        case measure=>omega
        case rel=>exact⟨i+1,by omega,by go_num,hR1,HE⟩
      ·have hR1:=hide (Hno.out fun h=>ht (Hok.out.1 h).1)
       have q1:((txt T).toList==(txt e.1).toList)=false:=str_ne ht
       have q2:((txt T).toList !=(txt e.1).toList)=true:=by unfold bne;rw[q1];rfl
       generalize txt T=TT1 at *
       generalize txt e.1=TE at *
       subst hy0
       clear Hno Hnx Hok ht HC HN HY HX HM
       go_wp2_with (go_at_call 27;fail)
       refine Hcall.out.mono ?_
       rintro e w3 ⟨rfl,hb3⟩
       have HE:=hide (hbr.out.trans (hb3.mono hbr.out.size))
       have f0:=(hb3.cell (p:=⟨g,o+i*2,none⟩) Hgr.out).trans e0
       clear hb3 hbr Hcall e0 Hgr
       go_wp2
       go_ret
       exact⟨by rw[hR1.out];rfl,HE.out⟩
     ·have hR1:=hide (Hno.out fun h=>hy0 (Hok.out.1 h).2.1)
      have zb:(y==0)=false:=beq_false_of_ne hy0
      have zn:(y !=0)=true:=by unfold bne;rw[zb];rfl
      generalize txt T=TT1 at *
      generalize txt e.1=TE at *
      clear Hno Hnx Hok HC HN HY HX HM
      go_wp2_with (go_at_call 27;fail)
      refine Hcall.out.mono ?_
      rintro e w3 ⟨rfl,hb3⟩
      have HE:=hide (hbr.out.trans (hb3.mono hbr.out.size))
      clear hb3 hbr Hcall e0 Hgr
      go_wp2
      go_ret
      exact⟨by rw[hR1.out];rfl,HE.out⟩
  ·rw [Tr_no (show ¬FewZ L s from fun h=>h2 h.2.1)]
   have z:(3000:Int)<((txt s).size:Int):=by omega
   clear hS hml hA hL hb hs hT h1 h2 hsz
   generalize txt s=S at *
   go_enter Tryz.func21,Tryz.ntmps21
   go_wp2_with (go_at_call 30;fail)
   refine HS.out.mono ?_
   rintro e w2 ⟨rfl,hw2⟩
   obtain rfl:=hw2.symm
   clear hw2 HS
   go_wp2
   go_ret
   exact⟨rfl,Below.refl _ _⟩
 ·rw [decide_eq_false h1] at HS
  rw[Tr_no (show ¬FewZ L s from fun h=>h1 h.1)]
  clear hS hml hA hL hb hs hT h1 hsz
  generalize txt s=S at *
  go_enter Tryz.func21,Tryz.ntmps21
  go_wp2_with (go_at_call 30;fail)
  refine HS.out.mono ?_
  rintro e w2 ⟨rfl,hw2⟩
  obtain rfl:=hw2.symm
  clear hw2 HS
  go_wp2
  go_ret
  exact⟨rfl,Below.refl _ _⟩
end Go.Proofs.YtiobnllopliclaaGreatDoor
