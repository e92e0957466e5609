/- One step of following a name, by the reference. By an AI agent. -/
import Derived.Test.YtiobnllopliclaaGreatDoorZStep
import Derived.BigQuiet
import Derived.OwnWalk
set_option maxRecDepth 100000
set_option maxHeartbeats 64000000
namespace Go.Proofs.YtiobnllopliclaaGreatDoor
open Go.RowKit
set_option linter.unusedVariables false
set_option linter.unusedSimpArgs false
theorem fold_drop {L:List EN} {i:Nat} {e:EN} (h:L[i]?=some e) (n:List UInt8) (r:Option (List UInt8 × List UInt8)):(L.drop i).foldl (nextR n) r=(L.drop (i+1)).foldl (nextR n) (nextR n r e):=by
 obtain⟨h1,h2⟩:=List.getElem?_eq_some_iff.1 h
 rw[List.drop_eq_getElem_cons h1,h2]
 rfl
theorem next_no {n:List UInt8} {r:Option (List UInt8 × List UInt8)} {e:EN} (h:(candB n e&&lessB r e)=false):nextR n r e=r:=by unfold nextR;rw[h,if_neg (by simp)]
theorem next_yes {n:List UInt8} {r:Option (List UInt8 × List UInt8)} {e:EN} (h:(candB n e&&lessB r e)=true):nextR n r e=some (e.1,(aliasE e.2).1):=by unfold nextR;rw[if_pos h]
theorem rlead_loop (L:List EN) (nm n:List UInt8) (hnm:nm.length≤1000000) (h:normT nm=(n,0)) (w:World) (A:Option Addr) (m c:Nat) (xs:List Value) (hA:Has w w.heap.size 2 A m xs) (hL:ENs w w.heap.size xs L) (hm:m≤1000000) (hwe:∀e∈L,WeeZ e) (hT:TM w)
  (S:ByteArray) (b:Bool) (y:Int) (hres:(leadR n L=none→S=txt n∧b=false∧y=0)∧(∀f t,leadR n L=some (f,t)→(moveV n f t).2=0→S=txt (moveV n f t).1∧b=true∧y=0)∧(∀f t,leadR n L=some (f,t)→¬(moveV n f t).2=0→S=⟨#[]⟩∧b=false∧y=33)):
  Calls Tryz.prog 23 #[.slice A m c,.string (txt nm)] w fun e w'=>e=.returned (.tuple #[.string S,.bool b,.int .i64 y])∧Below w.heap.size w w':=by
 have hml:=hA.ens_n hL
 have hC:VZ w w A m xs L:=⟨Below.refl _ _,hT,hA,hL⟩
 have hN:=rnormal_text nm hnm w hT
 rw[h] at hN
 have hnl:=norm_len1 (norm_self h)
 have hAl:∀e∈L,∀(w:World) (U:Option Addr) (cu:Nat) (ys:List Value),Has w w.heap.size 2 U e.2.length ys→EAs w w.heap.size ys e.2→TM w→
   Calls Tryz.prog 28 #[.agg #[.string (txt e.1),.slice U e.2.length cu]] w fun e2 w'=>e2=.returned (.tuple #[.string (txt (aliasE e.2).1),.bool (aliasE e.2).2])∧Below w.heap.size w w':=fun e he w U cu ys hA hL hT=>by
  obtain⟨h1,h2,h3⟩:=hwe e he
  exact ralias_any e.1 e.2 w U _ cu ys hA hL h2 h3 hT
 have hUn:∀e∈L,∀w,TM w→Calls Tryz.prog 53 #[.string (txt n),.string (txt e.1)] w fun e2 w'=>e2=.returned (.bool (underV n e.1))∧Below w.heap.size w w':=fun e he w hT=>runder_text n e.1 (by omega) (hwe e he).1 w hT
 have hDe:∀x:List UInt8,x.length≤1000000→∀w,TM w→Calls Tryz.prog 54 #[.string (txt x)] w fun e2 w'=>e2=.returned (.int .i64 (depthV x:Int))∧Below w.heap.size w w':=fun x hx w hT=>rdepth_any x hx w hT
 have hMv:∀f t,leadR n L=some (f,t)→∀w,TM w→Calls Tryz.prog 55 #[.string (txt n),.string (txt f),.string (txt t)] w fun e w'=>e=.returned (.tuple #[.string (txt (moveV n f t).1),.int .i64 (moveV n f t).2])∧Below w.heap.size w w':=fun f t hl w hT=>by
  obtain⟨h1,h2⟩:=lead_len hwe hl
  exact rmove_text n f t (by omega) h1 h2 w hT
 have hwl:∀e∈L,e.1.length≤1000000:=fun e he=>(hwe e he).1
 have hf0:(L.drop 0).foldl (nextR n) none=leadR n L:=by rw[List.drop_zero];rfl
 generalize leadR n L=R at *
 have HC:=hide hC
 have HN:=hide hN
 have Hml:=hide hml
 have HAl:=hide hAl
 have HUn:=hide hUn
 have HDe:=hide hDe
 have HMv:=hide hMv
 have HWl:=hide hwl
 have HRes:=hide hres
 have H0:=hide hf0
 clear hC hN hml hAl hUn hDe hMv hwl hres hf0 hA hL hT hwe h hnm
 generalize txt nm=SM at *
 obtain⟨SN,hSN⟩:∃SN,txt n=SN:=⟨_,rfl⟩
 rw[hSN] at HN HUn HMv HRes
 clear hSN
 go_enter Tryz.func23,Tryz.ntmps23
 go_wp2_with (go_at_call 27;fail)
 refine HN.out.mono ?_
 rintro e w2 ⟨rfl,hb2⟩
 have HC2:=hide (HC.out.grow hb2)
 clear hb2 HC HN
 go_wp2
 go_loopg [9,10,11,25] m (fun k s9 s10 s11 s25 wx=>∃(i:Nat) (r:Option (List UInt8 × List UInt8)),i+k=m∧s25=.int .i64 (i:Int)∧s9=.bool r.isSome∧s10=.string (txt (leadT r).2.1)∧s11=.string (txt (leadT r).1)∧Hid ((L.drop i).foldl (nextR n) r=R)∧Hid ((leadT r).1.length≤1000000)∧Hid (Below w2.heap.size w2 wx))
 case atStart=>exact⟨0,none,by omega,rfl,rfl,rfl,rfl,H0,hide (by simp[leadT]),hide (Below.refl _ _)⟩
 case round=>
  obtain⟨i,r,hig,rfl,rfl,rfl,rfl,hfo,hln,hbr⟩:=hrel
  clear H0
  cases gk with
  | zero=>
   obtain rfl:i=m:=by omega
   have hiz:¬((i:Int)<(i:Int)):=by omega
   have hf:=hfo.out
   rw[List.drop_eq_nil_of_le (by rw[Hml.out];exact Nat.le_refl _)] at hf
   have hrR:r=R:=hf
   have HE:=hide (HC2.out.grow hbr.out)
   clear hf hfo HAl HUn HDe HWl Hml HC2 hbr hln
   subst hrR
   cases r with
   | none=>
    obtain⟨h1,h2,h3⟩:=HRes.out.1 rfl
    have H1:=hide h1
    subst h2 h3
    clear h1 HRes HMv
    have q0:(Option.isSome (none:Option (List UInt8 × List UInt8)))=false:=rfl
    go_wp2
    go_ret3
    exact⟨by rw[H1.out];rfl,HE.out.base⟩
   | some p=>
    obtain⟨f,t⟩:=p
    have q0:(Option.isSome (some (f,t)))=true:=rfl
    have q1:(leadT (some (f,t))).1=f:=rfl
    have q2:(leadT (some (f,t))).2.1=t:=rfl
    rw[q0,q1,q2]
    have Hc:=hide (HMv.out f t rfl _ HE.out.tm)
    obtain⟨z,hz⟩:∃z,(moveV n f t).2=z:=⟨_,rfl⟩
    have HR2:=hide (HRes.out.2.1 f t rfl)
    have HR3:=hide (HRes.out.2.2 f t rfl)
    rw[hz] at Hc HR2 HR3
    by_cases hz0:z=0
    ·obtain ⟨h1,h2,h3⟩:=HR2.out hz0
     have H1:=hide h1
     subst h2 h3
     subst hz0
     generalize txt (moveV n f t).1=Y at *
     generalize txt f=F at *
     generalize txt t=T at *
     clear h1 HRes HMv HR2 HR3 hz q0 q1 q2
     go_wp2_with (go_at_call 55;fail)
     refine Hc.out.mono ?_
     rintro e w4 ⟨rfl,hb4⟩
     have HE4:=hide (HE.out.grow hb4).base
     clear hb4 HE Hc
     go_wp2
     go_ret3
     exact⟨by rw[H1.out];rfl,HE4.out⟩
    ·obtain ⟨h1,h2,h3⟩:=HR3.out hz0
     have H1:=hide h1
     subst h2 h3
     have zb:(z==0)=false:=beq_false_of_ne hz0
     have zn:(z !=0)=true:=by unfold bne;rw[zb];rfl
     generalize txt (moveV n f t).1=Y at *
     generalize txt f=F at *
     generalize txt t=T at *
     clear h1 HRes HMv HR2 HR3 hz q0 q1 q2
     go_wp2_with (go_at_call 55;fail)
     refine Hc.out.mono ?_
     rintro e w4 ⟨rfl,hb4⟩
     have HE4:=hide (HE.out.grow hb4).base
     clear hb4 HE Hc
     go_wp2
     go_ret3
     exact⟨by rw[H1.out];rfl,HE4.out⟩
  | succ k=>
   have hi:i<m:=by omega
   have hiz:(i:Int)<(m:Int):=by omega
   obtain⟨e,he⟩:∃e,L[i]?=some e:=⟨_,List.getElem?_eq_getElem (by rw[←Hml.out];exact hi)⟩
   have hem:=List.mem_of_getElem? he
   obtain⟨g,o,hAe,hg,hat⟩:=HC2.out.has.en HC2.out.ents (fun h=>by rw[h] at he;simp at he)
   subst hAe
   obtain⟨U,cu,ys,hat⟩:=hat i e he
   have hat:=hat.belowZ hg hbr.out
   have e0:=hat.e0
   have e1:=hat.e1
   have hC1:=HC2.out.grow hbr.out
   have HCr:=hide hC1
   have Hcall:=hide (HAl.out e hem wr U cu ys (hat.has.upto hbr.out.size) (hat.attrs.upto hbr.out.size) hC1.tm)
   have hu:=HUn.out e hem
   have hd1:=HDe.out e.1 (HWl.out e hem)
   have hd2:=HDe.out _ hln.out
   have hfd:=fold_drop he n r
   rw[hfo.out] at hfd
   have Hgr:Hid (g<wr.heap.size):=hide (Nat.lt_of_lt_of_le hg hbr.out.size)
   obtain⟨TE,hTE⟩:∃TE,txt e.1=TE:=⟨_,rfl⟩
   rw[hTE] at e0 Hcall hu hd1
   have HTE:=hide hTE
   obtain⟨al,hal⟩:∃al,aliasE e.2=al:=⟨_,rfl⟩
   obtain⟨t,b⟩:=al
   rw[hal] at Hcall
   have hcb:∀u,underV n e.1=u→candB n e=(b&&u):=fun u hu=>by unfold candB;rw[hal,hu]
   have hnt:(aliasE e.2).1=t:=by rw[hal]
   generalize e.2.length=ke at *
   have Hfd:=hide hfd
   have Hcb:=hide hcb
   have Hnt:=hide hnt
   have Hu:=hide hu
   have Hd1:=hide hd1
   have Hd2:=hide hd2
   have Hle:Hid (e.1.length≤1000000):=hide (HWl.out e hem)
   clear hfd hcb hnt hu hd1 hd2 hat hC1 hfo he hem hTE hal
   obtain⟨u,hua⟩:∃u,underV n e.1=u:=⟨_,rfl⟩
   obtain⟨d1,hda⟩:∃d,depthV e.1=d:=⟨_,rfl⟩
   obtain⟨d2,hdb⟩:∃d,depthV (leadT r).1=d:=⟨_,rfl⟩
   rw[hua] at Hu
   rw[hda] at Hd1
   rw[hdb] at Hd2
   have Hua:=hide hua
   have Hda:=hide hda
   have Hdb:=hide hdb
   clear hua hda hdb
   obtain⟨TR,hTR⟩:∃TR,txt (leadT r).1=TR:=⟨_,rfl⟩
   obtain⟨TG,hTG⟩:∃TG,txt (leadT r).2.1=TG:=⟨_,rfl⟩
   rw[hTR] at Hd2
   rw[hTR,hTG]
   have HTR:=hide hTR
   have HTG:=hide hTG
   clear hTR hTG
   obtain⟨TT1,hTT⟩:∃TT1,txt t=TT1:=⟨_,rfl⟩
   simp only[hTT] at Hcall
   have HTT:=hide hTT
   clear hTT
   have e0':=e0
   go_wp2_with (go_at_call 28;fail)
   refine Hcall.out.mono ?_
   rintro e5 w5 ⟨rfl,hb5⟩
   have HC5:=hide (HCr.out.grow hb5)
   have HB5:=hide (hbr.out.trans (hb5.mono hbr.out.size))
   have f0:=(hb5.cell (p:=⟨g,o+i*2,none⟩) Hgr.out).trans e0
   have Hg5:Hid (g<w5.heap.size):=hide (Nat.lt_of_lt_of_le Hgr.out hb5.size)
   clear hb5 Hcall e0 e0' e1 HCr hbr Hgr
   cases b with
   | false=>
    have hnx:nextR n r e=r:=next_no (by rw[Hcb.out u Hua.out];rfl)
    have Hf2:Hid ((L.drop (i+1)).foldl (nextR n) r=R):=hide (by have:=Hfd.out;rw[hnx] at this;exact this.symm)
    clear Hu Hd1 Hd2 Hfd Hcb hnx Hnt HC5 HTT
    go_wp2
    go_roundg k
    case measure=>omega
    case rel=>exact⟨i+1,r,by omega,by go_num,rfl,by rw[HTG.out],by rw[HTR.out],Hf2,hln,HB5⟩
   | true=>
    go_wp2_with (go_at_call 53;fail)
    refine (Hu.out _ HC5.out.tm).mono ?_
    rintro e6 w6 ⟨rfl,hb6⟩
    have HC6:=hide (HC5.out.grow hb6)
    have HB6:=hide (HB5.out.trans (hb6.mono HB5.out.size))
    have g0:=(hb6.cell (p:=⟨g,o+i*2,none⟩) Hg5.out).trans f0
    have Hg6:Hid (g<w6.heap.size):=hide (Nat.lt_of_lt_of_le Hg5.out hb6.size)
    clear hb6 HC5 HB5 f0 Hg5 Hu
    cases u with
    | false=>
     have hnx:nextR n r e=r:=next_no (by rw[Hcb.out false Hua.out];rfl)
     have Hf2:Hid ((L.drop (i+1)).foldl (nextR n) r=R):=hide (by have:=Hfd.out;rw[hnx] at this;exact this.symm)
     clear Hd1 Hd2 Hfd Hcb hnx Hnt HC6 HTT
     go_wp2
     go_roundg k
     case measure=>omega
     case rel=>exact⟨i+1,r,by omega,by go_num,rfl,by rw[HTG.out],by rw[HTR.out],Hf2,hln,HB6⟩
    | true=>
     cases r with
     | none=>
      have hnx:nextR n none e=some (e.1,t):=by rw[next_yes (by rw[Hcb.out true Hua.out];rfl),Hnt.out]
      have Hf2:Hid ((L.drop (i+1)).foldl (nextR n) (some (e.1,t))=R):=hide (by have:=Hfd.out;rw[hnx] at this;exact this.symm)
      have q0:(Option.isSome (none:Option (List UInt8 × List UInt8)))=false:=rfl
      rw[q0]
      clear Hd1 Hd2 Hfd Hcb hnx Hnt HC6 q0
      go_wp2_with fail
      go_quiet (fail)
      have HB7:=hide (Below.drewN HB6.out nq)
      generalize w6.drewN nq=w7 at *
      clear HB6 g0 Hg6
      go_wp2
      go_roundg k
      case measure=>omega
      case rel=>exact⟨i+1,some (e.1,t),by omega,by go_num,rfl,by rw[←HTT.out];rfl,by rw[←HTE.out];rfl,Hf2,Hle,HB7⟩
     | some p=>
      have q0:(Option.isSome (some p))=true:=rfl
      rw[q0]
      go_wp2_with (go_at_call 54;fail)
      refine (Hd1.out _ HC6.out.tm).mono ?_
      rintro e7 w7 ⟨rfl,hb7⟩
      have HC7:=hide (HC6.out.grow hb7)
      have HB7:=hide (HB6.out.trans (hb7.mono HB6.out.size))
      have g1:=(hb7.cell (p:=⟨g,o+i*2,none⟩) Hg6.out).trans g0
      have Hg7:Hid (g<w7.heap.size):=hide (Nat.lt_of_lt_of_le Hg6.out hb7.size)
      clear hb7 HC6 HB6 g0 Hg6 Hd1
      go_wp2_with (go_at_call 54;fail)
      refine (Hd2.out _ HC7.out.tm).mono ?_
      rintro e8 w8 ⟨rfl,hb8⟩
      have HB8:=hide (HB7.out.trans (hb8.mono HB7.out.size))
      have g2:=(hb8.cell (p:=⟨g,o+i*2,none⟩) Hg7.out).trans g1
      clear hb8 HC7 HB7 g1 Hg7 Hd2
      have hlb:lessB (some p) e=decide (d1<d2):=by
       show decide (depthV e.1<depthV p.1)=_
       rw[Hda.out,show depthV p.1=d2 from Hdb.out]
      by_cases hlt:d1<d2
      ·have hz:(d1:Int)<(d2:Int):=by omega
       have hnx:nextR n (some p) e=some (e.1,t):=by rw[next_yes (by rw[Hcb.out true Hua.out,hlb,decide_eq_true hlt];rfl),Hnt.out]
       have Hf2:Hid ((L.drop (i+1)).foldl (nextR n) (some (e.1,t))=R):=hide (by have:=Hfd.out;rw[hnx] at this;exact this.symm)
       clear Hfd Hcb hnx Hnt hlb q0
       go_wp2_with fail
       go_quiet (fail)
       have HB9:=hide (Below.drewN HB8.out nq)
       generalize w8.drewN nq=w9 at *
       clear HB8 g2
       go_wp2
       go_roundg k
       case measure=>omega
       case rel=>exact⟨i+1,some (e.1,t),by omega,by go_num,rfl,by rw[←HTT.out];rfl,by rw[←HTE.out];rfl,Hf2,Hle,HB9⟩
      ·have hz:¬(d1:Int)<(d2:Int):=by omega
       have hnx:nextR n (some p) e=some p:=next_no (by rw[Hcb.out true Hua.out,hlb,decide_eq_false hlt];rfl)
       have Hf2:Hid ((L.drop (i+1)).foldl (nextR n) (some p)=R):=hide (by have:=Hfd.out;rw[hnx] at this;exact this.symm)
       clear Hfd Hcb hnx Hnt hlb g2 HTT
       go_wp2
       go_roundg k
       case measure=>omega
       case rel=>exact⟨i+1,some p,by omega,by go_num,rfl,by rw[HTG.out],by rw[HTR.out],Hf2,hln,HB8⟩
theorem rstep_any (L:List EN) (nm:List UInt8) (w:World) (A:Option Addr) (m c:Nat) (xs:List Value) (hA:Has w w.heap.size 2 A m xs) (hL:ENs w w.heap.size xs L) (hm:m≤1000000) (hwe:∀e∈L,WeeZ e) (hnm:nm.length≤1000000) (hT:TM w):
  Calls Tryz.prog 23 #[.slice A m c,.string (txt nm)] w fun e w'=>e=.returned (.tuple #[.string (txt (stepV L nm).1),.bool (stepV L nm).2.1,.int .i64 (stepV L nm).2.2])∧Below w.heap.size w w':=by
 by_cases h0:(normT nm).2=0
 ·have h:normT nm=((normT nm).1,0):=Prod.ext rfl h0
  refine rlead_loop L nm _ hnm h w A m c xs hA hL hm hwe hT _ _ _ ⟨fun hl=>?_,fun f t hl hmv=>?_,fun f t hl hmv=>?_⟩
  ·rw [step_none h hl];exact⟨rfl,rfl,rfl⟩
  ·rw [step_move h hl (Prod.ext rfl hmv)];exact⟨rfl,rfl,rfl⟩
  ·rw [step_err h hl hmv];exact⟨rfl,rfl,rfl⟩
 ·rw [step_bad h0]
  exact rstep_bad L nm w A m c hnm h0 hT
where
 rstep_bad (L:List EN) (nm:List UInt8) (w:World) (A:Option Addr) (m c:Nat) (hnm:nm.length≤1000000) (h0:¬(normT nm).2=0) (hT:TM w):
   Calls Tryz.prog 23 #[.slice A m c,.string (txt nm)] w fun e w'=>e=.returned (.tuple #[.string ⟨#[]⟩,.bool false,.int .i64 34])∧Below w.heap.size w w':=by
  have hN:=rnormal_text nm hnm w hT
  have h:=beq_false_of_ne h0
  obtain⟨y,hy⟩:∃y,(normT nm).2=y:=⟨_,rfl⟩
  rw[hy] at h hN
  have h2:(y !=0)=true:=by unfold bne;rw[h];rfl
  have HN:=hide hN
  generalize txt nm=S at *
  generalize txt (normT nm).1=X at *
  clear hN hy hT h0 hnm
  go_enter Tryz.func23,Tryz.ntmps23
  go_wp2_with (go_at_call 27;fail)
  refine HN.out.mono ?_
  rintro e w2 ⟨rfl,hb2⟩
  have HE:=hide hb2
  clear hb2 HN
  go_wp2
  go_ret3
  exact⟨rfl,HE.out⟩
end Go.Proofs.YtiobnllopliclaaGreatDoor
