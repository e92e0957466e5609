/- One step of following a name, by the program. By an AI agent. -/
import Derived.Test.YtiobnllopliclaaGreatDoorZLead
import Derived.OwnWalk
set_option maxRecDepth 100000
set_option maxHeartbeats 64000000
namespace Go.Proofs.YtiobnllopliclaaGreatDoor
open Go.RowKit
set_option linter.unusedVariables false
set_option linter.unusedSimpArgs false
theorem step_bad {L:List EN} {nm:List UInt8} (h:¬(normT nm).2=0):stepV L nm=([],false,34):=by unfold stepV;rw[if_neg h]
theorem step_none {L:List EN} {nm n:List UInt8} (h:normT nm=(n,0)) (hl:leadR n L=none):stepV L nm=(n,false,0):=by unfold stepV;rw[h,if_pos rfl];simp only;rw[hl]
theorem step_move {L:List EN} {nm n f t x:List UInt8} (h:normT nm=(n,0)) (hl:leadR n L=some (f,t)) (hm:moveV n f t=(x,0)):stepV L nm=(x,true,0):=by unfold stepV;rw[h,if_pos rfl];simp only;rw[hl];simp only;rw[hm,if_pos rfl]
theorem step_err {L:List EN} {nm n f t:List UInt8} (h:normT nm=(n,0)) (hl:leadR n L=some (f,t)) (hm:¬(moveV n f t).2=0):stepV L nm=([],false,33):=by unfold stepV;rw[h,if_pos rfl];simp only;rw[hl];simp only;rw[if_neg hm]
theorem lead_len {L:List EN} {n f t:List UInt8} (hwe:∀e∈L,WeeZ e) (h:leadR n L=some (f,t)):f.length≤1000000∧t.length≤1000000:=by
 have hb:=leadR_best n L
 rw[h] at hb
 obtain⟨i,hb⟩:=hb
 obtain⟨e,h1,_,h3,h4⟩:=hb.ex
 have k1:=(hwe e (List.mem_of_getElem? h1)).1
 have k2:=alias_len e.2
 rw[h3] at k1
 rw[h4] at k2
 exact⟨k1,by simp only at k2;omega⟩
inductive StepWay (L:List EN) (nm:List UInt8):Prop where
 | bad (h:((normT nm).2==0)=false) (e:stepV L nm=([],false,34))
 | none (n:List UInt8) (h:normT nm=(n,0)) (hl:leadR n L=none) (e:stepV L nm=(n,false,0))
 | move (n f t x:List UInt8) (h:normT nm=(n,0)) (hl:leadR n L=some (f,t)) (hm:moveV n f t=(x,0)) (e:stepV L nm=(x,true,0))
 | err (n f t:List UInt8) (h:normT nm=(n,0)) (hl:leadR n L=some (f,t)) (hm:((moveV n f t).2==0)=false) (e:stepV L nm=([],false,33))
theorem stepWay (L:List EN) (nm:List UInt8):StepWay L nm:=by
 by_cases h0:(normT nm).2=0
 ·have h:normT nm=((normT nm).1,0):=Prod.ext rfl h0
  cases hl:leadR (normT nm).1 L with
  | none=>exact .none _ h hl (step_none h hl)
  | some p=>
   obtain⟨f,t⟩:=p
   by_cases hm:(moveV (normT nm).1 f t).2=0
   ·have h2:moveV (normT nm).1 f t=((moveV (normT nm).1 f t).1,0):=Prod.ext rfl hm
    exact .move _ f t _ h hl h2 (step_move h hl h2)
   ·exact .err _ f t h hl (beq_false_of_ne hm) (step_err h hl hm)
 ·exact .bad (beq_false_of_ne h0) (step_bad h0)
theorem pstep_any (L:List EN) (nm:List UInt8) (w:World) (A:Option Addr) (m c:Nat) (xs:List Value) (hA:Has w w.heap.size 2 A m xs) (hL:ENs w w.heap.size xs L) (hm:m≤1000000) (hwe:∀e∈L,WeeZ e) (hno:∀e∈L,normT e.1=(e.1,0)) (hnm:nm.length≤1000000) (hT:TM w):
  Calls Tryz.prog 22 #[.slice A m c,.string (txt nm)] w fun e w'=>e=.returned (.tuple #[.string (txt (stepV L nm).1),.bool (stepV L nm).2.1,.int .i64 (stepV L nm).2.2])∧Below w.heap.size w w':=by
 have hC:VZ w w A m xs L:=⟨Below.refl _ _,hT,hA,hL⟩
 have hN:=pnormal_text nm hnm w hT
 have HC:=hide hC
 cases stepWay L nm with
 | bad h e=>
  rw[e]
  obtain⟨y,hy⟩:∃y,(normT nm).2=y:=⟨_,rfl⟩
  rw[hy] at h hN
  have h2:(y !=0)=true:=by unfold bne;rw[h];rfl
  have HN:=hide hN
  generalize txt nm=S at *
  generalize txt (normT nm).1=X at *
  clear hC hN hy hA hL hT hwe hno e
  go_enter Tryz.func22,Tryz.ntmps22
  go_wp2_with (go_at_call 50;fail)
  refine HN.out.mono ?_
  rintro e w2 ⟨rfl,hb2⟩
  have HE:=hide (HC.out.grow hb2).base
  clear hb2 HC HN
  go_wp2
  go_ret3
  exact⟨rfl,HE.out⟩
 | none n h hl e=>
  rw[e]
  rw[h] at hN
  have hnn:=norm_self h
  have hLd:=fun w hA hL hT=>plead_any L n hnn w A m c xs hA hL hm hwe hT
  rw[lead_eq hnn hno,hl] at hLd
  have HN:=hide hN
  have HLd:=hide hLd
  have ht:txt (leadT none).1=(⟨#[]⟩:ByteArray):=rfl
  generalize txt nm=S at *
  generalize txt n=X at *
  clear hC hN hA hL hT hwe hno e h hl hnn hLd ht
  go_enter Tryz.func22,Tryz.ntmps22
  go_wp2_with (go_at_call 50;fail)
  refine HN.out.mono ?_
  rintro e w2 ⟨rfl,hb2⟩
  have HC2:=hide (HC.out.grow hb2)
  clear hb2 HC HN
  go_wp2_with (go_at_call 51;fail)
  refine (HLd.out _ HC2.out.has HC2.out.ents HC2.out.tm).mono ?_
  rintro e w3 ⟨rfl,hb3⟩
  have HE:=hide (HC2.out.grow hb3).base
  clear hb3 HC2 HLd
  have q0:(leadT none).2.2=false:=rfl
  go_wp2
  go_ret3
  exact⟨rfl,HE.out⟩
 | move n f t x h hl hmv e=>
  rw[e]
  rw[h] at hN
  have hnn:=norm_self h
  obtain⟨hf,ht⟩:=lead_len hwe hl
  have hLd:=fun w hA hL hT=>plead_any L n hnn w A m c xs hA hL hm hwe hT
  rw[lead_eq hnn hno,hl] at hLd
  have hLd2:∀w,Has w w.heap.size 2 A m xs→ENs w w.heap.size xs L→TM w→Calls Tryz.prog 51 #[.slice A m c,.string (txt n)] w fun e w'=>e=.returned (.tuple #[.string (txt f),.string (txt t),.bool true])∧Below w.heap.size w w':=hLd
  have hMv:=fun w hT=>pmove_text n f t (by have:=norm_len1 hnn;omega) hf ht w hT
  rw[hmv] at hMv
  have HN:=hide hN
  have HLd:=hide hLd2
  have HMv:=hide hMv
  generalize txt nm=S at *
  generalize txt n=X at *
  generalize txt f=F at *
  generalize txt t=T at *
  generalize txt x=Y at *
  clear hC hN hA hL hT hwe hno e h hl hnn hLd hLd2 hMv hmv hf ht
  go_enter Tryz.func22,Tryz.ntmps22
  go_wp2_with (go_at_call 50;fail)
  refine HN.out.mono ?_
  rintro e w2 ⟨rfl,hb2⟩
  have HC2:=hide (HC.out.grow hb2)
  clear hb2 HC HN
  go_wp2_with (go_at_call 51;fail)
  refine (HLd.out _ HC2.out.has HC2.out.ents HC2.out.tm).mono ?_
  rintro e w3 ⟨rfl,hb3⟩
  have HC3:=hide (HC2.out.grow hb3)
  clear hb3 HC2 HLd
  go_wp2_with (go_at_call 52;fail)
  refine (HMv.out _ HC3.out.tm).mono ?_
  rintro e w4 ⟨rfl,hb4⟩
  have HE:=hide (HC3.out.grow hb4).base
  clear hb4 HC3 HMv
  go_wp2
  go_ret3
  exact⟨rfl,HE.out⟩
 | err n f t h hl hmv e=>
  rw[e]
  rw[h] at hN
  have hnn:=norm_self h
  obtain⟨hf,ht⟩:=lead_len hwe hl
  have hLd:=fun w hA hL hT=>plead_any L n hnn w A m c xs hA hL hm hwe hT
  rw[lead_eq hnn hno,hl] at hLd
  have hLd2:∀w,Has w w.heap.size 2 A m xs→ENs w w.heap.size xs L→TM w→Calls Tryz.prog 51 #[.slice A m c,.string (txt n)] w fun e w'=>e=.returned (.tuple #[.string (txt f),.string (txt t),.bool true])∧Below w.heap.size w w':=hLd
  have hMv:=fun w hT=>pmove_text n f t (by have:=norm_len1 hnn;omega) hf ht w hT
  obtain⟨y,hy⟩:∃y,(moveV n f t).2=y:=⟨_,rfl⟩
  rw[hy] at hmv hMv
  have h2:(y !=0)=true:=by unfold bne;rw[hmv];rfl
  have HN:=hide hN
  have HLd:=hide hLd2
  have HMv:=hide hMv
  generalize txt (moveV n f t).1=Y at *
  generalize txt nm=S at *
  generalize txt n=X at *
  generalize txt f=F at *
  generalize txt t=T at *
  clear hC hN hA hL hT hwe hno e h hl hnn hLd hLd2 hMv hy hf ht
  go_enter Tryz.func22,Tryz.ntmps22
  go_wp2_with (go_at_call 50;fail)
  refine HN.out.mono ?_
  rintro e w2 ⟨rfl,hb2⟩
  have HC2:=hide (HC.out.grow hb2)
  clear hb2 HC HN
  go_wp2_with (go_at_call 51;fail)
  refine (HLd.out _ HC2.out.has HC2.out.ents HC2.out.tm).mono ?_
  rintro e w3 ⟨rfl,hb3⟩
  have HC3:=hide (HC2.out.grow hb3)
  clear hb3 HC2 HLd
  go_wp2_with (go_at_call 52;fail)
  refine (HMv.out _ HC3.out.tm).mono ?_
  rintro e w4 ⟨rfl,hb4⟩
  have HE:=hide (HC3.out.grow hb4).base
  clear hb4 HC3 HMv
  go_wp2
  go_ret3
  exact⟨rfl,HE.out⟩
end Go.Proofs.YtiobnllopliclaaGreatDoor
