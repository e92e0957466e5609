/- The reference's paired: is a value alike a pair's of that type? By an AI agent. -/
import Derived.Test.YtnccdnfkhohobaaGreatDoorEX
set_option linter.unusedSimpArgs false
set_option linter.unusedVariables false
set_option maxRecDepth 100000
set_option maxHeartbeats 32000000
namespace Go.Proofs.YtnccdnfkhohobaaGreatDoor
open Go Go.RowKit
theorem zLv (P:List P2) (t v:List UInt8) (w:World) (A:Option Addr) (n c:Nat) (hA:Has w w.heap.size 2 A n (prs P)) (hn:n<=1000000) (ht:t.length<=1000000) (hv:v.length<=1000000) (hP:∀x∈P,x.2.length<=1000000) (hT:TM w):
  Calls Tryz.prog 23 #[.slice A n c,.string (txt t),.string (txt v)] w fun e w'=>e=.returned (.bool (Tr (∃x∈P,x.1=t/\WithinV t [x.2] v)))/\Below w.heap.size w w':=by
 have hnl:=hA.pairs_n;obtain⟨R,hR⟩:∃R,Tr (∃x∈P,x.1=t/\WithinV t [x.2] v)=R:=⟨_,rfl⟩;rw[hR];have HR:=hide hR;have HA:=hide hA;have Hn:=hide hnl;have HT:=hide hT;have HW:=hide (fun (x:P2) (hx:x∈P) (w:World) (B:Option Addr) (cB:Nat) (hB:Has w w.heap.size 1 B 1 (strs [x.2])) (hT:TM w)=>zCi t v [x.2] w B 1 cB hB (by omega) ht hv (fun u hu=>by obtain rfl:=List.mem_singleton.1 hu;exact hP x hx) hT);have Heq:=hide (fun (x:List UInt8)=>toeq x t);obtain⟨TT1,hTT⟩:∃x,txt t=x:=⟨_,rfl⟩;have HTT:=hide hTT;rw[hTT] at HW;rw[hTT];clear hA hnl hT hR hTT hP;generalize txt v=TV at *;go_enter Tryz.func23,Tryz.ntmps23;go_wp2
 go_loopg [10] n (fun r s10 wx=>∃i:Nat,i+r=n/\s10=.int .i64 (i:Int)/\Hid (¬∃x∈P.take i,x.1=t/\WithinV t [x.2] v)/\Hid (Below w.heap.size w wx))
 case atStart=>exact⟨0,by omega,rfl,hide (by simp),hide (Below.refl _ _)⟩
 case round=>
  obtain⟨i,hig,rfl,hpre,hbr⟩:=hrel;cases gk with
  | zero=>
   obtain rfl:i=n:=by omega
   have hiz:¬((i:Int)<(i:Int)):=by omega
   have hRf:Hid (R=false):=hide (by
    rw[<-HR.out]
    have:=hpre.out
    rw[List.take_of_length_le (by rw[Hn.out];exact Nat.le_refl _)] at this
    exact zAq this)
   clear hpre HA HT HW Hn HR Heq;go_wp2;go_ret;exact⟨by rw[hRf.out];rfl,hbr.out⟩
  | succ r=>
   have hi:i<n:=by omega
   have hiz:(i:Int)<(n:Int):=by omega
   obtain⟨x,hx⟩:∃x,P[i]?=some x:=⟨_,List.getElem?_eq_getElem (by rw[<-Hn.out];exact hi)⟩;have hxm:=List.mem_of_getElem? hx;obtain⟨g,o,hAe,hg,hrd⟩:=HA.out.reads (fun h=>by rw[h] at hx;simp at hx);subst hAe;have y1:=(hbr.out.cell (p:=⟨g,o+i*2,none⟩) hg).trans (hrd.fst i x hx);have y2:=(hbr.out.cell (p:=⟨g,o+i*2+1,none⟩) hg).trans (hrd.snd i x hx);have Hnx:Hid (¬(x.1=t/\WithinV t [x.2] v)->¬∃y∈P.take (i+1),y.1=t/\WithinV t [y.2] v):=hide (fun h=>by
    rw[List.take_add_one,hx]
    rintro ⟨y,hy,h2⟩
    rcases List.mem_append.1 hy with hy | hy
    ·exact hpre.out ⟨y,hy,h2⟩
    ·obtain rfl:y=x:=by simpa using hy
     exact h h2)
   have Hyes:Hid ((x.1=t/\WithinV t [x.2] v)->R=true):=hide (fun h=>by rw[<-HR.out];exact zAm ⟨x,hxm,h⟩);have hcall:=HW.out x hxm;by_cases he:x.1=t
   ·have q1:((txt x.1).toList==TT1.toList)=true:=by rw[<-HTT.out,he];simp
    have q0:(txt x.1).toList=TT1.toList:=(by rw[<-HTT.out,he]);have hone:=litS wr (txt x.2);have hH:Has (wr.alloc (.cells #[.string (txt x.2)] 9)) (wr.alloc (.cells #[.string (txt x.2)] 9)).heap.size 1 (some ⟨wr.heap.size,0,none⟩) 1 (strs [x.2]):=Has.own hone;have hba:=below1 wr (.cells #[.string (txt x.2)] 9);have Hcall:=hide (hcall _ _ 1 hH (HT.out.below (hbr.out.trans (hba.mono hbr.out.size))));have HBa:=hTz hbr hba;obtain⟨b,hb⟩:∃b,Tr (WithinV t [x.2] v)=b:=⟨_,rfl⟩;rw[hb] at Hcall;have Hb:=hide (And.intro he hb);clear hcall hone hH hba hbr hpre hb he hx hxm hrd HW Heq;generalize txt x.1=X1 at *;generalize txt x.2=X2 at *;go_wp2_with (go_at_call 50;fail);refine Hcall.out.mono ?_;rintro e w4 ⟨rfl,hb4⟩;have HB4:=hTz HBa hb4;clear hb4 Hcall HBa y1 y2 q1 q0;cases b with
    | true=>
     have hRt:=hide (Hyes.out ⟨Hb.out.1,Tr_iff.1 Hb.out.2⟩);clear Hnx Hyes Hb HT HA Hn HR;go_wp2;go_ret;exact⟨by rw[hRt.out];rfl,HB4.out⟩
    | false=>
     have hst:=hide (Hnx.out (fun h=>by have:=Hb.out.2;rw[zAm h.2] at this;cases this));clear Hnx Hyes Hb;go_wp2
     go_roundg r
     case measure=>omega
     case rel=>exact⟨i+1,by omega,by go_num,hst,HB4⟩
   ·have q1:((txt x.1).toList==TT1.toList)=false:=by
     rw[<-HTT.out];exact beq_false_of_ne (fun h=>he (by rwa [zAc,zAc] at h))
    have q0:¬(txt x.1).toList=TT1.toList:=by rw[<-HTT.out];exact fun h=>he (by rwa [zAc,zAc] at h)
    have hst:=hide (Hnx.out (fun h=>he h.1));clear hcall hpre he hx hxm hrd HW Heq Hnx Hyes;generalize txt x.1=X1 at *;generalize txt x.2=X2 at *;go_wp2
    go_roundg r
    case measure=>omega
    case rel=>exact⟨i+1,by omega,by go_num,hst,hbr⟩
end Go.Proofs.YtnccdnfkhohobaaGreatDoor
