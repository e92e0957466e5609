/- The reference's At: where a name is in a list. By an AI agent. -/
import Derived.Test.YtajkmiialgiikaaGreatDoorEY
import Derived.BigQuiet
set_option linter.unusedSimpArgs false
set_option linter.unusedVariables false
set_option maxRecDepth 100000
set_option maxHeartbeats 32000000
namespace Go.Proofs.YtajkmiialgiikaaGreatDoor
open Go.RowKit
def findN:List EN->List UInt8->Nat->Int
 | [],_,_=> -1
 | e::L,n,i=>if e.1=n then (i:Int) else findN L n (i+1)
noncomputable def atN (L:List EN) (nm:List UInt8):Int:=if (normT nm).2=0 then findN L (normT nm).1 0 else -1
theorem zMw {L:List EN} {i:Nat} {e:EN} (h:L[i]?=some e) (n:List UInt8):findN (L.drop i) n i=if e.1=n then (i:Int) else findN (L.drop (i+1)) n (i+1):=by
 obtain⟨h1,h2⟩:=List.getElem?_eq_some_iff.1 h;rw[List.drop_eq_getElem_cons h1,h2];rfl
theorem zE3 (L:List EN) (nm:List UInt8) (w:World) (A:Option Addr) (n c:Nat) (xs:List Value) (hA:Has w w.heap.size 2 A n xs) (hL:ENs w w.heap.size xs L) (hn:n<=1000000000) (hnm:nm.length<=1000000) (hT:TM w):
  Calls Tryz.prog 33 #[.slice A n c,.string (txt nm)] w fun e w'=>e=.returned (.int .i64 (atN L nm))/\Below w.heap.size w w':=by
 have hnl:=hA.ens_n hL;have hN:=zBa nm hnm w hT;obtain⟨R,hR⟩:∃R,atN L nm=R:=⟨_,rfl⟩;rw[hR];have HN:=hide hN;have HA:=hide hA;have HL:=hide hL;have Hn:=hide hnl;have HR:=hide hR;clear hN hA hL hnl hR hT hnm;obtain⟨T,hTt⟩:∃T,(normT nm).1=T:=⟨_,rfl⟩;obtain⟨y,hy⟩:∃y,(normT nm).2=y:=⟨_,rfl⟩;rw[hTt,hy] at HN;have HR2:Hid ((if y=0 then findN L T 0 else -1)=R):=hide (by rw[<-HR.out];unfold atN;rw[hTt,hy]);clear HR hTt hy;generalize txt nm=S at *;obtain⟨TS,hTS⟩:∃TS,txt T=TS:=⟨_,rfl⟩;have HTS:=hide hTS;rw[hTS] at HN;clear hTS;go_enter Tryz.func33,Tryz.ntmps33;go_wp2_with (go_at_call 46;fail);refine HN.out.mono ?_;rintro e w2 ⟨rfl,hb2⟩;have HB2:=hide hb2;have HA2:=hide ((HA.out.below hb2).upto hb2.size);have HL2:=hide (HL.out.grow hb2);clear hb2 HN HA HL;by_cases hy0:y=0
 ·have hf:Hid (findN L T 0=R):=hide (by have:=HR2.out;rwa [if_pos hy0] at this);subst hy0;clear HR2;go_wp2
  go_loopg [15] n (fun r s15 wx=>∃i:Nat,i+r=n/\s15=.int .i64 (i:Int)/\Hid (findN (L.drop i) T i=R)/\wx=w2)
  case atStart=>exact⟨0,by omega,rfl,hide (by rw[List.drop_zero];exact hf.out),rfl⟩
  case round=>
   obtain⟨i,hig,rfl,hpre,hw⟩:=hrel;obtain rfl:=hw.symm;clear hw hf;cases gk with
   | zero=>
    obtain rfl:i=n:=by omega
    have hiz:¬((i:Int)<(i:Int)):=(by omega);have hp:=hpre.out;rw[List.drop_eq_nil_of_le (by rw[Hn.out];exact Nat.le_refl _)] at hp;have hR1:Hid (R= -1):=hide (by rw[<-hp];rfl);clear hp hpre HA2 HL2 Hn HTS;go_wp2;go_ret;exact⟨by rw[hR1.out];rfl,HB2.out⟩
   | succ r=>
    have hi:i<n:=(by omega);have hiz:(i:Int)<(n:Int):=(by omega);obtain⟨e,he⟩:∃e,L[i]?=some e:=⟨_,List.getElem?_eq_getElem (by rw[<-Hn.out];exact hi)⟩;obtain⟨g,o,hAe,hg,hat⟩:=HA2.out.en HL2.out (fun h=>by rw[h] at he;simp at he);subst hAe;obtain⟨U,cu,us,hat⟩:=hat i e he;have e0:=hat.e0;have hpd:=zMw he T;rw[hpre.out] at hpd;by_cases h1:e.1=T
    ·rw [if_pos h1] at hpd;have q1:((txt e.1).toList==TS.toList)=true:=by rw[h1,HTS.out];simp
     have Hpd:=hide hpd;generalize txt e.1=TE at *;clear hat he hpre hpd h1 HA2 HL2 Hn HTS;go_wp2;go_ret;exact⟨by rw[Hpd.out];rfl,HB2.out⟩
    ·rw [if_neg h1] at hpd;have q1:((txt e.1).toList==TS.toList)=false:=by rw[<-HTS.out];exact zC5 h1
     have Hpd:=hide hpd.symm;generalize txt e.1=TE at *;clear hat he hpre hpd h1;go_wp2
     go_roundg r
     case measure=>omega
     case rel=>exact⟨i+1,by omega,by go_num,Hpd,rfl⟩
 ·have hR1:Hid (R= -1):=hide (by have:=HR2.out;rw[if_neg hy0] at this;exact this.symm);have q0:(y==0)=false:=beq_false_of_ne hy0;have q1:(y !=0)=true:=by unfold bne;rw[q0];rfl
  clear HR2;go_wp2
  go_loopg [15] n (fun r s15 wx=>∃i:Nat,i+r=n/\s15=.int .i64 (i:Int)/\wx=w2)
  case atStart=>exact⟨0,by omega,rfl,rfl⟩
  case round=>
   obtain⟨i,hig,rfl,hw⟩:=hrel;obtain rfl:=hw.symm;clear hw;cases gk with
   | zero=>
    obtain rfl:i=n:=by omega
    have hiz:¬((i:Int)<(i:Int)):=(by omega);clear HA2 HL2 Hn HTS;go_wp2;go_ret;exact⟨by rw[hR1.out];rfl,HB2.out⟩
   | succ r=>
    have hi:i<n:=(by omega);have hiz:(i:Int)<(n:Int):=(by omega);go_wp2
    go_roundg r
    case measure=>omega
    case rel=>exact⟨i+1,by omega,by go_num,rfl⟩
end Go.Proofs.YtajkmiialgiikaaGreatDoor
