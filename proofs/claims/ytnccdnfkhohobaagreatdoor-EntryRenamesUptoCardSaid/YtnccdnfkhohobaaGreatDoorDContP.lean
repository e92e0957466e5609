/- slices.Contains of pairs. By an AI agent. -/
import Derived.Test.YtnccdnfkhohobaaGreatDoorEX
import Derived.BigQuiet
set_option linter.unusedSimpArgs false
set_option linter.unusedVariables false
set_option maxRecDepth 100000
set_option maxHeartbeats 32000000
namespace Go.Proofs.YtnccdnfkhohobaaGreatDoor
open Go.RowKit
theorem ava_eq (x y:P2) (b:Bool) (hb:b=true↔x=y) (w:World):(Op.equalIn 10000 75 (.agg #[.string (txt x.1),.string (txt x.2)]) (.agg #[.string (txt y.1),.string (txt y.2)])).run Tryz.prog w=.ok b w:=by
 have hS:Tryz.prog.underlying 75=some (.struct (Tryz.prog.fieldsOf 75)):=by kernel_rfl
 have hp:Tryz.prog.stoodInHeld 75=false:=by kernel_rfl
 rw[show (10000:Nat)=9999+1 from rfl,run_equalIn_agg w 9999 75 _ _ hS hp];simp only[Program.fieldsOf,Tryz.underlying75];obtain⟨x1,x2⟩:=x;obtain⟨y1,y2⟩:=y;simp only;go_simp;by_cases h0:x1=y1
 rotate_left
 ·obtain rfl:b=false:=by
   cases b with
   | false=>rfl
   | true=>exact absurd (congrArg Prod.fst (hb.1 rfl)) h0
  simp[h0]
 subst h0;by_cases h1:x2=y2
 rotate_left
 ·obtain rfl:b=false:=by
   cases b with
   | false=>rfl
   | true=>exact absurd (congrArg Prod.snd (hb.1 rfl)) h1
  simp[h1]
 subst h1;obtain rfl:b=true:=hb.2 rfl;simp
structure IdxP (P:List P2) (q:P2) (w:World) (e:Ending) (w':World):Prop where
 out:∃k:Int,e=.returned (.int .i64 k)/\(0<=k↔q∈P)/\Below w.heap.size w w'
theorem zOp (P:List P2) (q:P2) (w:World) (A:Option Addr) (n c:Nat) (hA:Has w w.heap.size 2 A n (prs P)) (hn:n<=1000000):
  Calls Tryz.prog 60 #[.slice A n c,.agg #[.string (txt q.1),.string (txt q.2)]] w (IdxP P q w):=by
 have hnl:=hA.pairs_n;have hb1:=below1 w (.cells #[.string (txt q.1),.string (txt q.2)] 75);obtain⟨p0,p1,_,_,_⟩:=Bx.new w (txt q.1) (txt q.2) 75;obtain⟨w1,hw1⟩:∃w1,w.alloc (.cells #[.string (txt q.1),.string (txt q.2)] 75)=w1:=⟨_,rfl⟩;have hlt:w.heap.size<w1.heap.size:=by rw[<-hw1];simp
 rw[hw1] at hb1 p0 p1;have HA:=hide ((hA.below hb1).upto hb1.size);have HB:=hide hb1;have Hw1:=hide hw1;have Hn:=hide hnl;have Hp:=hide (And.intro hlt (And.intro p0 p1));clear hA hb1 hw1 hnl hlt p0 p1;go_enter Tryz.func60,Tryz.ntmps60;go_upto_region 1 with fail;rw[Hw1.out];obtain⟨qb,hqb⟩:∃x,w.heap.size=x:=⟨_,rfl⟩;rw[hqb] at Hp;(try rw[hqb]);have HB0:Hid (∀w',Below w1.heap.size w1 w'->Below w.heap.size w w'):=hide (fun w' h=>HB.out.trans (h.mono HB.out.size));clear hqb Hw1 HB;go_wp2
 go_loopg [8] n (fun r s8 wx=>∃i:Nat,i+r=n/\s8=.int .i64 (i:Int)/\Hid (q ∉ P.take i)/\Hid (Below w1.heap.size w1 wx))
 case atStart=>exact⟨0,by omega,rfl,hide (by simp),hide (Below.refl _ _)⟩
 case round=>
  obtain⟨i,hig,rfl,hpre,hbr⟩:=hrel;cases gk with
  | zero=>
   obtain rfl:i=n:=by omega
   have hiz:¬((i:Int)<(i:Int)):=by omega
   have hno:q ∉ P:=by
    have:=hpre.out
    rwa [List.take_of_length_le (by rw[Hn.out];exact Nat.le_refl _)] at this
   have Hno:=hide hno;have HE:=hide (HB0.out _ hbr.out);clear hno hpre hbr HA Hp HB0 Hn;go_wp2;go_ret;exact⟨-1,rfl,⟨fun h=>absurd h (by decide),fun h=>absurd h Hno.out⟩,HE.out⟩
  | succ r=>
   have hi:i<n:=by omega
   have hiz:(i:Int)<(n:Int):=by omega
   obtain⟨x,hx⟩:∃x,P[i]?=some x:=⟨_,List.getElem?_eq_getElem (by rw[<-Hn.out];exact hi)⟩;obtain⟨g2,o2,hAe,hg2,hrd⟩:=HA.out.reads (fun h=>by rw[h] at hx;simp at hx);subst hAe;have y1:=(hbr.out.cell (p:=⟨g2,o2+i*2,none⟩) hg2).trans (hrd.fst i x hx);have y2:=(hbr.out.cell (p:=⟨g2,o2+i*2+1,none⟩) hg2).trans (hrd.snd i x hx);have z0:=(hbr.out.cell (p:=⟨qb,0,none⟩) Hp.out.1).trans Hp.out.2.1;have z1:=(hbr.out.cell (p:=⟨qb,1,none⟩) Hp.out.1).trans Hp.out.2.2;obtain⟨bb,hbb⟩:∃bb:Bool,bb=true↔q=x:=by
    by_cases h:q=x
    ·exact ⟨true,by simp[h]⟩
    ·exact ⟨false,by simp[h]⟩
   have hce:=ava_eq q x bb hbb;have Hyes:Hid (bb=true->q∈P):=hide (fun h=>by rw[hbb.1 h];exact List.mem_of_getElem? hx);have Hnx:Hid (bb=false->q ∉ P.take (i+1)):=hide (fun h=>by
    rw[List.take_add_one,hx]
    intro hm
    rcases List.mem_append.1 hm with hm | hm
    ·exact hpre.out hm
    ·have:q=x:=by simpa using hm
     have:=hbb.2 this
     rw[h] at this
     cases this)
   clear hbb hx hrd hpre;generalize txt q.1=Q1 at *;generalize txt q.2=Q2 at *;generalize txt x.1=X1 at *;generalize txt x.2=X2 at *;go_wp2_with fail
   go_quiet (fail)
   have hbn:=hide (Below.drewN hbr.out nq);clear y1 y2 z0 z1 hce hbr;generalize wr.drewN nq=wn at *;cases bb with
   | false=>
    have hst:=hide (Hnx.out rfl);clear Hyes Hnx;go_wp2
    go_roundg r
    case measure=>omega
    case rel=>exact⟨i+1,by omega,by go_num,hst,hbn⟩
   | true=>
    have hst:=hide (Hyes.out rfl);have HE:=hide (HB0.out _ hbn.out);clear Hyes Hnx hbn HB0 Hp HA Hn;go_wp2;go_ret;exact⟨(i:Int),rfl,⟨fun _=>hst.out,fun _=>by omega⟩,HE.out⟩
theorem zH1 (P:List P2) (q:P2) (w:World) (A:Option Addr) (n c:Nat) (hA:Has w w.heap.size 2 A n (prs P)) (hn:n<=1000000):
  Calls Tryz.prog 40 #[.slice A n c,.agg #[.string (txt q.1),.string (txt q.2)]] w fun e w'=>e=.returned (.bool (Tr (q∈P)))/\Below w.heap.size w w':=by
 have hb1:=below1 w (.cells #[.string (txt q.1),.string (txt q.2)] 75);obtain⟨p0,p1,_,_,_⟩:=Bx.new w (txt q.1) (txt q.2) 75;have HI:=hide (zOp P q _ A n c ((hA.below hb1).upto hb1.size) hn);have HB:=hide hb1;obtain⟨R,hR⟩:∃R,Tr (q∈P)=R:=⟨_,rfl⟩;rw[hR];have HR:=hide hR;clear hA hb1 hR;generalize txt q.1=Q1 at *;generalize txt q.2=Q2 at *;go_enter Tryz.func40,Tryz.ntmps40;go_wp2_with (go_at_call 60;fail);refine HI.out.mono ?_;rintro e w2 hpost;obtain⟨k,rfl,hk,hb2⟩:=hpost.out;have HE:=hTz HB hb2;clear hpost hb2 HI HB p0 p1;by_cases h:q∈P
 ·have hk0:(0:Int)<=k:=hk.2 h;have hRt:Hid (R=true):=hide (by rw[<-HR.out];exact zAm h);have hk1:¬k<0:=by omega
  clear hk h HR;go_wp2;go_ret;exact⟨by rw[hRt.out];simp[hk0],HE.out⟩
 ·have hk0:¬(0:Int)<=k:=fun q=>h (hk.1 q)
  have hRt:Hid (R=false):=hide (by rw[<-HR.out];exact zAq h);have hk1:k<0:=by omega
  clear hk h HR;go_wp2;go_ret;exact⟨by rw[hRt.out];simp[hk0],HE.out⟩
end Go.Proofs.YtnccdnfkhohobaaGreatDoor
