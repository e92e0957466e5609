/- Whether a filter has what belongs to its kind, and nothing else; whether it is formed. By an AI agent. -/
import Derived.Test.YtpkedjohgmnhhaaGreatM11
set_option maxRecDepth 100000
set_option maxHeartbeats 64000000
set_option linter.unusedSimpArgs false
namespace Go.Proofs.YtpkedjohgmnhhaaGreat
open Go.RowKit
set_option linter.unusedVariables false
namespace FT
def plain0 (f l:List UInt8) (any:List (List UInt8)):Bool:=f==[]&&l==[]&&any==[]
section
variable (k:Int) (a v f l:List UInt8) (any:List (List UInt8)) (ps:List FT)
theorem bare_and (h:k=0∨k=1):bare (.mk k a v f l any ps)=(a==[]&&v==[]&&plain0 f l any):=by
 simp only[bare,plain0];rw[if_pos h]
theorem bare_not:bare (.mk 2 a v f l any ps)=(a==[]&&v==[]&&plain0 f l any&&ps.length==1):=by
 simp only[bare,plain0];rw[if_neg (by omega),if_pos trivial]
theorem bare_val (h:k=3∨k=5∨k=6∨k=8):bare (.mk k a v f l any ps)=(attrOk a&&fits v&&plain0 f l any&&ps.isEmpty):=by
 simp only[bare,plain0];rw[if_neg (by omega),if_neg (by omega),if_pos h]
theorem bare_has:bare (.mk 7 a v f l any ps)=(attrOk a&&v==[]&&plain0 f l any&&ps.isEmpty):=by
 simp only[bare,plain0];rw[if_neg (by omega),if_neg (by omega),if_neg (by omega),if_pos trivial]
theorem bare_sub:bare (.mk 4 a v f l any ps)=(any.all fits&&attrOk a&&v==[]&& !plain0 f l any&&ps.isEmpty&&f.length≤200&&l.length≤200):=by
 simp only[bare,plain0];rw[if_neg (by omega),if_neg (by omega),if_neg (by omega),if_neg (by omega),if_pos trivial]
theorem bare_else (h:k≠0∧k≠1∧k≠2∧k≠3∧k≠4∧k≠5∧k≠6∧k≠7∧k≠8):bare (.mk k a v f l any ps)=false:=by
 simp only[bare];rw[if_neg (by omega),if_neg (by omega),if_neg (by omega),if_neg (by omega),if_neg (by omega)]
end
end FT
theorem isEmpty_len {α:Type} (l:List α):l.isEmpty=(((l.length:Nat):Int)==0):=by
 cases l with
 | nil=>rfl
 | cons a r=>symm;exact beq_false_of_ne (by simp only[List.length_cons];omega)
theorem len_one {α:Type} (l:List α):(l.length==1)=(((l.length:Nat):Int)==1):=by
 by_cases h:l.length=1
 ·rw [h];rfl
 ·rw [beq_false_of_ne h,beq_false_of_ne (by omega)]
theorem rbare_any (t:FT) (w:World) (u0 u1 u2 u3 u4 u5 u6:Value) (hF:FIn w w.heap.size t [u0,u1,u2,u3,u4,u5,u6]):
  Calls Tryz.prog 149 #[.agg #[u0,u1,u2,u3,u4,u5,u6]] w fun e w'=>e=.returned (.bool t.bare)∧Below w.heap.size w w':=by
 cases t with
 | mk k a v f l any ps=>
 simp only[FIn] at hF
 obtain⟨A,c,D,dd,xs,hcs,⟨hml,hnl⟩,hA,hD,hP⟩:=hF
 cases hcs
 unfold maxLen at hml hnl
 obtain⟨R,hR⟩:∃R,FT.bare (.mk k a v f l any ps)=R:=⟨_,rfl⟩
 rw[hR]
 have hAt:=fun w=>rattr_any a w
 have hFv:=fun w=>rfits_any v w
 have hFx:=fun x w=>rfits_any x w
 obtain⟨pb,hpb⟩:∃pb,FT.plain0 f l any=pb:=⟨_,rfl⟩
 obtain⟨ao,hao⟩:∃ao,FT.attrOk a=ao:=⟨_,rfl⟩
 obtain⟨fv,hfv⟩:∃fv,FT.fits v=fv:=⟨_,rfl⟩
 obtain⟨a0,ha0⟩:∃a0,(a==[])=a0:=⟨_,rfl⟩
 obtain⟨v0,hv0⟩:∃v0,(v==[])=v0:=⟨_,rfl⟩
 obtain⟨p0,hp0⟩:∃p0,ps.isEmpty=p0:=⟨_,rfl⟩
 obtain⟨p1,hp1⟩:∃p1,(ps.length==1)=p1:=⟨_,rfl⟩
 obtain⟨m,hm⟩:∃m,any.length=m:=⟨_,rfl⟩
 obtain⟨np,hnp⟩:∃np,ps.length=np:=⟨_,rfl⟩
 have h01:(k=0∨k=1)→R=(a0&&v0&&pb):=fun h=>by rw[←hR,FT.bare_and _ _ _ _ _ _ _ h,ha0,hv0,hpb]
 have h2:k=2→R=(a0&&v0&&pb&&p1):=fun h=>by rw[←hR,h,FT.bare_not,ha0,hv0,hpb,hp1]
 have h3:(k=3∨k=5∨k=6∨k=8)→R=(ao&&fv&&pb&&p0):=fun h=>by rw[←hR,FT.bare_val _ _ _ _ _ _ _ h,hao,hfv,hpb,hp0]
 have h7:k=7→R=(ao&&v0&&pb&&p0):=fun h=>by rw[←hR,h,FT.bare_has,hao,hv0,hpb,hp0]
 have h4:k=4→R=(any.all FT.fits&&ao&&v0&& !pb&&p0&&decide (f.length≤200)&&decide (l.length≤200)):=fun h=>by rw[←hR,h,FT.bare_sub,hao,hv0,hpb,hp0]
 have h9:=fun h=>hR.symm.trans (FT.bare_else k a v f l any ps h)
 have ea:((txt a).toList==[])=a0:=by rw[txt_bytes];exact ha0
 have ev:((txt v).toList==[])=v0:=by rw[txt_bytes];exact hv0
 have ep0:((np:Int)==0)=p0:=by rw[←hp0,isEmpty_len,hnp]
 have ep1:((np:Int)==1)=p1:=by rw[←hp1,len_one,hnp]
 rw[hao] at hAt
 rw[hfv] at hFv
 have hlf:=txt_size f
 have hll:=txt_size l
 have hX:=Box7.new w k (txt a) (txt v) (txt f) (txt l) A any.length c D ps.length dd 25
 have hb0:=below1 w (.cells #[.int .i64 k,.string (txt a),.string (txt v),.string (txt f),.string (txt l),.slice A any.length c,.slice D ps.length dd] 25)
 rw[hm,hnp] at hX hb0 ⊢
 have ef:=(txt_bytes f)
 have el:=(txt_bytes l)
 have hmi:(m:Int)≤9223372036854775807:=by omega
 have H01:=hide h01
 have H2:=hide h2
 have H3:=hide h3
 have H7:=hide h7
 have H4:=hide h4
 have H9:=hide h9
 have HAt:=hide hAt
 have HFv:=hide hFv
 have HFx:=hide hFx
 have HA:=hide hA
 have Hm:=hide hm
 have Hpb:=hide hpb
 have Hlf:=hide hlf
 have Hll:=hide hll
 have Hef:=hide ef
 have Hel:=hide el
 have HX:=hide hX
 have Hea:=hide ea
 have Hev:=hide ev
 have Hp0:=hide ep0
 have Hp1:=hide ep1
 obtain⟨_,c0,c1,c2,c3,c4,c5,c6⟩:=hX
 clear hR h01 h2 h3 h7 h4 h9 hAt hFv hFx hA hD hP hm hnp hml hnl hpb hlf hll ef el ea ev ep0 ep1 ha0 hv0 hp0 hp1 hao hfv
 generalize txt a=sa at *
 generalize txt v=sv at *
 generalize txt f=sf at *
 generalize txt l=sl at *
 obtain⟨w1,hw1⟩:∃w1,(w.alloc (.cells #[.int .i64 k,.string sa,.string sv,.string sf,.string sl,.slice A m c,.slice D np dd] 25))=w1:=⟨_,rfl⟩
 have Hw1:=hide hw1
 clear hw1
 go_enter Tryz.func149,Tryz.ntmps149
 go_upto_region 1 with fail
 go_cut [3] from 4 to 18 (fun s3 wx=>s3=.bool (!pb)∧wx=w1)
 case first=>
  rw[Hw1.out] at c0 c1 c2 c3 c4 c5 c6 ⊢
  clear H01 H2 H3 H7 H4 H9 HAt HFv HFx HX hb0 Hea Hev Hp0 Hp1
  have hpb:=Hpb.out
  by_cases h1:f=[]
  ·subst h1
   have e1:(sf.toList==[])=true:=by rw[Hef.out];rfl
   have e1':(sf.toList !=[])=false:=by unfold bne;rw[e1];rfl
   by_cases h2:l=[]
   ·subst h2
    have e2:(sl.toList==[])=true:=by rw[Hel.out];rfl
    have e2':(sl.toList !=[])=false:=by unfold bne;rw[e2];rfl
    by_cases h3:any=[]
    ·subst h3
     obtain rfl:m=0:=by rw[←Hm.out];rfl
     obtain rfl:pb=true:=by rw[←hpb];rfl
     clear hpb Hpb Hef Hel HA Hm Hlf Hll Hw1
     go_wp2
     go_meet
     case rel=>exact⟨rfl,rfl⟩
    ·have z3:(0:Int)<(m:Int):=by have:=List.length_pos_iff.2 h3;have:=Hm.out;omega
     obtain rfl:pb=false:=by rw[←hpb];unfold FT.plain0;simp[h3]
     have z4:0<m:=by omega
     clear hpb Hpb Hef Hel HA Hm Hlf Hll Hw1 h3
     go_wp2
     go_meet
     case rel=>exact⟨rfl,rfl⟩
   ·have e2:(sl.toList==[])=false:=by rw[Hel.out];simpa using h2
    have e2':(sl.toList !=[])=true:=by unfold bne;rw[e2];rfl
    obtain rfl:pb=false:=by rw[←hpb];unfold FT.plain0;simp[h2]
    clear hpb Hpb Hef Hel HA Hm Hlf Hll Hw1 h2
    go_wp2
    go_meet
    case rel=>exact⟨rfl,rfl⟩
  ·have e1:(sf.toList==[])=false:=by rw[Hef.out];simpa using h1
   have e1':(sf.toList !=[])=true:=by unfold bne;rw[e1];rfl
   obtain rfl:pb=false:=by rw[←hpb];unfold FT.plain0;simp[h1]
   clear hpb Hpb Hef Hel HA Hm Hlf Hll Hw1 h1
   go_wp2
   go_meet
   case rel=>exact⟨rfl,rfl⟩
 case rest=>
  obtain⟨rfl,hwc⟩:=hcut
  obtain rfl:=hwc.symm
  clear hwc
  rw[Hw1.out] at c0 c1 c2 c3 c4 c5 c6 hb0 HX
  clear Hw1 Hpb Hef Hel
  by_cases k0:k=0∨k=1
  ·have hr:=hide (H01.out k0)
   clear H01 H2 H3 H7 H4 H9 HAt HFv HFx HA Hm Hlf Hll HX Hp0 Hp1
   have ea:=Hea.out
   have ev:=Hev.out
   rcases k0 with rfl | rfl
   ·cases a0<;>cases v0<;>cases pb<;>(go_wp2;go_ret;exact⟨by rw[hr.out];rfl,hb0⟩)
   ·cases a0<;>cases v0<;>cases pb<;>(go_wp2;go_ret;exact⟨by rw[hr.out];rfl,hb0⟩)
  by_cases k2:k=2
  ·have hr:=hide (H2.out k2)
   subst k2
   clear H01 H2 H3 H7 H4 H9 HAt HFv HFx HA Hm Hlf Hll HX Hp0 k0
   have ea:=Hea.out
   have ev:=Hev.out
   have ep:=Hp1.out
   cases a0<;>cases v0<;>cases pb<;>cases p1<;>(go_wp2;go_ret;exact⟨by rw[hr.out];rfl,hb0⟩)
  by_cases k3:k=3∨k=5∨k=6∨k=8
  ·have hr:=hide (H3.out k3)
   have hAt:=HAt.out w1
   have hFv:=HFv.out w1
   have ep:=Hp0.out
   clear H01 H2 H3 H7 H4 H9 HAt HFv HFx HA Hm Hlf Hll HX Hea Hev Hp0 Hp1 k0 k2
   rcases k3 with rfl | rfl | rfl | rfl
   ·cases ao with
    | false=>
     go_wp2_with (go_at_call 170;fail)
     refine hAt.mono ?_
     rintro e w2 ⟨rfl,hw2⟩
     obtain rfl:=hw2.symm
     clear hAt hw2
     go_wp2
     go_ret
     exact⟨by rw[hr.out];rfl,hb0⟩
    | true=>
     go_wp2_with (go_at_call 170;fail)
     refine hAt.mono ?_
     rintro e w2 ⟨rfl,hw2⟩
     obtain rfl:=hw2.symm
     clear hAt hw2
     go_wp2_with (go_at_call 171;fail)
     refine hFv.mono ?_
     rintro e w2 ⟨rfl,hw2⟩
     obtain rfl:=hw2.symm
     clear hFv hw2
     cases fv<;>cases pb<;>cases p0<;>(go_wp2;go_ret;exact⟨by rw[hr.out];rfl,hb0⟩)
   ·cases ao with
    | false=>
     go_wp2_with (go_at_call 170;fail)
     refine hAt.mono ?_
     rintro e w2 ⟨rfl,hw2⟩
     obtain rfl:=hw2.symm
     clear hAt hw2
     go_wp2
     go_ret
     exact⟨by rw[hr.out];rfl,hb0⟩
    | true=>
     go_wp2_with (go_at_call 170;fail)
     refine hAt.mono ?_
     rintro e w2 ⟨rfl,hw2⟩
     obtain rfl:=hw2.symm
     clear hAt hw2
     go_wp2_with (go_at_call 171;fail)
     refine hFv.mono ?_
     rintro e w2 ⟨rfl,hw2⟩
     obtain rfl:=hw2.symm
     clear hFv hw2
     cases fv<;>cases pb<;>cases p0<;>(go_wp2;go_ret;exact⟨by rw[hr.out];rfl,hb0⟩)
   ·cases ao with
    | false=>
     go_wp2_with (go_at_call 170;fail)
     refine hAt.mono ?_
     rintro e w2 ⟨rfl,hw2⟩
     obtain rfl:=hw2.symm
     clear hAt hw2
     go_wp2
     go_ret
     exact⟨by rw[hr.out];rfl,hb0⟩
    | true=>
     go_wp2_with (go_at_call 170;fail)
     refine hAt.mono ?_
     rintro e w2 ⟨rfl,hw2⟩
     obtain rfl:=hw2.symm
     clear hAt hw2
     go_wp2_with (go_at_call 171;fail)
     refine hFv.mono ?_
     rintro e w2 ⟨rfl,hw2⟩
     obtain rfl:=hw2.symm
     clear hFv hw2
     cases fv<;>cases pb<;>cases p0<;>(go_wp2;go_ret;exact⟨by rw[hr.out];rfl,hb0⟩)
   ·cases ao with
    | false=>
     go_wp2_with (go_at_call 170;fail)
     refine hAt.mono ?_
     rintro e w2 ⟨rfl,hw2⟩
     obtain rfl:=hw2.symm
     clear hAt hw2
     go_wp2
     go_ret
     exact⟨by rw[hr.out];rfl,hb0⟩
    | true=>
     go_wp2_with (go_at_call 170;fail)
     refine hAt.mono ?_
     rintro e w2 ⟨rfl,hw2⟩
     obtain rfl:=hw2.symm
     clear hAt hw2
     go_wp2_with (go_at_call 171;fail)
     refine hFv.mono ?_
     rintro e w2 ⟨rfl,hw2⟩
     obtain rfl:=hw2.symm
     clear hFv hw2
     cases fv<;>cases pb<;>cases p0<;>(go_wp2;go_ret;exact⟨by rw[hr.out];rfl,hb0⟩)
  by_cases k7:k=7
  ·have hr:=hide (H7.out k7)
   subst k7
   have hAt:=HAt.out w1
   have ev:=Hev.out
   have ep:=Hp0.out
   clear H01 H2 H3 H7 H4 H9 HAt HFv HFx HA Hm Hlf Hll HX Hea Hev Hp0 Hp1 k0 k2 k3
   cases ao with
   | false=>
    go_wp2_with (go_at_call 170;fail)
    refine hAt.mono ?_
    rintro e w2 ⟨rfl,hw2⟩
    obtain rfl:=hw2.symm
    clear hAt hw2
    go_wp2
    go_ret
    exact⟨by rw[hr.out];rfl,hb0⟩
   | true=>
    go_wp2_with (go_at_call 170;fail)
    refine hAt.mono ?_
    rintro e w2 ⟨rfl,hw2⟩
    obtain rfl:=hw2.symm
    clear hAt hw2
    cases v0<;>cases pb<;>cases p0<;>(go_wp2;go_ret;exact⟨by rw[hr.out];rfl,hb0⟩)
  by_cases k4:k=4
  ·have hr:=hide (H4.out k4)
   subst k4
   have hAt:=HAt.out w1
   have ev:=Hev.out
   have ep:=Hp0.out
   clear H01 H2 H3 H7 H4 H9 HAt HFv Hea Hev Hp0 Hp1 k0 k2 k3 k7
   go_wp2
   go_loopg [104] m (fun r s104 wx=>∃i:Nat,i+r=m∧s104=.int .i64 (i:Int)∧wx=w1∧Hid (∀x∈any.take i,FT.fits x=true))
   case atStart=>exact⟨0,by omega,rfl,rfl,hide (fun x hx=>by simp at hx)⟩
   case round=>
    obtain⟨i,hig,rfl,hw2,hpre⟩:=hrel
    obtain rfl:=hw2.symm
    clear hw2
    cases gk with
    | succ r=>
     have hi:i<m:=by omega
     have hiz:(i:Int)<(m:Int):=by omega
     obtain⟨x,hx⟩:∃x,any[i]?=some x:=⟨_,List.getElem?_eq_getElem (by rw[Hm.out];exact hi)⟩
     have HA1:=HA.out
     rw[Hm.out] at HA1
     obtain⟨g,o,hAe,hg,hc⟩:=HA1.texts (fun h=>by rw[h] at hx;simp at hx)
     subst hAe
     have x0:=(hb0.cell (p:=⟨g,o+i,none⟩) hg).trans (hc i x hx)
     have hcall:=HFx.out x w1
     cases hfx:FT.fits x with
     | false=>
      have hr2:Hid (R=false):=hide (by
       rw[hr.out]
       have:any.all FT.fits=false:=by rw[List.all_eq_false];exact⟨x,List.mem_of_getElem? hx,by rw[hfx];exact Bool.false_ne_true⟩
       rw[this];simp)
      rw[hfx] at hcall
      generalize txt x=X at *
      clear HFx HA1 hc hx hfx HA Hm Hlf Hll hpre hAt hr
      go_wp2_with (go_at_call 171;fail)
      refine hcall.mono ?_
      rintro e w2 ⟨rfl,hw2⟩
      obtain rfl:=hw2.symm
      clear hcall hw2
      go_wp2
      go_ret
      exact⟨by rw[hr2.out];rfl,hb0⟩
     | true=>
      have hpre2:Hid (∀y∈any.take (i+1),FT.fits y=true):=hide (fun y hy=>by
       rw[List.take_add_one,hx] at hy
       simp only[Option.toList_some,List.mem_append,List.mem_singleton] at hy
       rcases hy with hy | rfl
       ·exact hpre.out y hy
       ·exact hfx)
      rw[hfx] at hcall
      generalize txt x=X at *
      clear HFx HA1 hc hx hfx HA Hm Hlf Hll hpre hAt hr
      go_wp2_with (go_at_call 171;fail)
      refine hcall.mono ?_
      rintro e w2 ⟨rfl,hw2⟩
      obtain rfl:=hw2.symm
      clear hcall hw2
      go_wp2
      go_roundg r
      case measure=>omega
      case rel=>exact⟨i+1,by omega,by go_num,rfl,hpre2⟩
    | zero=>
     obtain rfl:i=m:=by omega
     have hiz:¬((i:Int)<(i:Int)):=by omega
     have hr2:Hid (R=(ao&&v0&& !pb&&p0&&decide (f.length≤200)&&decide (l.length≤200))):=hide (by
      rw[hr.out]
      have:=hpre.out
      rw[List.take_of_length_le (by rw[Hm.out];exact Nat.le_refl _)] at this
      rw[List.all_eq_true.2 this];simp)
     clear hr
     cases ao with
     | false=>
      clear HFx HA Hm Hlf Hll hpre HX
      go_wp2_with (go_at_call 170;fail)
      refine hAt.mono ?_
      rintro e w2 ⟨rfl,hw2⟩
      obtain rfl:=hw2.symm
      clear hAt hw2
      go_wp2
      go_ret
      exact⟨by rw[hr2.out];rfl,hb0⟩
     | true=>
      have hlf:=Hlf.out
      have hll:=Hll.out
      by_cases y1:f.length≤200
      ·have z1:(sf.size:Int)≤200:=by omega
       rw[decide_eq_true y1] at hr2
       by_cases y2:l.length≤200
       ·have z2:(sl.size:Int)≤200:=by omega
        rw[decide_eq_true y2] at hr2
        clear HFx HA Hm Hlf Hll hpre HX y1 y2 hlf hll
        go_wp2_with (go_at_call 170;fail)
        refine hAt.mono ?_
        rintro e w2 ⟨rfl,hw2⟩
        obtain rfl:=hw2.symm
        clear hAt hw2
        cases v0<;>cases pb<;>cases p0<;>(go_wp2;go_ret;exact⟨by first | (rw[hr2.out];rfl) | (rw[hr2.out];simp;omega),hb0⟩)
       ·have z2:¬((sl.size:Int)≤200):=by omega
        rw[decide_eq_false y2] at hr2
        clear HFx HA Hm Hlf Hll hpre HX y1 y2 hlf hll
        go_wp2_with (go_at_call 170;fail)
        refine hAt.mono ?_
        rintro e w2 ⟨rfl,hw2⟩
        obtain rfl:=hw2.symm
        clear hAt hw2
        cases v0<;>cases pb<;>cases p0<;>(go_wp2;go_ret;exact⟨by first | (rw[hr2.out];rfl) | (rw[hr2.out];simp;omega),hb0⟩)
      ·have z1:¬((sf.size:Int)≤200):=by omega
       rw[decide_eq_false y1] at hr2
       have hr3:Hid (R=false):=hide (by rw[hr2.out];simp)
       clear HFx HA Hm Hlf Hll hpre HX y1 hlf hll hr2
       go_wp2_with (go_at_call 170;fail)
       refine hAt.mono ?_
       rintro e w2 ⟨rfl,hw2⟩
       obtain rfl:=hw2.symm
       clear hAt hw2
       cases v0<;>cases pb<;>cases p0<;>(go_wp2;go_ret;exact⟨by rw[hr3.out];rfl,hb0⟩)
  ·have hr:=hide (H9.out ⟨fun h=>k0 (.inl h),fun h=>k0 (.inr h),k2,fun h=>k3 (.inl h),k4,fun h=>k3 (.inr (.inl h)),fun h=>k3 (.inr (.inr (.inl h))),k7,fun h=>k3 (.inr (.inr (.inr h)))⟩)
   have y0:(k==0)=false:=beq_false_of_ne (by omega)
   have y1:(k==1)=false:=beq_false_of_ne (by omega)
   have y2:(k==2)=false:=beq_false_of_ne (by omega)
   have y3:(k==3)=false:=beq_false_of_ne (by omega)
   have y4:(k==4)=false:=beq_false_of_ne (by omega)
   have y5:(k==5)=false:=beq_false_of_ne (by omega)
   have y6:(k==6)=false:=beq_false_of_ne (by omega)
   have y7:(k==7)=false:=beq_false_of_ne (by omega)
   have y8:(k==8)=false:=beq_false_of_ne (by omega)
   clear H01 H2 H3 H7 H4 H9 HAt HFv HFx HA Hm Hlf Hll HX Hea Hev Hp0 Hp1 k0 k2 k3 k4 k7
   go_wp2
   go_ret
   exact⟨by rw[hr.out];rfl,hb0⟩
end Go.Proofs.YtpkedjohgmnhhaaGreat
