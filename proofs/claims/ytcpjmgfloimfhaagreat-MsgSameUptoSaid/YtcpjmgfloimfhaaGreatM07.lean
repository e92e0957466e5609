/- Several texts in one: JForm, LFilter, LListC. By an AI agent. -/
import Derived.Test.YtcpjmgfloimfhaaGreatM06
import Derived.Test.YtcpjmgfloimfhaaGreatM03
set_option linter.unusedSimpArgs false
set_option linter.unusedVariables false
set_option maxRecDepth 100000
set_option maxHeartbeats 32000000
namespace Go.Proofs.YtcpjmgfloimfhaaGreat
open Go.RowKit
set_option linter.unusedVariables false
theorem FIn.shape {w:World} {B:Nat}:∀{t:FT} {u0 u1 u2 u3 u4 u5 u6:Value},FIn w B t [u0,u1,u2,u3,u4,u5,u6]→∃(k:Int) (a v f l:ByteArray) (A:Option Addr) (m c:Nat) (D:Option Addr) (n d:Nat),u0=.int .i64 k∧u1=.string a∧u2=.string v∧u3=.string f∧u4=.string l∧u5=.slice A m c∧u6=.slice D n d
 | .mk ..,_,_,_,_,_,_,_,h=>by
  simp only[FIn] at h
  obtain⟨A,c,D,d,xs,hcs,_⟩:=h
  simp only[List.cons.injEq,and_true] at hcs
  obtain⟨rfl,rfl,rfl,rfl,rfl,rfl,rfl⟩:=hcs
  exact⟨_,_,_,_,_,_,_,_,_,_,_,rfl,rfl,rfl,rfl,rfl,rfl,rfl⟩
namespace FT
theorem nodesL_take {ps:List FT} {i:Nat} {p:FT} (h:ps[i]?=some p):nodesL (ps.take (i+1))=nodesL (ps.take i)+p.nodes:=by
 induction ps generalizing i with
 | nil=>simp at h
 | cons q r ih=>
  cases i with
  | zero=>simp at h;subst h;simp[nodesL]
  | succ i=>simp only[List.getElem?_cons_succ] at h;have:=ih h;simp only[List.take_succ_cons,nodesL] at this ⊢;omega
theorem nodesL_mono:∀(ps:List FT) (i:Nat),nodesL (ps.take i)≤nodesL ps
 | [],i=>by simp[nodesL]
 | p::r,0=>by simp[nodesL]
 | p::r,i+1=>by have:=nodesL_mono r i;simp only[nodesL,List.take_succ_cons] at this ⊢;omega
theorem depthL_all {d:Nat}:∀(ps:List FT),decide (depthL ps≤d)=ps.all (fun p=>decide (p.depth≤d))
 | []=>by simp[depthL]
 | p::r=>by
  have h:=depthL_all (d:=d) r
  rw[List.all_cons,←h,depthL,Bool.eq_iff_iff]
  simp only[Bool.and_eq_true,decide_eq_true_eq]
  omega
theorem all_both (f g:FT→Bool):∀l:List FT,l.all (fun p=>f p&&g p)=(l.all f&&l.all g)
 | []=>rfl
 | p::r=>by
  have h:=all_both f g r
  simp only[List.all_cons,h]
  cases f p<;>cases g p<;>cases r.all f<;>rfl
def nest (t:FT) (d:Nat):Bool:=decide (t.depth≤d)&&t.all
theorem nest_zero (t:FT):t.nest 0=false:=by
 have:=t.depth_pos
 unfold nest
 rw[decide_eq_false (by omega)]
 rfl
theorem nest_succ (k:Int) (a v f l:List UInt8) (any:List (List UInt8)) (ps:List FT) (d:Nat):nest (.mk k a v f l any ps) (d+1)=(bare (.mk k a v f l any ps)&&ps.all (fun p=>p.nest d)):=by
 unfold nest
 rw[all_mk,depth]
 have h1:decide (depthL ps+1≤d+1)=ps.all (fun p=>decide (p.depth≤d)):=by rw[←depthL_all];simp
 rw[h1]
 have h2:=all_both (fun p=>decide (p.depth≤d)) FT.all ps
 rw[h2]
 cases bare (.mk k a v f l any ps)<;>simp
theorem formed_nest (t:FT):t.formed=(decide (t.nodes≤40)&&t.nest 20):=by
 unfold formed nest
 rw[Bool.and_assoc]
end FT
theorem jcount_any (t:FT):∀(M:Nat),1≤M→M≤41→∀(w:World) (u0 u1 u2 u3 u4 u5 u6:Value),FIn w w.heap.size t [u0,u1,u2,u3,u4,u5,u6]→
  Calls Tryz.prog 96 #[.agg #[u0,u1,u2,u3,u4,u5,u6],.int .i64 (M:Int)] w fun e w'=>e=.returned (.int .i64 ((min t.nodes M:Nat):Int))∧Below w.heap.size w w':=by
 induction t using FT.induct
 rename_i k a v f l any ps ih
 intro M hM0 hM w u0 u1 u2 u3 u4 u5 u6 hF
 have hF0:=hF
 simp only[FIn] at hF
 obtain⟨A,c,D,dd,xs,hcs,⟨hml,hnl⟩,hA,hD,hP⟩:=hF
 cases hcs
 unfold maxLen at hml hnl
 obtain⟨m,hm⟩:∃m,any.length=m:=⟨_,rfl⟩
 obtain⟨np,hnp⟩:∃np,ps.length=np:=⟨_,rfl⟩
 have hml1:(m:Int)≤9223372036854775807:=by omega
 have hnl1:(np:Int)≤9223372036854775807:=by omega
 have hX:=Box7.new w k (txt a) (txt v) (txt f) (txt l) A any.length c D ps.length dd 39
 have hb0:=below1 w (.cells #[.int .i64 k,.string (txt a),.string (txt v),.string (txt f),.string (txt l),.slice A any.length c,.slice D ps.length dd] 39)
 obtain⟨w1,hw1⟩:∃w1,(w.alloc (.cells #[.int .i64 k,.string (txt a),.string (txt v),.string (txt f),.string (txt l),.slice A any.length c,.slice D ps.length dd] 39))=w1:=⟨_,rfl⟩
 rw[hw1] at hX hb0
 have hF1:=hF0.grow hb0
 have hA1:=(hA.below hb0).upto hb0.size
 rw[hm,hnp] at hX hw1 hF1 ⊢
 rw[hm] at hA1
 have Hw1:=hide hw1
 obtain⟨t0,ht0⟩:∃t0,FT.mk k a v f l any ps=t0:=⟨_,rfl⟩
 rw[ht0] at hF1 ⊢
 obtain⟨R,hR⟩:∃R:Nat,min t0.nodes M=R:=⟨_,rfl⟩
 rw[hR]
 have hRd:R=min (FT.nodesL ps+1) M:=by rw[←hR,←ht0,FT.nodes]
 have HR:=hide hRd
 have HD:=hide hD
 have HP:=hide hP
 have Hih:=hide ih
 have Hnp:=hide hnp
 clear ih hA hD hP hm hnp hml hnl hR hRd ht0 hF0 hF1 hA1 hw1
 generalize txt a=sa at *
 generalize txt v=sv at *
 generalize txt f=sf at *
 generalize txt l=sl at *
 obtain⟨_,c0,c1,c2,c3,c4,c5,c6⟩:=hX
 go_enter Tryz.func96,Tryz.ntmps96
 go_upto_region 1 with fail
 rw[Hw1.out]
 clear Hw1
 go_wp2
 go_loopg [5,11] np (fun r s5 s11 wx=>∃(j q:Nat),j+r=np∧s11=.int .i64 (j:Int)∧s5=.int .i64 (q:Int)∧1≤q∧q≤M∧Hid (q=min (FT.nodesL (ps.take j)+1) M)∧Hid (Below w.heap.size w wx))
 case atStart=>exact⟨0,1,by omega,rfl,rfl,by omega,hM0,hide (by simp[FT.nodesL];omega),hide hb0⟩
 case round=>
  obtain⟨j,q,hjg,rfl,rfl,hq1,hqM,hpre,hbr⟩:=hrel
  have hb2:=hbr.out
  clear c0 c1 c2 c3 c4 c5 c6 hb0
  cases gk with
  | zero=>
   obtain rfl:j=np:=by omega
   have hjz:¬((j:Int)<(j:Int)):=by omega
   have hq:Hid (q=R):=hide (by
    rw[hpre.out,List.take_of_length_le (by rw[Hnp.out];exact Nat.le_refl _),←HR.out])
   clear HD HP Hih Hnp hpre HR
   go_wp2
   go_ret
   exact⟨by rw[←hq.out];try rfl,hb2⟩
  | succ r=>
   have hj:j<np:=by omega
   have hjz:(j:Int)<(np:Int):=by omega
   obtain⟨p,hp⟩:∃p,ps[j]?=some p:=⟨_,List.getElem?_eq_getElem (by rw[Hnp.out];exact hj)⟩
   have HD1:=HD.out
   have HP1:=HP.out
   obtain⟨g,o,hDe,hg,hparts⟩:=HD.out.part HP1 (fun h=>by rw[h] at hp;simp at hp)
   subst hDe
   obtain⟨u0,u1,u2,u3,u4,u5,u6,hpart⟩:=hparts j p hp
   obtain⟨pk,pa,pv,pf,pl,pA,pm,pc,pD,pn,pd,rfl,rfl,rfl,rfl,rfl,rfl,rfl⟩:=hpart.fin.shape
   obtain⟨hcp2,_,x0,x1,x2,x3,x4,x5,x6⟩:=hpart.below hb2
   replace hcp2:=hcp2.upto hb2.size
   have hPX:=Box7.new wr pk pa pv pf pl pA pm pc pD pn pd 39
   have hbp:=below1 wr (.cells #[.int .i64 pk,.string pa,.string pv,.string pf,.string pl,.slice pA pm pc,.slice pD pn pd] 39)
   obtain⟨wp,hwp⟩:∃wp,wr.alloc (.cells #[.int .i64 pk,.string pa,.string pv,.string pf,.string pl,.slice pA pm pc,.slice pD pn pd] 39)=wp:=⟨_,rfl⟩
   rw[hwp] at hPX hbp
   have hcp3:=hcp2.grow hbp
   have hb5:=hb2.trans (hbp.mono hb2.size)
   obtain⟨_,p0,p1,p2,p3,p4,p5,p6⟩:=hPX
   by_cases hqn:q=M
   ·have zq:((q:Int)==(M:Int))=true:=by rw[hqn];simp
    have hq:Hid (q=R):=hide (by
     have h1:=FT.nodesL_mono ps j
     have h2:=HR.out
     have h3:=hpre.out
     omega)
    clear HD HP Hih Hnp hpre HR hp HD1 HP1 hparts hpart hcp2 hcp3
    go_wp2
    go_ret
    exact⟨by rw[←hq.out];try rfl,hb5⟩
   ·have zq:((q:Int)==(M:Int))=false:=beq_false_of_ne (by omega)
    have hcall:=Hih.out p (List.mem_of_getElem? hp) (M-q) (by omega) (by omega) wp _ _ _ _ _ _ _ hcp3
    have hMq:((M-q:Nat):Int)=(M:Int)-(q:Int):=by omega
    obtain⟨y,hy⟩:∃y,min p.nodes (M-q)=y:=⟨_,rfl⟩
    have hyM:y≤M-q:=by omega
    have hst:Hid (q+y=min (FT.nodesL (ps.take (j+1))+1) M):=hide (by
     have h1:=FT.nodesL_take hp
     have h3:=hpre.out
     omega)
    rw[hy,hMq] at hcall
    have Hwp:=hide hwp
    have hqy:(q:Int)+(y:Int)≤41:=by omega
    clear HD HP Hih Hnp hpre HR hp HD1 HP1 hparts hpart hcp2 hcp3 hy hMq hwp
    go_wp2_with (go_at_call 96;fail)
    rw[Hwp.out]
    refine hcall.mono ?_
    rintro e w3 ⟨rfl,hb3⟩
    have hb4:=hide (hb5.trans (hb3.mono hb5.size))
    clear hcall hb3 hbr hb2 hb5 hbp x0 x1 x2 x3 x4 x5 x6 p0 p1 p2 p3 p4 p5 p6
    go_wp2
    go_roundg r
    case measure=>omega
    case rel=>exact⟨j+1,q+y,by omega,by go_num,by go_num,by omega,by omega,hst,hb4⟩
theorem jnodes_any (t:FT) (w:World) (u0 u1 u2 u3 u4 u5 u6:Value) (hF:FIn w w.heap.size t [u0,u1,u2,u3,u4,u5,u6]):
  Calls Tryz.prog 58 #[.agg #[u0,u1,u2,u3,u4,u5,u6]] w fun e w'=>e=.returned (.int .i64 ((min t.nodes 41:Nat):Int))∧Below w.heap.size w w':=by
 cases t with
 | mk k a v f l any ps=>
 have hF0:=hF
 simp only[FIn] at hF
 obtain⟨A,c,D,dd,xs,hcs,⟨hml,hnl⟩,hA,hD,hP⟩:=hF
 cases hcs
 unfold maxLen at hml hnl
 obtain⟨m,hm⟩:∃m,any.length=m:=⟨_,rfl⟩
 obtain⟨np,hnp⟩:∃np,ps.length=np:=⟨_,rfl⟩
 have hml1:(m:Int)≤9223372036854775807:=by omega
 have hnl1:(np:Int)≤9223372036854775807:=by omega
 have hX:=Box7.new w k (txt a) (txt v) (txt f) (txt l) A any.length c D ps.length dd 39
 have hb0:=below1 w (.cells #[.int .i64 k,.string (txt a),.string (txt v),.string (txt f),.string (txt l),.slice A any.length c,.slice D ps.length dd] 39)
 obtain⟨w1,hw1⟩:∃w1,(w.alloc (.cells #[.int .i64 k,.string (txt a),.string (txt v),.string (txt f),.string (txt l),.slice A any.length c,.slice D ps.length dd] 39))=w1:=⟨_,rfl⟩
 rw[hw1] at hX hb0
 have hF1:=hF0.grow hb0
 have hA1:=(hA.below hb0).upto hb0.size
 rw[hm,hnp] at hX hw1 hF1 ⊢
 rw[hm] at hA1
 have Hw1:=hide hw1
 obtain⟨t0,ht0⟩:∃t0,FT.mk k a v f l any ps=t0:=⟨_,rfl⟩
 rw[ht0] at hF1 ⊢
 have hcall:=jcount_any t0 41 (by omega) (by omega) w1 _ _ _ _ _ _ _ hF1
 obtain⟨R,hR⟩:∃R:Nat,min t0.nodes 41=R:=⟨_,rfl⟩
 rw[hR] at hcall ⊢
 clear hA hD hP hm hnp hml hnl hR ht0 hF0 hF1 hA1 hw1
 generalize txt a=sa at *
 generalize txt v=sv at *
 generalize txt f=sf at *
 generalize txt l=sl at *
 obtain⟨_,c0,c1,c2,c3,c4,c5,c6⟩:=hX
 go_enter Tryz.func58,Tryz.ntmps58
 go_upto_region 1 with fail
 rw[Hw1.out]
 clear Hw1
 go_wp2_with (go_at_call 96;fail)
 refine hcall.mono ?_
 rintro e w2 ⟨rfl,hb2⟩
 have hb3:=hb0.trans (hb2.mono hb0.size)
 clear hcall hb2 hb0 c0 c1 c2 c3 c4 c5 c6
 go_wp2
 go_ret
 exact⟨rfl,hb3⟩
theorem jformed_any (t:FT):∀(d:Nat),d≤20→∀(w:World) (u0 u1 u2 u3 u4 u5 u6:Value),FIn w w.heap.size t [u0,u1,u2,u3,u4,u5,u6]→
  Calls Tryz.prog 59 #[.agg #[u0,u1,u2,u3,u4,u5,u6],.int .i64 (d:Int)] w fun e w'=>e=.returned (.bool (t.nest d))∧Below w.heap.size w w':=by
 induction t using FT.induct
 rename_i k a v f l any ps ih
 intro d hd w u0 u1 u2 u3 u4 u5 u6 hF
 have hF0:=hF
 simp only[FIn] at hF
 obtain⟨A,c,D,dd,xs,hcs,⟨hml,hnl⟩,hA,hD,hP⟩:=hF
 cases hcs
 unfold maxLen at hml hnl
 obtain⟨m,hm⟩:∃m,any.length=m:=⟨_,rfl⟩
 obtain⟨np,hnp⟩:∃np,ps.length=np:=⟨_,rfl⟩
 have hml1:(m:Int)≤9223372036854775807:=by omega
 have hnl1:(np:Int)≤9223372036854775807:=by omega
 have hX:=Box7.new w k (txt a) (txt v) (txt f) (txt l) A any.length c D ps.length dd 39
 have hb0:=below1 w (.cells #[.int .i64 k,.string (txt a),.string (txt v),.string (txt f),.string (txt l),.slice A any.length c,.slice D ps.length dd] 39)
 obtain⟨w1,hw1⟩:∃w1,(w.alloc (.cells #[.int .i64 k,.string (txt a),.string (txt v),.string (txt f),.string (txt l),.slice A any.length c,.slice D ps.length dd] 39))=w1:=⟨_,rfl⟩
 rw[hw1] at hX hb0
 have hF1:=hF0.grow hb0
 have hA1:=(hA.below hb0).upto hb0.size
 rw[hm,hnp] at hX hw1 hF1 ⊢
 rw[hm] at hA1
 have Hw1:=hide hw1
 obtain⟨t0,ht0⟩:∃t0,FT.mk k a v f l any ps=t0:=⟨_,rfl⟩
 rw[ht0] at hF1 ⊢
 obtain⟨R,hR⟩:∃R:Bool,t0.nest d=R:=⟨_,rfl⟩
 rw[hR]
 have hAl:=jalone_any t0 w1 _ _ _ _ _ _ _ hF1
 obtain⟨bt,hbt⟩:∃bt:Bool,t0.bare=bt:=⟨_,rfl⟩
 rw[hbt] at hAl
 have hR0:d=0→R=false:=fun h=>by rw[←hR,h,FT.nest_zero]
 have hR1:∀d',d=d'+1→R=(bt&&ps.all (fun p=>p.nest d')):=fun d' h=>by rw[←hR,h,←ht0,FT.nest_succ,ht0,hbt]
 have HR0:=hide hR0
 have HR1:=hide hR1
 have HD:=hide hD
 have HP:=hide hP
 have Hih:=hide ih
 have Hnp:=hide hnp
 have HX:=hide hX
 clear ih hA hD hP hm hnp hml hnl hR hR0 hR1 hbt ht0 hF0 hF1 hA1 hw1
 generalize txt a=sa at *
 generalize txt v=sv at *
 generalize txt f=sf at *
 generalize txt l=sl at *
 obtain⟨_,c0,c1,c2,c3,c4,c5,c6⟩:=hX
 cases d with
 | zero=>
  have hr:=hide (HR0.out rfl)
  clear HR0 HR1 HD HP Hih Hnp HX hAl
  go_enter Tryz.func59,Tryz.ntmps59
  go_upto_region 1 with fail
  rw[Hw1.out]
  go_wp2
  go_ret
  exact⟨by rw[hr.out];rfl,hb0⟩
 | succ d=>
  have z0:(((d+1:Nat):Int)==0)=false:=beq_false_of_ne (by omega)
  have hr:=hide (HR1.out d rfl)
  obtain⟨y0,hy0⟩:∃y0:Int,((d+1:Nat):Int)=y0:=⟨_,rfl⟩
  have hy1:1≤y0:=by omega
  have hy2:y0≤20:=by omega
  have HY:Hid ((d:Int)=y0-1):=hide (by omega)
  have hd1:d≤20:=by omega
  rw[hy0] at z0 ⊢
  clear hy0 HR0 HR1 hd
  go_enter Tryz.func59,Tryz.ntmps59
  go_upto_region 1 with fail
  rw[Hw1.out]
  clear Hw1
  go_wp2_with (go_at_call 97;fail)
  refine hAl.mono ?_
  rintro e w2 ⟨rfl,hb2⟩
  have hX2:=HX.out.below HX.out.lt hb2
  have hb3:=hb0.trans (hb2.mono hb0.size)
  clear hAl hb2 HX hb0 c0 c1 c2 c3 c4 c5 c6
  obtain⟨_,c0,c1,c2,c3,c4,c5,c6⟩:=hX2
  cases bt with
  | false=>
   clear HD HP Hih Hnp
   go_wp2
   go_ret
   exact⟨by rw[hr.out];rfl,hb3⟩
  | true=>
   go_wp2
   go_loopg [17] np (fun r s17 wx=>∃j:Nat,j+r=np∧s17=.int .i64 (j:Int)∧Hid (∀p∈ps.take j,p.nest d=true)∧Hid (Below w.heap.size w wx))
   case atStart=>exact⟨0,by omega,rfl,hide (fun x hx=>by simp at hx),hide hb3⟩
   case round=>
    obtain⟨j,hjg,rfl,hpre,hbr⟩:=hrel
    have hb2:=hbr.out
    clear hb3 c0 c1 c2 c3 c4 c5 c6
    cases gk with
    | zero=>
     obtain rfl:j=np:=by omega
     have hjz:¬((j:Int)<(j:Int)):=by omega
     have hq:Hid (R=true):=hide (by
      rw[hr.out]
      have:=hpre.out
      rw[List.take_of_length_le (by rw[Hnp.out];exact Nat.le_refl _)] at this
      rw[List.all_eq_true.2 this];rfl)
     clear HD HP Hih Hnp hpre hr
     go_wp2
     go_ret
     exact⟨by rw[hq.out];rfl,hb2⟩
    | succ r=>
     have hj:j<np:=by omega
     have hjz:(j:Int)<(np:Int):=by omega
     obtain⟨p,hp⟩:∃p,ps[j]?=some p:=⟨_,List.getElem?_eq_getElem (by rw[Hnp.out];exact hj)⟩
     have HD1:=HD.out
     have HP1:=HP.out
     obtain⟨g,o,hDe,hg,hparts⟩:=HD.out.part HP1 (fun h=>by rw[h] at hp;simp at hp)
     subst hDe
     obtain⟨u0,u1,u2,u3,u4,u5,u6,hpart⟩:=hparts j p hp
     obtain⟨pk,pa,pv,pf,pl,pA,pm,pc,pD,pn,pd,rfl,rfl,rfl,rfl,rfl,rfl,rfl⟩:=hpart.fin.shape
     obtain⟨hcp2,_,x0,x1,x2,x3,x4,x5,x6⟩:=hpart.below hb2
     replace hcp2:=hcp2.upto hb2.size
     have hPX:=Box7.new wr pk pa pv pf pl pA pm pc pD pn pd 39
     have hbp:=below1 wr (.cells #[.int .i64 pk,.string pa,.string pv,.string pf,.string pl,.slice pA pm pc,.slice pD pn pd] 39)
     obtain⟨wp,hwp⟩:∃wp,wr.alloc (.cells #[.int .i64 pk,.string pa,.string pv,.string pf,.string pl,.slice pA pm pc,.slice pD pn pd] 39)=wp:=⟨_,rfl⟩
     rw[hwp] at hPX hbp
     have hcp3:=hcp2.grow hbp
     have hb5:=hb2.trans (hbp.mono hb2.size)
     obtain⟨_,p0,p1,p2,p3,p4,p5,p6⟩:=hPX
     have hcall:=Hih.out p (List.mem_of_getElem? hp) d hd1 wp _ _ _ _ _ _ _ hcp3
     rw[HY.out] at hcall
     have Hwp:=hide hwp
     cases hpa:p.nest d with
     | false=>
      have hq:Hid (R=false):=hide (by
       rw[hr.out]
       have:ps.all (fun p=>p.nest d)=false:=by rw[List.all_eq_false];exact⟨p,List.mem_of_getElem? hp,by rw[hpa];exact Bool.false_ne_true⟩
       rw[this];rfl)
      rw[hpa] at hcall
      clear HD HP Hih Hnp hpre hr hp HD1 HP1 hparts hpart hcp2 hcp3 hpa hwp
      go_wp2_with (go_at_call 59;fail)
      rw[Hwp.out]
      refine hcall.mono ?_
      rintro e w3 ⟨rfl,hb3⟩
      have hb4:=hb5.trans (hb3.mono hb5.size)
      clear hcall hb3 hbr hb2 hb5 hbp x0 x1 x2 x3 x4 x5 x6 p0 p1 p2 p3 p4 p5 p6
      go_wp2
      go_ret
      exact⟨by rw[hq.out];rfl,hb4⟩
     | true=>
      have hst:Hid (∀y∈ps.take (j+1),y.nest d=true):=hide (fun y hy=>by
       rw[List.take_add_one,hp] at hy
       simp only[Option.toList_some,List.mem_append,List.mem_singleton] at hy
       rcases hy with hy | rfl
       ·exact hpre.out y hy
       ·exact hpa)
      rw[hpa] at hcall
      clear HD HP Hih Hnp hpre hr hp HD1 HP1 hparts hpart hcp2 hcp3 hpa hwp
      go_wp2_with (go_at_call 59;fail)
      rw[Hwp.out]
      refine hcall.mono ?_
      rintro e w3 ⟨rfl,hb3⟩
      have hb4:=hide (hb5.trans (hb3.mono hb5.size))
      clear hcall hb3 hbr hb2 hb5 hbp x0 x1 x2 x3 x4 x5 x6 p0 p1 p2 p3 p4 p5 p6
      go_wp2
      go_roundg r
      case measure=>omega
      case rel=>exact⟨j+1,by omega,by go_num,hst,hb4⟩
theorem jFormed_any (t:FT) (w:World) (u0 u1 u2 u3 u4 u5 u6:Value) (hF:FIn w w.heap.size t [u0,u1,u2,u3,u4,u5,u6]):
  Calls Tryz.prog 21 #[.agg #[u0,u1,u2,u3,u4,u5,u6]] w fun e w'=>e=.returned (.bool t.formed)∧Below w.heap.size w w':=by
 cases t with
 | mk k a v f l any ps=>
 have hF0:=hF
 simp only[FIn] at hF
 obtain⟨A,c,D,dd,xs,hcs,⟨hml,hnl⟩,hA,hD,hP⟩:=hF
 cases hcs
 unfold maxLen at hml hnl
 obtain⟨m,hm⟩:∃m,any.length=m:=⟨_,rfl⟩
 obtain⟨np,hnp⟩:∃np,ps.length=np:=⟨_,rfl⟩
 have hml1:(m:Int)≤9223372036854775807:=by omega
 have hnl1:(np:Int)≤9223372036854775807:=by omega
 have hX:=Box7.new w k (txt a) (txt v) (txt f) (txt l) A any.length c D ps.length dd 39
 have hb0:=below1 w (.cells #[.int .i64 k,.string (txt a),.string (txt v),.string (txt f),.string (txt l),.slice A any.length c,.slice D ps.length dd] 39)
 obtain⟨w1,hw1⟩:∃w1,(w.alloc (.cells #[.int .i64 k,.string (txt a),.string (txt v),.string (txt f),.string (txt l),.slice A any.length c,.slice D ps.length dd] 39))=w1:=⟨_,rfl⟩
 rw[hw1] at hX hb0
 have hF1:=hF0.grow hb0
 have hA1:=(hA.below hb0).upto hb0.size
 rw[hm,hnp] at hX hw1 hF1 ⊢
 rw[hm] at hA1
 have Hw1:=hide hw1
 obtain⟨t0,ht0⟩:∃t0,FT.mk k a v f l any ps=t0:=⟨_,rfl⟩
 rw[ht0] at hF1 ⊢
 have hN:=jnodes_any t0 w1 _ _ _ _ _ _ _ hF1
 have hFo:=fun w2 (hb:Below w1.heap.size w1 w2)=>jformed_any t0 20 (by omega) w2 _ _ _ _ _ _ _ (hF1.grow hb)
 obtain⟨y,hy⟩:∃y:Nat,min t0.nodes 41=y:=⟨_,rfl⟩
 obtain⟨R,hR⟩:∃R,t0.formed=R:=⟨_,rfl⟩
 obtain⟨ne,hne⟩:∃ne,t0.nest 20=ne:=⟨_,rfl⟩
 have hRd:R=(decide (t0.nodes≤40)&&ne):=by rw[←hR,←hne,FT.formed_nest]
 rw[hy] at hN
 rw[hne] at hFo
 rw[hR]
 have HFo:=hide hFo
 have HX:=hide hX
 clear hA hD hP hm hnp hml hnl hR hne ht0 hF0 hF1 hA1 hw1 hFo
 generalize txt a=sa at *
 generalize txt v=sv at *
 generalize txt f=sf at *
 generalize txt l=sl at *
 obtain⟨_,c0,c1,c2,c3,c4,c5,c6⟩:=hX
 by_cases h1:t0.nodes≤40
 ·have z1:(y:Int)≤40:=by omega
  rw[decide_eq_true h1,Bool.true_and] at hRd
  have hr:=hide hRd
  clear hRd hy h1
  go_enter Tryz.func21,Tryz.ntmps21
  go_upto_region 1 with fail
  rw[Hw1.out]
  clear Hw1
  go_wp2_with (go_at_call 58;fail)
  refine hN.mono ?_
  rintro e w2 ⟨rfl,hb2⟩
  have hFo:=HFo.out w2 hb2
  have hX2:=HX.out.below HX.out.lt hb2
  have hb3:=hb0.trans (hb2.mono hb0.size)
  clear hN hb2 HX hb0 HFo c0 c1 c2 c3 c4 c5 c6
  obtain⟨_,c0,c1,c2,c3,c4,c5,c6⟩:=hX2
  go_wp2_with (go_at_call 59;fail)
  refine hFo.mono ?_
  rintro e w3 ⟨rfl,hb4⟩
  have hb5:=hb3.trans (hb4.mono hb3.size)
  clear hFo hb4 hb3 c0 c1 c2 c3 c4 c5 c6
  go_wp2
  go_ret
  exact⟨by rw[hr.out];try rfl,hb5⟩
 ·have z1:¬((y:Int)≤40):=by omega
  rw[decide_eq_false h1,Bool.false_and] at hRd
  have hr:=hide hRd
  clear hRd hy h1 HFo HX
  go_enter Tryz.func21,Tryz.ntmps21
  go_upto_region 1 with fail
  rw[Hw1.out]
  clear Hw1
  go_wp2_with (go_at_call 58;fail)
  refine hN.mono ?_
  rintro e w2 ⟨rfl,hb2⟩
  have hb3:=hb0.trans (hb2.mono hb0.size)
  clear hN hb2 hb0 c0 c1 c2 c3 c4 c5 c6
  go_wp2
  go_ret
  exact⟨by rw[hr.out];rfl,hb3⟩
end Go.Proofs.YtcpjmgfloimfhaaGreat
namespace Go.Proofs.YtcpjmgfloimfhaaGreat
open Go.RowKit
set_option linter.unusedVariables false
theorem filter_zero (F:List Fd):Rd.filterR 0 F=none:=rfl
theorem filter_nil (d:Nat):Rd.filterR d []=none:=by cases d<;>rfl
theorem filter_has (d:Nat) (c:List UInt8) (r:List Fd):Rd.filterR (d+1) ((135,c)::r)=(Rd.taggedR 135 ((135,c)::r)).map fun p=>(FT.mk 7 p.1 [] [] [] [] [],p.2):=by
 rw[Rd.filterR];simp only[if_true]
theorem rep_plain {w:World} {P:Nat→Prop} {k:Int} {a v f l:List UInt8}:repE elF w P (.mk k a v f l [] []) (.agg #[.int .i64 k,.string (txt a),.string (txt v),.string (txt f),.string (txt l),.slice none 0 0,.slice none 0 0]):=
 ⟨_,rfl,⟨none,0,none,0,[],rfl,⟨by unfold maxLen;simp,by unfold maxLen;simp⟩,HasP.none _,HasP.none _,rfl⟩⟩
theorem filter_any (d:Nat) (hd:d≤20):FiltP d:=by
 induction d with
 | zero=>
  intro w lo g b F φ h
  rw[show (((0:Nat):Int))=0 from rfl]
  have hgl:=h.log
  have hlt:=h.lt
  have hbk:=h.back
  have hblo:=h.blo
  have hfa:Fr (fun _=>False) w (w.alloc (.cells #[.int .i64 0] 3)):=Fr.alloc _ _ _
  have hcd:(w.alloc (.cells #[.int .i64 0] 3)).cell? ⟨w.heap.size,0,none⟩=some (.int .i64 0):=by rw[World.cell?_alloc_at (hn:=by simp)];rfl
  obtain⟨w1,hw1⟩:∃w1,w.alloc (.cells #[.int .i64 0] 3)=w1:=⟨_,rfl⟩
  have hs1:w1.heap.size=w.heap.size+1:=by rw[←hw1];simp
  rw[hw1] at hfa hcd
  have hfb:Fr (fun _=>False) w1 (w1.alloc (.cells #[.int .i64 0,.string ⟨#[]⟩,.string ⟨#[]⟩,.string ⟨#[]⟩,.string ⟨#[]⟩,.slice none 0 0,.slice none 0 0] 39)):=Fr.alloc _ _ _
  have hB2:Blk (w1.alloc (.cells #[.int .i64 0,.string ⟨#[]⟩,.string ⟨#[]⟩,.string ⟨#[]⟩,.string ⟨#[]⟩,.slice none 0 0,.slice none 0 0] 39)) w1.heap.size [.int .i64 0,.string ⟨#[]⟩,.string ⟨#[]⟩,.string ⟨#[]⟩,.string ⟨#[]⟩,.slice none 0 0,.slice none 0 0]:=Blk.new w1 [.int .i64 0,.string ⟨#[]⟩,.string ⟨#[]⟩,.string ⟨#[]⟩,.string ⟨#[]⟩,.slice none 0 0,.slice none 0 0] 39
  obtain⟨w2,hw2⟩:∃w2,w1.alloc (.cells #[.int .i64 0,.string ⟨#[]⟩,.string ⟨#[]⟩,.string ⟨#[]⟩,.string ⟨#[]⟩,.slice none 0 0,.slice none 0 0] 39)=w2:=⟨_,rfl⟩
  have hs2:w2.heap.size=w.heap.size+2:=by rw[←hw2];simp[hs1]
  rw[hw2] at hfb hB2
  rw[hs1] at hB2
  have hcd2:=(hfb.cell (p:=⟨w.heap.size,0,none⟩) (by simp only;omega) id).trans hcd
  have HR2:=hide (h.fr (hfa.trans hfb) id id (fun _ _ _=>id))
  have HF2:=hide (hfa.trans hfb)
  obtain⟨db,hdb⟩:∃db,w.heap.size=db:=⟨_,rfl⟩
  obtain⟨rb,hrb⟩:∃rb,w.heap.size+1=rb:=⟨_,rfl⟩
  rw[hdb] at hcd2
  rw[hrb] at hB2
  have Hn:=hide (And.intro hdb (And.intro hrb (And.intro hs1 (And.intro hs2 (And.intro hgl (And.intro hlt (And.intro hbk hblo)))))))
  have HB2:=hide hB2
  have Hw:=hide (And.intro hw1 hw2)
  clear hfa hfb hcd h hgl hlt hbk hblo hw1 hw2 hs1 hs2 hdb hrb hB2
  have hfl:=fail_any w2 lo g b F φ HR2.out
  go_enter Tryz.func173,Tryz.ntmps173
  go_upto_region 2 with fail
  rw[Hw.out.1,Hw.out.2]
  try rw[Hn.out.2.2.1]
  rw[Hn.out.2.1,Hn.out.1]
  have H1:Hid (∀u∈([.int .i64 0,.string ⟨#[]⟩,.string ⟨#[]⟩,.string ⟨#[]⟩,.string ⟨#[]⟩,.slice none 0 0,.slice none 0 0]:List Value),u.oneCell'=true):=hide (by intro u hu;simp only[List.mem_cons,List.not_mem_nil,or_false] at hu;rcases hu with rfl | rfl | rfl | rfl | rfl | rfl | rfl<;>rfl)
  go_wp2_with (go_at_call 78;fail)
  refine hfl.mono ?_
  rintro e w3 ⟨rfl,hr3,hf3⟩
  have hB3:=HB2.out.fr hf3 (by rintro (q | q)<;>(have:=Hn.out;omega))
  have HR3:=hide hr3
  have HB3:=hide hB3
  have HF3:=hide (HF2.out.mono (Y:=own2 g b) fun _ _ q=>q.elim)
  have Hf3:=hide hf3
  clear hfl hr3 hB3 hf3
  have q0:=HB3.out.cells 0 _ rfl
  have q1:=HB3.out.cells 1 _ rfl
  have q2:=HB3.out.cells 2 _ rfl
  have q3:=HB3.out.cells 3 _ rfl
  have q4:=HB3.out.cells 4 _ rfl
  have q5:=HB3.out.cells 5 _ rfl
  have q6:=HB3.out.cells 6 _ rfl
  have qz:=HB3.out.fz
  go_wp2
  change bodyPost _ _ _ _ _ (w3.setCells rb 0 [.int .i64 0,.string ⟨#[]⟩,.string ⟨#[]⟩,.string ⟨#[]⟩,.string ⟨#[]⟩,.slice none 0 0,.slice none 0 0])
  clear q0 q1 q2 q3 q4 q5 q6 qz
  have hBz:=HB3.out.sets 0 [.int .i64 0,.string ⟨#[]⟩,.string ⟨#[]⟩,.string ⟨#[]⟩,.string ⟨#[]⟩,.slice none 0 0,.slice none 0 0] (by simp) [.int .i64 0,.string ⟨#[]⟩,.string ⟨#[]⟩,.string ⟨#[]⟩,.string ⟨#[]⟩,.slice none 0 0,.slice none 0 0] (by simp)
  have hfz:Fr (fun k=>k=rb) w3 (w3.setCells rb 0 [.int .i64 0,.string ⟨#[]⟩,.string ⟨#[]⟩,.string ⟨#[]⟩,.string ⟨#[]⟩,.slice none 0 0,.slice none 0 0]):=Fr.setCells w3 rb 0 [.int .i64 0,.string ⟨#[]⟩,.string ⟨#[]⟩,.string ⟨#[]⟩,.string ⟨#[]⟩,.slice none 0 0,.slice none 0 0] rfl
  have HBz:=hide hBz
  have Hfz:=hide hfz
  clear hBz hfz
  generalize w3.setCells rb 0 [.int .i64 0,.string ⟨#[]⟩,.string ⟨#[]⟩,.string ⟨#[]⟩,.string ⟨#[]⟩,.slice none 0 0,.slice none 0 0]=wz at *
  refine bodyPost_ret (v:=.agg #[.int .i64 0,.string ⟨#[]⟩,.string ⟨#[]⟩,.string ⟨#[]⟩,.string ⟨#[]⟩,.slice none 0 0,.slice none 0 0]) ?_ rfl ?_
  ·exact results_cell1 rfl _ wz rb [.int .i64 0,.string ⟨#[]⟩,.string ⟨#[]⟩,.string ⟨#[]⟩,.string ⟨#[]⟩,.slice none 0 0,.slice none 0 0] _ rfl HBz.out.range Tryz.underlying39 rfl (by kernel_rfl)
  ·refine ⟨⟨.mk 0 [] [] [] [] [] [],_,F,rfl,rep_plain,?_,(HF3.out.trans Hf3.out).trans' Hfz.out (fun k hk q=>by have:=Hn.out;omega),?_⟩⟩
   ·have hrz:=HR3.out.fr Hfz.out (by have:=Hn.out;omega) (by have:=Hn.out;omega) (fun k h1 h2=>by have:=Hn.out;omega)
    rw[show (φ||(Rd.filterR 0 F).isNone)=true from by rw[filter_zero];simp]
    exact hrz
   ·intro h0 x0 F0 hh
    rw[filter_zero] at hh;cases hh
 | succ d ih=>
  intro w lo g b F φ h
  have hP:=ih (by omega)
  rw[show (((d+1:Nat):Int))=(d:Int)+1 by omega]
  have hgl:=h.log
  have hlt:=h.lt
  have hbk:=h.back
  have hblo:=h.blo
  have hfa:Fr (fun _=>False) w (w.alloc (.cells #[.int .i64 ((d:Int)+1)] 3)):=Fr.alloc _ _ _
  have hcd:(w.alloc (.cells #[.int .i64 ((d:Int)+1)] 3)).cell? ⟨w.heap.size,0,none⟩=some (.int .i64 ((d:Int)+1)):=by rw[World.cell?_alloc_at (hn:=by simp)];rfl
  obtain⟨w1,hw1⟩:∃w1,w.alloc (.cells #[.int .i64 ((d:Int)+1)] 3)=w1:=⟨_,rfl⟩
  have hs1:w1.heap.size=w.heap.size+1:=by rw[←hw1];simp
  rw[hw1] at hfa hcd
  have hfb:Fr (fun _=>False) w1 (w1.alloc (.cells #[.int .i64 0,.string ⟨#[]⟩,.string ⟨#[]⟩,.string ⟨#[]⟩,.string ⟨#[]⟩,.slice none 0 0,.slice none 0 0] 39)):=Fr.alloc _ _ _
  have hB2:Blk (w1.alloc (.cells #[.int .i64 0,.string ⟨#[]⟩,.string ⟨#[]⟩,.string ⟨#[]⟩,.string ⟨#[]⟩,.slice none 0 0,.slice none 0 0] 39)) w1.heap.size [.int .i64 0,.string ⟨#[]⟩,.string ⟨#[]⟩,.string ⟨#[]⟩,.string ⟨#[]⟩,.slice none 0 0,.slice none 0 0]:=Blk.new w1 [.int .i64 0,.string ⟨#[]⟩,.string ⟨#[]⟩,.string ⟨#[]⟩,.string ⟨#[]⟩,.slice none 0 0,.slice none 0 0] 39
  obtain⟨w2,hw2⟩:∃w2,w1.alloc (.cells #[.int .i64 0,.string ⟨#[]⟩,.string ⟨#[]⟩,.string ⟨#[]⟩,.string ⟨#[]⟩,.slice none 0 0,.slice none 0 0] 39)=w2:=⟨_,rfl⟩
  have hs2:w2.heap.size=w.heap.size+2:=by rw[←hw2];simp[hs1]
  rw[hw2] at hfb hB2
  rw[hs1] at hB2
  have hcd2:=(hfb.cell (p:=⟨w.heap.size,0,none⟩) (by simp only;omega) id).trans hcd
  have HR2:=hide (h.fr (hfa.trans hfb) id id (fun _ _ _=>id))
  have HF2:=hide (hfa.trans hfb)
  obtain⟨db,hdb⟩:∃db,w.heap.size=db:=⟨_,rfl⟩
  obtain⟨rb,hrb⟩:∃rb,w.heap.size+1=rb:=⟨_,rfl⟩
  rw[hdb] at hcd2
  rw[hrb] at hB2
  have Hn:=hide (And.intro hdb (And.intro hrb (And.intro hs1 (And.intro hs2 (And.intro hgl (And.intro hlt (And.intro hbk hblo)))))))
  have HB2:=hide hB2
  have Hw:=hide (And.intro hw1 hw2)
  clear hfa hfb hcd h hgl hlt hbk hblo hw1 hw2 hs1 hs2 hdb hrb hB2
  have hdz:(((d:Int)+1)==0)=false:=beq_false_of_ne (by omega)
  have hmo:=more_any w2 lo g b F φ HR2.out
  have hfl:=fail_any w2 lo g b F φ HR2.out
  cases hmb:moreB F φ with
  | false=>
   rw[hmb] at hmo
   have hno:φ=true∨F=[]:=by
    cases φ with
    | true=>exact .inl rfl
    | false=>cases F with
     | nil=>exact .inr rfl
     | cons f r=>cases hmb
   have Hno:=hide hno
   clear hmb hno
   go_enter Tryz.func173,Tryz.ntmps173
   go_upto_region 1 with fail
   rw[Hw.out.1,Hw.out.2]
   try rw[Hn.out.2.2.1]
   rw[Hn.out.2.1,Hn.out.1]
   go_wp2_with (go_at_call 79;fail)
   refine hmo.mono ?_
   rintro e w9 ⟨rfl,hw9⟩
   obtain rfl:=hw9.symm
   clear hmo hdz
   have H1:Hid (∀u∈([.int .i64 0,.string ⟨#[]⟩,.string ⟨#[]⟩,.string ⟨#[]⟩,.string ⟨#[]⟩,.slice none 0 0,.slice none 0 0]:List Value),u.oneCell'=true):=hide (by intro u hu;simp only[List.mem_cons,List.not_mem_nil,or_false] at hu;rcases hu with rfl | rfl | rfl | rfl | rfl | rfl | rfl<;>rfl)
   go_wp2_with (go_at_call 78;fail)
   refine hfl.mono ?_
   rintro e w3 ⟨rfl,hr3,hf3⟩
   have hB3:=HB2.out.fr hf3 (by rintro (q | q)<;>(have:=Hn.out;omega))
   have HR3:=hide hr3
   have HB3:=hide hB3
   have HF3:=hide (HF2.out.mono (Y:=own2 g b) fun _ _ q=>q.elim)
   have Hf3:=hide hf3
   clear hfl hr3 hB3 hf3
   have q0:=HB3.out.cells 0 _ rfl
   have q1:=HB3.out.cells 1 _ rfl
   have q2:=HB3.out.cells 2 _ rfl
   have q3:=HB3.out.cells 3 _ rfl
   have q4:=HB3.out.cells 4 _ rfl
   have q5:=HB3.out.cells 5 _ rfl
   have q6:=HB3.out.cells 6 _ rfl
   have qz:=HB3.out.fz
   go_wp2
   change bodyPost _ _ _ _ _ (w3.setCells rb 0 [.int .i64 0,.string ⟨#[]⟩,.string ⟨#[]⟩,.string ⟨#[]⟩,.string ⟨#[]⟩,.slice none 0 0,.slice none 0 0])
   clear q0 q1 q2 q3 q4 q5 q6 qz
   have hBz:=HB3.out.sets 0 [.int .i64 0,.string ⟨#[]⟩,.string ⟨#[]⟩,.string ⟨#[]⟩,.string ⟨#[]⟩,.slice none 0 0,.slice none 0 0] (by simp) [.int .i64 0,.string ⟨#[]⟩,.string ⟨#[]⟩,.string ⟨#[]⟩,.string ⟨#[]⟩,.slice none 0 0,.slice none 0 0] (by simp)
   have hfz:Fr (fun k=>k=rb) w3 (w3.setCells rb 0 [.int .i64 0,.string ⟨#[]⟩,.string ⟨#[]⟩,.string ⟨#[]⟩,.string ⟨#[]⟩,.slice none 0 0,.slice none 0 0]):=Fr.setCells w3 rb 0 [.int .i64 0,.string ⟨#[]⟩,.string ⟨#[]⟩,.string ⟨#[]⟩,.string ⟨#[]⟩,.slice none 0 0,.slice none 0 0] rfl
   have HBz:=hide hBz
   have Hfz:=hide hfz
   clear hBz hfz
   generalize w3.setCells rb 0 [.int .i64 0,.string ⟨#[]⟩,.string ⟨#[]⟩,.string ⟨#[]⟩,.string ⟨#[]⟩,.slice none 0 0,.slice none 0 0]=wz at *
   refine bodyPost_ret (v:=.agg #[.int .i64 0,.string ⟨#[]⟩,.string ⟨#[]⟩,.string ⟨#[]⟩,.string ⟨#[]⟩,.slice none 0 0,.slice none 0 0]) ?_ rfl ?_
   ·exact results_cell1 rfl _ wz rb [.int .i64 0,.string ⟨#[]⟩,.string ⟨#[]⟩,.string ⟨#[]⟩,.string ⟨#[]⟩,.slice none 0 0,.slice none 0 0] _ rfl HBz.out.range Tryz.underlying39 rfl (by kernel_rfl)
   ·refine ⟨⟨.mk 0 [] [] [] [] [] [],_,F,rfl,rep_plain,?_,(HF3.out.trans Hf3.out).trans' Hfz.out (fun k hk q=>by have:=Hn.out;omega),?_⟩⟩
    ·have hrz:=HR3.out.fr Hfz.out (by have:=Hn.out;omega) (by have:=Hn.out;omega) (fun k h1 h2=>by have:=Hn.out;omega)
     rw[show (φ||(Rd.filterR (d+1) F).isNone)=true from by rcases Hno.out with h | h;(rw[h];rfl);(rw[h,filter_nil];simp)]
     exact hrz
    ·intro h0 x0 F0 hh
     rcases Hno.out with h | h;(rw[h] at h0;cases h0);(rw[h,filter_nil] at hh;cases hh)
  | true=>
   rw[hmb] at hmo
   obtain⟨rfl,hne⟩:φ=false∧F≠[]:=by
    cases φ with
    | true=>cases hmb
    | false=>exact⟨rfl,fun e=>by subst e;cases hmb⟩
   obtain⟨⟨t,c⟩,r,rfl⟩:=List.exists_cons_of_ne_nil hne
   clear hmb hne hfl
   obtain⟨gt,ot,ct,gc,oc,cc,Bc,dc,e0,e1,k1,k2,k3,k4,k5⟩:=HR2.out.hd
   obtain⟨n,hn⟩:∃n,r.length+1=n:=⟨_,rfl⟩
   rw[hn] at e0
   have z0:(0:Int)<(n:Int):=by omega
   have zn:0<n:=by omega
   simp only[c8] at k1
   clear e1 k2 k3 k4 k5 hn
   by_cases ht:t=135
   ·subst ht
    have htg:=tagged_any w2 lo g b ((135,c)::r) false 135 HR2.out
    rw[show c8 135=.int .u8 135 from rfl] at htg
    rw[show (((135:UInt8).toNat:Nat):Int)=135 from rfl] at k1
    go_enter Tryz.func173,Tryz.ntmps173
    go_upto_region 1 with fail
    rw[Hw.out.1,Hw.out.2]
    try rw[Hn.out.2.2.1]
    rw[Hn.out.2.1,Hn.out.1]
    go_wp2_with (go_at_call 79;fail)
    refine hmo.mono ?_
    rintro e w9 ⟨rfl,hw9⟩
    obtain rfl:=hw9.symm
    clear hmo hdz
    go_wp2_with (go_at_call 128;fail)
    refine htg.mono ?_
    rintro e w3 hpost
    obtain⟨x,v,F',rfl,hrep,hr3,hf3,hq⟩:=hpost.out
    unfold repT at hrep
    subst hrep
    clear hpost htg
    have hB3:=HB2.out.fr hf3 (by rintro (q | q)<;>(have:=Hn.out;omega))
    have HR3:=hide hr3
    have HB3:=hide hB3
    have HF3:=hide (HF2.out.mono (Y:=own2 g b) fun _ _ q=>q.elim)
    have Hf3:=hide hf3
    have Hq:=hide hq
    clear hr3 hB3 hf3 hq e0 k1 z0 zn
    have H1:Hid (∀u∈([.int .i64 7,.string (txt x),.string ⟨#[]⟩,.string ⟨#[]⟩,.string ⟨#[]⟩,.slice none 0 0,.slice none 0 0]:List Value),u.oneCell'=true):=hide (by intro u hu;simp only[List.mem_cons,List.not_mem_nil,or_false] at hu;rcases hu with rfl | rfl | rfl | rfl | rfl | rfl | rfl<;>rfl)
    have q0:=HB3.out.cells 0 _ rfl
    have q1:=HB3.out.cells 1 _ rfl
    have q2:=HB3.out.cells 2 _ rfl
    have q3:=HB3.out.cells 3 _ rfl
    have q4:=HB3.out.cells 4 _ rfl
    have q5:=HB3.out.cells 5 _ rfl
    have q6:=HB3.out.cells 6 _ rfl
    have qz:=HB3.out.fz
    go_wp2
    change bodyPost _ _ _ _ _ (w3.setCells rb 0 [.int .i64 7,.string (txt x),.string ⟨#[]⟩,.string ⟨#[]⟩,.string ⟨#[]⟩,.slice none 0 0,.slice none 0 0])
    clear q0 q1 q2 q3 q4 q5 q6 qz
    have hBz:=HB3.out.sets 0 [.int .i64 7,.string (txt x),.string ⟨#[]⟩,.string ⟨#[]⟩,.string ⟨#[]⟩,.slice none 0 0,.slice none 0 0] (by simp) [.int .i64 7,.string (txt x),.string ⟨#[]⟩,.string ⟨#[]⟩,.string ⟨#[]⟩,.slice none 0 0,.slice none 0 0] (by simp)
    have hfz:Fr (fun k=>k=rb) w3 (w3.setCells rb 0 [.int .i64 7,.string (txt x),.string ⟨#[]⟩,.string ⟨#[]⟩,.string ⟨#[]⟩,.slice none 0 0,.slice none 0 0]):=Fr.setCells w3 rb 0 [.int .i64 7,.string (txt x),.string ⟨#[]⟩,.string ⟨#[]⟩,.string ⟨#[]⟩,.slice none 0 0,.slice none 0 0] rfl
    have HBz:=hide hBz
    have Hfz:=hide hfz
    clear hBz hfz
    generalize w3.setCells rb 0 [.int .i64 7,.string (txt x),.string ⟨#[]⟩,.string ⟨#[]⟩,.string ⟨#[]⟩,.slice none 0 0,.slice none 0 0]=wz at *
    refine bodyPost_ret (v:=.agg #[.int .i64 7,.string (txt x),.string ⟨#[]⟩,.string ⟨#[]⟩,.string ⟨#[]⟩,.slice none 0 0,.slice none 0 0]) ?_ rfl ?_
    ·exact results_cell1 rfl _ wz rb [.int .i64 7,.string (txt x),.string ⟨#[]⟩,.string ⟨#[]⟩,.string ⟨#[]⟩,.slice none 0 0,.slice none 0 0] _ rfl HBz.out.range Tryz.underlying39 rfl (by kernel_rfl)
    ·have hfin:(false||(Rd.taggedR 135 ((135,c)::r)).isNone)=(false||(Rd.filterR (d+1) ((135,c)::r)).isNone)∧(false=false→∀x0 F0,Rd.filterR (d+1) ((135,c)::r)=some (x0,F0)→FT.mk 7 x [] [] [] [] []=x0∧F'=F0):=by
      rw[filter_has]
      cases hp:Rd.taggedR 135 ((135,c)::r) with
      | none=>exact⟨rfl,fun _ x0 F0 h0=>by cases h0⟩
      | some q=>
       obtain⟨y,G⟩:=q
       obtain⟨rfl,rfl⟩:=Hq.out (by first | rfl | trivial) _ _ hp
       exact⟨rfl,fun _ x0 F0 h0=>by simpa using h0⟩
     refine⟨⟨.mk 7 x [] [] [] [] [],_,F',rfl,rep_plain,?_,(HF3.out.trans Hf3.out).trans' Hfz.out (fun k hk q=>by have:=Hn.out;omega),hfin.2⟩⟩
     rw[←hfin.1]
     exact HR3.out.fr Hfz.out (by have:=Hn.out;omega) (by have:=Hn.out;omega) (fun k h1 h2=>by have:=Hn.out;omega)
   ·have hbody:=filter_body d t c r ht
    have htt:((t.toNat:Int)==135)=false:=beq_false_of_ne fun e=>ht (UInt8.toNat_inj.1 (by have:(135:UInt8).toNat=135:=rfl;omega))
    have hwr:IntKind.i64.wrap ((t.toNat:Int)-160)=(t.toNat:Int)-160:=IntWalk.i64_in _ (by have:=t.toNat_lt;omega)
    have hwr2:IntKind.i64.wrap (t.toNat:Int)=(t.toNat:Int):=IntWalk.i64_in _ (by have:=t.toNat_lt;omega)
    go_enter Tryz.func173,Tryz.ntmps173
    go_upto_region 1 with fail
    rw[Hw.out.1,Hw.out.2]
    try rw[Hn.out.2.2.1]
    rw[Hn.out.2.1,Hn.out.1]
    go_wp2_with (go_at_call 79;fail)
    refine hmo.mono ?_
    rintro e w9 ⟨rfl,hw9⟩
    obtain rfl:=hw9.symm
    clear hmo hdz
    have hfc:Fr (fun _=>False) w2 (w2.alloc (.cells #[.int .i64 ((t.toNat:Int)-160),.string ⟨#[]⟩,.string ⟨#[]⟩,.string ⟨#[]⟩,.string ⟨#[]⟩,.slice none 0 0,.slice none 0 0] 39)):=Fr.alloc _ _ _
    have hBf:Blk (w2.alloc (.cells #[.int .i64 ((t.toNat:Int)-160),.string ⟨#[]⟩,.string ⟨#[]⟩,.string ⟨#[]⟩,.string ⟨#[]⟩,.slice none 0 0,.slice none 0 0] 39)) w2.heap.size [.int .i64 ((t.toNat:Int)-160),.string ⟨#[]⟩,.string ⟨#[]⟩,.string ⟨#[]⟩,.string ⟨#[]⟩,.slice none 0 0,.slice none 0 0]:=Blk.new w2 [.int .i64 ((t.toNat:Int)-160),.string ⟨#[]⟩,.string ⟨#[]⟩,.string ⟨#[]⟩,.string ⟨#[]⟩,.slice none 0 0,.slice none 0 0] 39
    obtain⟨w3,hw3⟩:∃w3,w2.alloc (.cells #[.int .i64 ((t.toNat:Int)-160),.string ⟨#[]⟩,.string ⟨#[]⟩,.string ⟨#[]⟩,.string ⟨#[]⟩,.slice none 0 0,.slice none 0 0] 39)=w3:=⟨_,rfl⟩
    have hs3:w3.heap.size=w2.heap.size+1:=by rw[←hw3];simp
    rw[hw3] at hfc hBf
    obtain⟨fb,hfb⟩:∃fb,w2.heap.size=fb:=⟨_,rfl⟩
    rw[hfb] at hBf
    have hr3:=HR2.out.fr hfc id id (fun _ _ _=>id)
    have hcd3:=(hfc.cell (p:=⟨db,0,none⟩) (by simp only;have:=Hn.out;omega) id).trans hcd2
    have hB3:=HB2.out.fr hfc id
    have hin:=inner_any (fun y W=>StE elF fb (fb+1) y W) (fun k=>k=fb) (Rd.bodyR d ((t.toNat:Int)-160)) w3 lo g b ((t,c)::r) false t 182 #[.pointer (some ⟨fb,0,none⟩),.pointer (some ⟨db,0,none⟩)] (fun args w=>by go_simp) hr3
     (fun W hW=>filtC_all d (by omega) hP ((t.toNat:Int)-160) W b fb db (fb+1) (by omega) (by have:=hW.size;omega) (by have:=Hn.out;omega) (by have:=Hn.out;omega) (by have:=Hn.out;omega) (by have:=Hn.out;omega) (by have:=Hn.out;omega) (hBf.fr hW (by rintro (q | q)<;>(have:=Hn.out;omega))) ((hW.cell (p:=⟨db,0,none⟩) (by simp only;have:=Hn.out;omega) (by rintro (q | q)<;>(simp only at q;have:=Hn.out;omega))).trans hcd3))
     (fun y Wa Wb q1 q2=>StE.fr (x:=y) (W:=Wa) (W':=Wb) (X:=fun k=>k=b) q1 q2 (by have:=Hn.out;omega) (fun k hk=>by have:=Hn.out;omega)) (fun k hk=>by subst hk;have:=Hn.out;exact⟨by omega,by omega,by omega⟩)
    have Hbody:=hide hbody
    simp only[c8] at hin
    have Hin:=hide hin
    have Hw3:=hide hw3
    have HB3:=hide hB3
    have Hfb:=hide (And.intro hfb hs3)
    have Hf3:=hide hfc
    clear hin hw3 hB3 hfb hs3 hfc hr3 hcd3 hBf hP ih hbody hcd2
    go_upto_region 8 with fail
    rw[Hw3.out]
    try rw[Hfb.out.1]
    go_wp2_with (go_at_call 28;fail)
    refine Hin.out.mono ?_
    rintro e w4 hpost
    obtain⟨y,F',rfl,hst,hr4,hf4,hq⟩:=hpost.out
    obtain⟨cs,hrep,hB4⟩:=hst.out
    have hrep2:=hrep
    have hrep3:=hrep
    have hl7:=FInP.len hrep
    have hfin4:=FInP.fin (B:=w4.heap.size) (fun k hk=>hk.2) hrep2
    obtain⟨y0,y1,y2,y3,y4,y5,y6,rfl⟩:=seven hl7
    obtain⟨yk,ya,yv,yf,yl,yA,ym,yc,yD,yn,yd,rfl,rfl,rfl,rfl,rfl,rfl,rfl⟩:=hfin4.shape
    have hB4r:=HB3.out.fr hf4 (by rintro (q | q | q)<;>(have:=Hn.out;have:=Hfb.out;omega))
    have HE:=hide hrep
    have HR4:=hide hr4
    have HQ:=hide hq
    have HB4r:=hide hB4r
    have HF4:Hid (Fr (own2 g b) w w4):=hide (((HF2.out.trans Hf3.out).mono (Y:=own2 g b) fun _ _ q=>q.elim).trans' hf4 fun k hk q=>by rcases q with q | q | q;exact .inl q;exact .inr q;(have:=Hn.out;have:=Hfb.out;omega))
    have p0:=hB4.cells 0 _ rfl
    have p1:=hB4.cells 1 _ rfl
    have p2:=hB4.cells 2 _ rfl
    have p3:=hB4.cells 3 _ rfl
    have p4:=hB4.cells 4 _ rfl
    have p5:=hB4.cells 5 _ rfl
    have p6:=hB4.cells 6 _ rfl
    have q0:=HB4r.out.cells 0 _ rfl
    have q1:=HB4r.out.cells 1 _ rfl
    have q2:=HB4r.out.cells 2 _ rfl
    have q3:=HB4r.out.cells 3 _ rfl
    have q4:=HB4r.out.cells 4 _ rfl
    have q5:=HB4r.out.cells 5 _ rfl
    have q6:=HB4r.out.cells 6 _ rfl
    have qz:=HB4r.out.fz
    clear hpost hst hr4 hf4 hq hB4 hB4r hrep hrep2 hrep3 hl7 hfin4 Hin Hw3 HB3 HF2 HR2 HB2 Hf3 e0 k1 z0 zn htt hwr hwr2 Hw
    go_wp2
    change bodyPost _ _ _ _ _ (w4.setCells rb 0 [.int .i64 yk,.string ya,.string yv,.string yf,.string yl,.slice yA ym yc,.slice yD yn yd])
    clear q0 q1 q2 q3 q4 q5 q6 qz p0 p1 p2 p3 p4 p5 p6
    have hBz:=HB4r.out.sets 0 [.int .i64 yk,.string ya,.string yv,.string yf,.string yl,.slice yA ym yc,.slice yD yn yd] (by simp) [.int .i64 yk,.string ya,.string yv,.string yf,.string yl,.slice yA ym yc,.slice yD yn yd] (by simp)
    have hfz:Fr (fun k=>k=rb) w4 (w4.setCells rb 0 [.int .i64 yk,.string ya,.string yv,.string yf,.string yl,.slice yA ym yc,.slice yD yn yd]):=Fr.setCells w4 rb 0 [.int .i64 yk,.string ya,.string yv,.string yf,.string yl,.slice yA ym yc,.slice yD yn yd] rfl
    have HBz:=hide hBz
    have Hfz:=hide hfz
    clear hBz hfz
    generalize w4.setCells rb 0 [.int .i64 yk,.string ya,.string yv,.string yf,.string yl,.slice yA ym yc,.slice yD yn yd]=wz at *
    refine bodyPost_ret (v:=.agg #[.int .i64 yk,.string ya,.string yv,.string yf,.string yl,.slice yA ym yc,.slice yD yn yd]) ?_ rfl ?_
    ·exact results_cell1 rfl _ wz rb [.int .i64 yk,.string ya,.string yv,.string yf,.string yl,.slice yA ym yc,.slice yD yn yd] _ rfl HBz.out.range Tryz.underlying39 rfl (by kernel_rfl)
    ·have hsz:=Hfz.out.size
     refine⟨⟨y,_,F',rfl,⟨_,rfl,FInP.move (fun p hp=>Hfz.out.cell hp.2 (by have:=hp.1;have:=Hn.out;have:=Hfb.out;omega)) (fun k hk=>⟨by have:=Hn.out;have:=Hfb.out;omega,by omega⟩) HE.out⟩,?_,HF4.out.trans' Hfz.out (fun k hk q=>by have:=Hn.out;omega),fun h0 x0 F0 hh=>HQ.out (by first | rfl | trivial) x0 F0 (by rw[←Hbody.out];exact hh)⟩⟩
     rw[Hbody.out]
     exact HR4.out.fr Hfz.out (by have:=Hn.out;omega) (by have:=Hn.out;omega) (fun k h1 h2=>by have:=Hn.out;omega)
end Go.Proofs.YtcpjmgfloimfhaaGreat
namespace Go.Proofs.YtcpjmgfloimfhaaGreat
open Go.RowKit
set_option linter.unusedVariables false
theorem infoC8:(Tryz.prog.info? 67).map (fun i=>(i.zero,i.size,i.bytes))=some (some (.agg #[.string .empty,.bool false,.bool false,.string .empty]),4,40):=by kernel_rfl
def ReadsC (p:Rdr Ct) (w:World) (b:Nat):Prop:=∀(W:World) (lo g:Nat) (F:List Fd) (φ:Bool),w.heap.size≤W.heap.size→RdS W lo g b F φ→Calls Tryz.prog 84 #[.pointer (some ⟨g,0,none⟩)] W (RdPost (repE elC) p W (own2 g b) lo g b F φ)
theorem lclC_any (p:Rdr Ct) (he:Eats p) (w:World) (b bl bx lo2:Nat) (hbl:bl<lo2) (hlo:lo2≤w.heap.size) (hbb:b≠bl) (hbx:bx<lo2) (hxb:bx≠b) (hxl:bx≠bl)
  (hc:w.cell? ⟨bl,0,none⟩=some (.slice none 0 0)) (hfz:∀i,w.frozen? ⟨bl,i,none⟩=false) (hf:w.cell? ⟨bx,0,none⟩=some (.func (.func 84) #[] #[])) (hrd:ReadsC p w b):
  ClosedBy (LstS elC 67 bl lo2) (fun k=>k=bl) (Rd.manyR p) w b 161 #[.pointer (some ⟨bl,0,none⟩),.pointer (some ⟨bx,0,none⟩)]:=by
 intro W lo g F φ hfr hwl hr
 have hgl:=hr.log
 have hlt:=hr.lt
 have hsm:=hr.small.1
 have hcW:W.cell? ⟨bl,0,none⟩=some (.slice none 0 0):=(hfr.cell (p:=⟨bl,0,none⟩) (by simp only;omega) (fun e=>hbb e.symm)).trans hc
 have hfW:W.cell? ⟨bx,0,none⟩=some (.func (.func 84) #[] #[]):=(hfr.cell (p:=⟨bx,0,none⟩) (by simp only;omega) hxb).trans hf
 have hzW:∀i,W.frozen? ⟨bl,i,none⟩=false:=fun i=>(hfr.frozen (p:=⟨bl,i,none⟩) (by simp only;omega) (fun e=>hbb e.symm)).trans (hfz i)
 have hL0:LstS elC 67 bl W.heap.size [] W:=⟨by omega,by omega,hzW,⟨_,[],hcW,World.ownsRow_nil _ _ _ _,rfl⟩,by simp⟩
 have Hrd:=hide (fun (W':World) (h:W.heap.size≤W'.heap.size) (lo' g':Nat) (F1:List Fd) (φ1:Bool) (h1:RdS W' lo' g' b F1 φ1)=>hrd W' lo' g' F1 φ1 (Nat.le_trans hfr.size h) h1)
 have Hn:=hide (And.intro hbl (And.intro hlo (And.intro hbb (And.intro hbx (And.intro hxb (And.intro hxl (And.intro hwl (And.intro hgl (And.intro hlt hr.blo)))))))))
 have HM:=hide (Many.start p F φ hsm)
 have HL:=hide hL0
 have HR:=hide hr
 have HfW:=hide hfW
 have He:=hide he
 try simp only[List.append_toArray,List.cons_append,List.nil_append]
 clear hfr hwl hr hgl hlt hsm hcW hfW hzW hL0 hrd hbl hlo hbb hbx hxb hxl hc hfz hf he
 go_enter Tryz.func161,Tryz.ntmps161
 go_wp2
 go_loopg [] (if φ then 0 else F.length+1) (fun k wx=>∃(F':List Fd) (φ':Bool) (acc:List Ct),Hid (RdS wx lo g b F' φ')∧Hid (LstS elC 67 bl W.heap.size acc wx)∧Hid (Fr (own3 (fun k=>k=bl) g b) W wx)∧Hid (wx.cell? ⟨bx,0,none⟩=some (.func (.func 84) #[] #[]))∧Hid (Many p F φ F' φ' acc)∧Hid ((if φ' then 0 else F'.length+1)≤k))
 case atStart=>exact⟨F,φ,[],HR,HL,hide (Fr.refl _ _),HfW,HM,hide (Nat.le_refl _)⟩
 case round=>
  obtain⟨F',φ',acc,hR,hL,hF,hX,hM,hK⟩:=hrel
  clear HR HL HfW HM
  have hmore:=more_any wr lo g b F' φ' hR.out
  cases hmb:moreB F' φ' with
  | false=>
   rw[hmb] at hmore
   have hd:=hM.out.done hmb
   have Hd:=hide hd
   clear hmb hd
   go_wp2_with (go_at_call 79;fail)
   refine hmore.mono ?_
   rintro e w1 ⟨rfl,hw1⟩
   obtain rfl:=hw1
   clear hmore
   go_wp2
   go_returns
   refine⟨⟨acc,F',rfl,hL.out.low (by have:=Hn.out;omega) Hn.out.1,?_,hF.out,Hd.out.2⟩⟩
   rw[←Hd.out.1]
   exact hR.out
  | true=>
   rw[hmb] at hmore
   obtain⟨rfl,hne⟩:φ'=false∧F'≠[]:=by
    cases φ' with
    | true=>cases hmb
    | false=>exact⟨rfl,fun e=>by subst e;cases hmb⟩
   have Hne:=hide hne
   obtain⟨v,xs,hv,hown,hrow⟩:=hL.out.row
   obtain⟨Av,cv,rfl,_,_⟩:=own_form hown
   have Hv:=hide hv
   have Hown:=hide hown
   have Hrow:=hide hrow
   clear hmb hne hv hown hrow
   go_wp2_with (go_at_call 79;fail)
   refine hmore.mono ?_
   rintro e w1 ⟨rfl,hw1⟩
   obtain rfl:=hw1
   clear hmore
   go_wp2_with fail
   refine grow_beginZ (wayCC ⟨bl,0,none⟩ (.slice Av acc.length cv) ⟨bx,0,none⟩ (.func (.func 84) #[] #[])) [6] (by kernel_rfl) ?_
   have Hd:=hide (hR.out.fr (Fr.drew (fun _=>False) w1) id id (fun _ _ _=>id))
   have Hfd:=hide (hF.out.trans (Fr.drew _ w1))
   replace Hv:Hid (w1.drew.cell? ⟨bl,0,none⟩=some (.slice Av acc.length cv)):=hide Hv.out
   replace Hown:=hide (own_fr Hown.out (Fr.drew (fun _=>False) w1) (fun _ _=>id))
   replace Hrow:=hide (Hrow.out.move (w:=w1) (w':=w1.drew) (P':=fun k=>W.heap.size≤k∧k<w1.drew.heap.size∧(Value.slice Av acc.length cv).ownBlock≠some k) (fun _ _=>rfl) (fun _ h=>h))
   replace hL:=hide (hL.out.fr (X:=fun _=>False) (Fr.drew _ w1) id (fun _ _=>id))
   replace hX:Hid (w1.drew.cell? ⟨bx,0,none⟩=some (.func (.func 84) #[] #[])):=hide hX.out
   clear hR hF
   generalize w1.drew=wd at *
   refine grow_takeZ 0 (some 6) (v:=?vl0) rfl rfl (by kernel_rfl) (by kernel_rfl) (by kernel_rfl) (fun _ _ _ h=>h) (by kernel_rfl) (by rfl) (fun Wq hW=>?yl0) ?_
   case yl0=>
    have vW:Wq.cell? ⟨bl,0,none⟩=some (.slice Av acc.length cv):=hW.1 Hv.out
    go_simp<;>with_reducible rfl
   try simp only[Act.put,List.setIfInBounds_toArray,List.set_cons_zero,List.set_cons_succ]
   refine grow_takeZ 1 (some 7) (v:=?vl1) rfl rfl (by kernel_rfl) (by kernel_rfl) (by kernel_rfl) (fun _ _ _ h=>h) (by kernel_rfl) (by rfl) (fun Wq hW=>?yl1) ?_
   case yl1=>
    have xW:Wq.cell? ⟨bx,0,none⟩=some (.func (.func 84) #[] #[]):=hW.2 hX.out
    go_simp<;>with_reducible rfl
   try simp only[Act.put,List.setIfInBounds_toArray,List.set_cons_zero,List.set_cons_succ]
   refine grow_takeP 2 (some 8) (v:=?vl2) rfl rfl (by kernel_rfl) (by kernel_rfl) (by kernel_rfl) (fun _ _ _ h=>h) (by rfl) (fun Wq=>?yl2) ?_
   case yl2=>
    go_simp<;>with_reducible rfl
   try simp only[Act.put,List.setIfInBounds_toArray,List.set_cons_zero,List.set_cons_succ]
   refine grow_onlyZ 3 rfl (by kernel_rfl) (fun K hK2=>?_)
   go_simp
   refine (Hrd.out wd (Hfd.out.size) lo g F' false Hd.out).mono ?_
   rintro e w2 hpost
   obtain⟨x,v9,F2,rfl,hrep,hr2,hf2,hq⟩:=hpost.out
   clear hpost
   rw[Bool.false_or] at hr2
   obtain⟨cs,rfl,hE⟩:=hrep
   have hE2:=hE
   unfold elC at hE2
   simp only at hE2
   subst hE2
   obtain⟨xo,xc,xh,xv⟩:=x
   have hs2:=hf2.size
   have hlW:=(Hfd.out.size)
   have hv2:w2.cell? ⟨bl,0,none⟩=some (.slice Av acc.length cv):=(hf2.cell (p:=⟨bl,0,none⟩) (by simp only;have:=Hn.out;omega) (by rintro (h | h)<;>(simp only at h;have:=Hn.out;omega))).trans Hv.out
   have hx2:w2.cell? ⟨bx,0,none⟩=some (.func (.func 84) #[] #[]):=(hf2.cell (p:=⟨bx,0,none⟩) (by simp only;have:=Hn.out;omega) (by rintro (h | h)<;>(simp only at h;have:=Hn.out;omega))).trans hX.out
   have hz2:∀i,w2.frozen? ⟨bl,i,none⟩=false:=fun i=>(hf2.frozen (p:=⟨bl,i,none⟩) (by simp only;have:=Hn.out;omega) (by rintro (h | h)<;>(simp only at h;have:=Hn.out;omega))).trans (hL.out.fz i)
   have hown2:=own_fr Hown.out hf2 (fun k hk h=>by rcases h with h | h<;>(have:=Hn.out;omega))
   have hrow2:=Hrow.out.move (P':=fun k=>W.heap.size≤k∧k<w2.heap.size∧(Value.slice Av acc.length cv).ownBlock≠some k) (fun q hq=>hf2.cell hq.2.1 (by rintro (h | h)<;>(have:=Hn.out;have:=hq.1;omega))) (fun k hk=>⟨hk.1,Nat.lt_of_lt_of_le hk.2.1 hs2,hk.2.2⟩)
   have hE':=elC.move (w:=w2) (w':=w2) (P':=fun k=>W.heap.size≤k∧k<w2.heap.size∧(Value.slice Av acc.length cv).ownBlock≠some k) (fun _ _=>rfl) (fun k hk=>⟨by omega,hk.2,own_off Hown.out k hk.1⟩) hE
   have Hr2:=hide hr2
   have Hf2:=hide hf2
   have Hq:=hide hq
   have Hz2:=hide hz2
   have Hown2:=hide hown2
   have Hrow2:=hide hrow2
   have HE:=hide hE'
   have Hs2:=hide (And.intro hs2 hlW)
   have Hv2:=hide hv2
   have Hx2:=hide hx2
   refine hK2.out _ _ (fun _=>⟨fun _=>Hv2.out,fun _=>Hx2.out⟩) ?_
   clear hK2 K hr2 hf2 hq hz2 hown2 hrow2 hE hE' hs2 hlW hv2 hx2
   try simp only[Act.put,List.setIfInBounds_toArray,List.set_cons_zero,List.set_cons_succ]
   refine grow_onlyZ 4 rfl (by kernel_rfl) (fun K hK2=>?_)
   go_simp
   have hfa:Fr (fun _=>False) w2 (w2.alloc (.cells #[.string (txt xo),.bool xc,.bool xh,.string (txt xv)] 67)):=Fr.alloc _ _ _
   refine hK2.out _ _ (fun _=>⟨fun h=>(hfa.cell (p:=⟨bl,0,none⟩) (by simp only;have:=Hn.out;have:=Hs2.out;omega) id).trans h,fun h=>(hfa.cell (p:=⟨bx,0,none⟩) (by simp only;have:=Hn.out;have:=Hs2.out;omega) id).trans h⟩) ?_
   clear hK2 K hfa
   have hlit:=World.ownsRow_lit (e:=67) (size:=4) w2 #[.string (txt xo),.bool xc,.bool xh,.string (txt xv)] 1 (Nat.le_refl _) (by unfold maxLen;omega) rfl
   have hown3:=own_fr Hown2.out (Fr.alloc (fun _=>False) w2 (.cells #[.string (txt xo),.bool xc,.bool xh,.string (txt xv)] 67)) (fun _ _=>id)
   try simp only[Act.put,List.setIfInBounds_toArray,List.set_cons_zero,List.set_cons_succ]
   refine grow_onlyZ 5 rfl (by kernel_rfl) (fun K hK2=>?_)
   have h1c:∀u∈([.string (txt xo),.bool xc,.bool xh,.string (txt xv)]:List Value),u.oneCell'=true:=elC.one HE.out
   refine stepA _ 40 67 _ 4 40 Tryz.underlying40 infoC8 rfl (by omega) (by omega) (some 11) rfl rfl (.tmp 6) (.tmp 10) rfl W.heap.size _ acc.length xs rfl hown3 _ _ 1 1 [.string (txt xo),.bool xc,.bool xh,.string (txt xv)] rfl (Has.own hlit) h1c (by have:=hM.out.all;omega) (by have:=Hs2.out;simp;omega) ?_
   intro v4 w4 h4 hb4 hg4 ht4
   have hn4:acc.length+1≤20000:=by have:=hM.out.all;omega
   have hls:=LstS.snoc (E:=elC) (ety:=67) (bl:=bl) (lo:=W.heap.size) (L:=acc) (x:=⟨xo,xc,xh,xv⟩) (by have:=Hn.out;omega) (by have:=Hs2.out;omega) Hz2.out Hv2.out Hown2.out Hrow2.out HE.out h4 hg4 ht4 hn4
   have hfg:Fr (fun k=>(Value.slice Av acc.length cv).ownBlock=some k) w2 w4:=(Fr.alloc _ w2 (.cells #[.string (txt xo),.bool xc,.bool xh,.string (txt xv)] 67)).trans (Fr.grown hg4 fun k hk=>hk)
   have hro:∀k,(Value.slice Av acc.length cv).ownBlock=some k→W.heap.size≤k:=fun k hk=>(Hown2.out.lt k hk).1
   have hfs:Fr (fun k=>k=bl∨W.heap.size≤k) w2 (w4.setCell ⟨bl,0,none⟩ v4):=(hfg.mono fun k _ hk=>.inr (hro k hk)).trans ((Fr.setCell (X:=fun k=>k=bl) _ _ _ rfl).mono fun k _ hk=>.inl hk)
   have hr4:=Hr2.out.fr hfs (by rintro (h | h)<;>(have:=Hn.out;omega)) (by rintro (h | h)<;>(have:=Hn.out;have:=Hr2.out.back;omega)) (fun k h1 h2=>by rintro (h | h)<;>(have:=Hn.out;omega))
   have hx4:(w4.setCell ⟨bl,0,none⟩ v4).cell? ⟨bx,0,none⟩=some (.func (.func 84) #[] #[]):=(hfs.cell (p:=⟨bx,0,none⟩) (by simp only;have:=Hn.out;have:=Hs2.out;omega) (by rintro (h | h)<;>(simp only at h;have:=Hn.out;omega))).trans Hx2.out
   have hF4:Fr (own3 (fun k=>k=bl) g b) W (w4.setCell ⟨bl,0,none⟩ v4):=(Hfd.out.trans (Hf2.out.mono (Y:=own3 (fun k=>k=bl) g b) fun k _ h=>by rcases h with h | h;exact .inl h;exact .inr (.inl h))).trans' hfs fun k hk h=>by rcases h with h | h;exact .inr (.inr h);omega
   have hst:=hM.out.step (x:=⟨xo,xc,xh,xv⟩) (G:=F2) He.out Hne.out (fun x0 F0 h0=>Hq.out rfl x0 F0 h0)
   have Hls:=hide hls
   have Hr4:=hide hr4
   have Hx4:=hide hx4
   have HF4:=hide hF4
   have Hst:=hide hst
   have hc4:w4.cell? ⟨bl,0,none⟩=some (.slice Av acc.length cv):=(hfg.cell (p:=⟨bl,0,none⟩) (by simp only;have:=Hn.out;have:=Hs2.out;omega) (fun e=>by have:=hro bl e;have:=Hn.out;omega)).trans Hv2.out
   have hz4:∀i,w4.frozen? ⟨bl,i,none⟩=false:=fun i=>(hfg.frozen (p:=⟨bl,i,none⟩) (by simp only;have:=Hn.out;have:=Hs2.out;omega) (fun e=>by have:=hro bl e;have:=Hn.out;omega)).trans (Hz2.out i)
   have hx4':w4.cell? ⟨bx,0,none⟩=some (.func (.func 84) #[] #[]):=(hfg.cell (p:=⟨bx,0,none⟩) (by simp only;have:=Hn.out;have:=Hs2.out;omega) (fun e=>by have:=hro bx e;have:=Hn.out;omega)).trans Hx2.out
   obtain⟨A4,c4,rfl,_,_⟩:=own_form h4
   refine hK2.out _ _ (fun _=>⟨fun _=>hc4,fun _=>hx4'⟩) ?_
   clear hK2 K h4 hb4 hg4 ht4 hls hfg hro hfs hr4 hx4 hF4 hst h1c hown3 hlit hx4' hn4
   try simp only[Act.put,List.setIfInBounds_toArray,List.set_cons_zero,List.set_cons_succ]
   refine grow_onlyZ 6 rfl (by kernel_rfl) (fun K hK2=>?_)
   go_simp
   refine hK2.out _ _ (fun h=>absurd (by decide) h) ?_
   clear hK2 K
   try simp only[Act.put,List.setIfInBounds_toArray,List.set_cons_zero,List.set_cons_succ]
   refine grow_doneZ (by kernel_rfl) ?_ _
   go_wp2
   go_roundg (if (p F').isNone then 0 else F2.length+1)
   case measure=>have h1:=Hst.out.2;have h2:=hK.out;simp only[Bool.false_eq_true,if_false] at h2;omega
   case rel=>exact⟨F2,(p F').isNone,acc++[⟨xo,xc,xh,xv⟩],Hr4,Hls,HF4,Hx4,hide Hst.out.1,hide (Nat.le_refl _)⟩
theorem listC_any (p:Rdr Ct) (he:Eats p) (w:World) (lo g b:Nat) (F:List Fd) (φ:Bool) (t:UInt8) (h:RdS w lo g b F φ) (hrd:ReadsC p w b):
  Calls Tryz.prog 133 #[.pointer (some ⟨g,0,none⟩),c8 t,(.func (.func 84) #[] #[])] w (RdPost (repL elC) (Rd.listR t p) w (own2 g b) lo g b F φ):=by
 have hgl:=h.log
 have hlt:=h.lt
 have hbk:=h.back
 have hblo:=h.blo
 have hfa:Fr (fun _=>False) w (w.alloc (.cells #[(.func (.func 84) #[] #[])] 129)):=Fr.alloc _ _ _
 have hcx:(w.alloc (.cells #[(.func (.func 84) #[] #[])] 129)).cell? ⟨w.heap.size,0,none⟩=some (.func (.func 84) #[] #[]):=by rw[World.cell?_alloc_at (hn:=by simp)];rfl
 obtain⟨w1,hw1⟩:∃w1,w.alloc (.cells #[(.func (.func 84) #[] #[])] 129)=w1:=⟨_,rfl⟩
 have hs1:w1.heap.size=w.heap.size+1:=by rw[←hw1];simp
 rw[hw1] at hfa hcx
 have hfb:Fr (fun _=>False) w1 (w1.alloc (.cells #[.slice none 0 0] 40)):=Fr.alloc _ _ _
 have hcl:(w1.alloc (.cells #[.slice none 0 0] 40)).cell? ⟨w1.heap.size,0,none⟩=some (.slice none 0 0):=by rw[World.cell?_alloc_at (hn:=by simp)];rfl
 have hzl:∀i,(w1.alloc (.cells #[.slice none 0 0] 40)).frozen? ⟨w1.heap.size,i,none⟩=false:=fun i=>World.frozen?_alloc_at _ _ _ _ rfl
 obtain⟨w2,hw2⟩:∃w2,w1.alloc (.cells #[.slice none 0 0] 40)=w2:=⟨_,rfl⟩
 have hs2:w2.heap.size=w.heap.size+2:=by rw[←hw2];simp[hs1]
 rw[hw2] at hfb hcl hzl
 rw[hs1] at hcl hzl
 have hcx2:=(hfb.cell (p:=⟨w.heap.size,0,none⟩) (by simp only;omega) id).trans hcx
 have hf2:=hfa.trans hfb
 have hr2:=h.fr hf2 id id (fun _ _ _=>id)
 obtain⟨bx,hbx⟩:∃bx,w.heap.size=bx:=⟨_,rfl⟩
 obtain⟨bl,hbl⟩:∃bl,w.heap.size+1=bl:=⟨_,rfl⟩
 rw[hbx] at hcx2
 rw[hbl] at hcl hzl
 have hC:∀W,Fr (own2 g b) w2 W→ClosedBy (LstS elC 67 bl (bl+1)) (fun k=>k=bl) (Rd.manyR p) W b 161 #[.pointer (some ⟨bl,0,none⟩),.pointer (some ⟨bx,0,none⟩)]:=fun W hW=>
  lclC_any p he W b bl bx (bl+1) (by omega) (by have:=hW.size;omega) (by omega) (by omega) (by omega) (by omega)
   ((hW.cell (p:=⟨bl,0,none⟩) (by simp only;omega) (by rintro (q | q)<;>(simp only at q;omega))).trans hcl) (fun i=>(hW.frozen (p:=⟨bl,i,none⟩) (by simp only;omega) (by rintro (q | q)<;>(simp only at q;omega))).trans (hzl i))
   ((hW.cell (p:=⟨bx,0,none⟩) (by simp only;omega) (by rintro (q | q)<;>(simp only at q;omega))).trans hcx2) (fun W' lo' g' F1 φ1 q1 q2=>hrd W' lo' g' F1 φ1 (by have:=hW.size;omega) q2)
 have hin:=inner_any (LstS elC 67 bl (bl+1)) (fun k=>k=bl) (Rd.manyR p) w2 lo g b F φ t 161 #[.pointer (some ⟨bl,0,none⟩),.pointer (some ⟨bx,0,none⟩)] (fun args w=>by go_simp) hr2 hC
  (fun x W W' q1 q2=>q1.fr q2 (by omega) (fun k hk=>by omega)) (fun k hk=>by subst hk;exact⟨by omega,by omega,by omega⟩)
 have Hin:=hide hin
 have Hw1:=hide hw1
 have Hw2:=hide hw2
 have Hbb:=hide (And.intro hbx hbl)
 have Hf2:=hide hf2
 have Hs:=hide (And.intro hs1 hs2)
 clear hin hC hr2 hf2 hcx2 hs2 hs1 hzl hcl hfb hcx hfa h hrd he hw1 hw2 hbx hbl hgl hlt hbk hblo
 go_enter Tryz.func133,Tryz.ntmps133
 go_upto_region 2 with fail
 rw[Hw1.out,Hw2.out]
 try rw[Hs.out.1]
 rw[Hbb.out.2,Hbb.out.1]
 go_wp2_with (go_at_call 28;fail)
 refine Hin.out.mono ?_
 rintro e w3 hpost
 obtain⟨L,F',rfl,hl,hr3,hf3,hq⟩:=hpost.out
 obtain⟨v,xs,hv,hown,hrow⟩:=hl.row
 have hl2:=hl.len
 obtain⟨A,c,rfl,hLc,hHP⟩:=own_formP hown
 have HR:=hide hr3
 have HQ:=hide hq
 have HF:Hid (Fr (own2 g b) w w3):=hide ((Hf2.out.mono (Y:=own2 g b) fun _ _ q=>q.elim).trans' hf3 fun k hk q=>by rcases q with q | q | q;exact .inl q;exact .inr q;(have:=Hbb.out;omega))
 have HRep:Hid (repL elC w3 (fun k=>w.heap.size≤k∧k<w3.heap.size) L (.slice A L.length c)):=hide ⟨A,c,xs,rfl,hl2,hHP.move (fun _ _=>rfl) (fun k hk=>⟨by have:=Hbb.out;omega,hk.2⟩),hrow.move (fun _ _=>rfl) (fun k hk=>⟨by have:=Hbb.out;omega,hk.2.1⟩)⟩
 clear hpost Hin hq hr3 hf3 hl hown hrow hHP hLc Hf2 Hs Hw1 Hw2
 go_wp2
 go_ret
 exact⟨⟨L,_,F',rfl,HRep.out,HR.out,HF.out,HQ.out⟩⟩
theorem someC_any (p:Rdr Ct) (he:Eats p) (w:World) (lo g b:Nat) (F:List Fd) (φ:Bool) (t:UInt8) (h:RdS w lo g b F φ) (hrd:ReadsC p w b):
  Calls Tryz.prog 83 #[.pointer (some ⟨g,0,none⟩),c8 t,(.func (.func 84) #[] #[])] w (RdPost (repL elC) (Rd.someR t p) w (own2 g b) lo g b F φ):=by
 have hl:=listC_any p he w lo g b F φ t h hrd
 clear h hrd
 go_enter Tryz.func83,Tryz.ntmps83
 go_wp2_with (go_at_call 133;fail)
 refine hl.mono ?_
 rintro e w1 hpost
 obtain⟨L,v,F',rfl,hrep,hr,hf,hq⟩:=hpost.out
 have hrep2:=hrep
 obtain⟨A,c,xs,rfl,hl2,_,_⟩:=hrep2
 have hfl:=fail_any w1 lo g b F' _ hr
 have HRep:=hide hrep
 have HF:=hide hf
 have Hl2:=hide hl2
 clear hpost hl hrep hf hl2
 cases L with
 | nil=>
  have hfin:(φ||(Rd.someR t p F).isNone)=true∧(φ=false→∀x0 F0,Rd.someR t p F=some (x0,F0)→([]:List Ct)=x0∧F'=F0):=by
   cases φ with
   | true=>exact⟨rfl,fun h=>by cases h⟩
   | false=>
    have hn:Rd.someR t p F=none:=by
     unfold Rd.someR
     cases hp:Rd.listR t p F with
     | none=>rfl
     | some q=>
      obtain⟨y,G⟩:=q
      obtain⟨rfl,rfl⟩:=hq rfl _ _ hp
      rfl
    rw[hn]
    exact⟨rfl,fun _ x0 F0 h0=>by cases h0⟩
  have Hfin:=hide hfin
  simp only[List.length_nil] at HRep ⊢
  clear hq hfin hr
  go_wp2_with (go_at_call 78;fail)
  refine hfl.mono ?_
  rintro e w2 ⟨rfl,hr2,hf2⟩
  clear hfl
  go_wp2
  go_ret
  exact⟨⟨[],_,F',rfl,⟨A,c,[],rfl,by simp,⟨by simp,.inl rfl⟩,rfl⟩,by rw[Hfin.out.1];exact hr2,HF.out.trans hf2,Hfin.out.2⟩⟩
 | cons y L=>
  have hfin:(φ||(Rd.someR t p F).isNone)=(φ||(Rd.listR t p F).isNone)∧(φ=false→∀x0 F0,Rd.someR t p F=some (x0,F0)→(y::L)=x0∧F'=F0):=by
   cases φ with
   | true=>exact⟨rfl,fun h=>by cases h⟩
   | false=>
    unfold Rd.someR
    cases hp:Rd.listR t p F with
    | none=>exact⟨rfl,fun _ x0 F0 h0=>by cases h0⟩
    | some q=>
     obtain⟨z,G⟩:=q
     obtain⟨rfl,rfl⟩:=hq rfl _ _ hp
     exact⟨rfl,fun _ x0 F0 h0=>by simpa using h0⟩
  rw[←hfin.1] at hr
  have Hfin:=hide hfin.2
  have HR:=hide hr
  obtain⟨n,hn⟩:∃n,(y::L).length=n:=⟨_,rfl⟩
  have hn0:1≤n:=by rw[←hn];simp
  have z:((n:Int)==0)=false:=beq_false_of_ne (by omega)
  rw[hn] at HRep ⊢
  have hn1:n≤20000:=by have:=Hl2.out;omega
  clear hq hfin hr hfl hn hn0
  go_wp2
  go_ret
  exact⟨⟨y::L,_,F',rfl,HRep.out,HR.out,HF.out,Hfin.out⟩⟩
end Go.Proofs.YtcpjmgfloimfhaaGreat
