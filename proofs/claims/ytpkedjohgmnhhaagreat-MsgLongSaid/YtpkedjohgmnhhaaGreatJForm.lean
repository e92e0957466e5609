/- The program's side: how many filters stand in one; whether it is formed. By an AI agent. -/
import Derived.Test.YtpkedjohgmnhhaaGreatM12
import Derived.Test.YtpkedjohgmnhhaaGreatJAlone
set_option maxRecDepth 100000
set_option maxHeartbeats 32000000
set_option linter.unusedSimpArgs false
namespace Go.Proofs.YtpkedjohgmnhhaaGreat
open Go.RowKit
set_option linter.unusedVariables false
theorem FIn.shape {w:World} {B:Nat}:∀{t:FT} {u0 u1 u2 u3 u4 u5 u6:Value},FIn w B t [u0,u1,u2,u3,u4,u5,u6]→∃(k:Int) (a v f l:ByteArray) (A:Option Addr) (m c:Nat) (D:Option Addr) (n d:Nat),u0=.int .i64 k∧u1=.string a∧u2=.string v∧u3=.string f∧u4=.string l∧u5=.slice A m c∧u6=.slice D n d
 | .mk ..,_,_,_,_,_,_,_,h=>by
  simp only[FIn] at h
  obtain⟨A,c,D,d,xs,hcs,_⟩:=h
  simp only[List.cons.injEq,and_true] at hcs
  obtain⟨rfl,rfl,rfl,rfl,rfl,rfl,rfl⟩:=hcs
  exact⟨_,_,_,_,_,_,_,_,_,_,_,rfl,rfl,rfl,rfl,rfl,rfl,rfl⟩
namespace FT
theorem nodesL_take {ps:List FT} {i:Nat} {p:FT} (h:ps[i]?=some p):nodesL (ps.take (i+1))=nodesL (ps.take i)+p.nodes:=by
 induction ps generalizing i with
 | nil=>simp at h
 | cons q r ih=>
  cases i with
  | zero=>simp at h;subst h;simp[nodesL]
  | succ i=>simp only[List.getElem?_cons_succ] at h;have:=ih h;simp only[List.take_succ_cons,nodesL] at this ⊢;omega
theorem nodesL_mono:∀(ps:List FT) (i:Nat),nodesL (ps.take i)≤nodesL ps
 | [],i=>by simp[nodesL]
 | p::r,0=>by simp[nodesL]
 | p::r,i+1=>by have:=nodesL_mono r i;simp only[nodesL,List.take_succ_cons] at this ⊢;omega
theorem depthL_all {d:Nat}:∀(ps:List FT),decide (depthL ps≤d)=ps.all (fun p=>decide (p.depth≤d))
 | []=>by simp[depthL]
 | p::r=>by
  have h:=depthL_all (d:=d) r
  rw[List.all_cons,←h,depthL,Bool.eq_iff_iff]
  simp only[Bool.and_eq_true,decide_eq_true_eq]
  omega
theorem all_both (f g:FT→Bool):∀l:List FT,l.all (fun p=>f p&&g p)=(l.all f&&l.all g)
 | []=>rfl
 | p::r=>by
  have h:=all_both f g r
  simp only[List.all_cons,h]
  cases f p<;>cases g p<;>cases r.all f<;>rfl
def nest (t:FT) (d:Nat):Bool:=decide (t.depth≤d)&&t.all
theorem nest_zero (t:FT):t.nest 0=false:=by
 have:=t.depth_pos
 unfold nest
 rw[decide_eq_false (by omega)]
 rfl
theorem nest_succ (k:Int) (a v f l:List UInt8) (any:List (List UInt8)) (ps:List FT) (d:Nat):nest (.mk k a v f l any ps) (d+1)=(bare (.mk k a v f l any ps)&&ps.all (fun p=>p.nest d)):=by
 unfold nest
 rw[all_mk,depth]
 have h1:decide (depthL ps+1≤d+1)=ps.all (fun p=>decide (p.depth≤d)):=by rw[←depthL_all];simp
 rw[h1]
 have h2:=all_both (fun p=>decide (p.depth≤d)) FT.all ps
 rw[h2]
 cases bare (.mk k a v f l any ps)<;>simp
theorem formed_nest (t:FT):t.formed=(decide (t.nodes≤40)&&t.nest 20):=by
 unfold formed nest
 rw[Bool.and_assoc]
end FT
theorem jcount_any (t:FT):∀(M:Nat),1≤M→M≤41→∀(w:World) (u0 u1 u2 u3 u4 u5 u6:Value),FIn w w.heap.size t [u0,u1,u2,u3,u4,u5,u6]→
  Calls Tryz.prog 96 #[.agg #[u0,u1,u2,u3,u4,u5,u6],.int .i64 (M:Int)] w fun e w'=>e=.returned (.int .i64 ((min t.nodes M:Nat):Int))∧Below w.heap.size w w':=by
 induction t using FT.induct
 rename_i k a v f l any ps ih
 intro M hM0 hM w u0 u1 u2 u3 u4 u5 u6 hF
 have hF0:=hF
 simp only[FIn] at hF
 obtain⟨A,c,D,dd,xs,hcs,⟨hml,hnl⟩,hA,hD,hP⟩:=hF
 cases hcs
 unfold maxLen at hml hnl
 obtain⟨m,hm⟩:∃m,any.length=m:=⟨_,rfl⟩
 obtain⟨np,hnp⟩:∃np,ps.length=np:=⟨_,rfl⟩
 have hml1:(m:Int)≤9223372036854775807:=by omega
 have hnl1:(np:Int)≤9223372036854775807:=by omega
 have hX:=Box7.new w k (txt a) (txt v) (txt f) (txt l) A any.length c D ps.length dd 39
 have hb0:=below1 w (.cells #[.int .i64 k,.string (txt a),.string (txt v),.string (txt f),.string (txt l),.slice A any.length c,.slice D ps.length dd] 39)
 obtain⟨w1,hw1⟩:∃w1,(w.alloc (.cells #[.int .i64 k,.string (txt a),.string (txt v),.string (txt f),.string (txt l),.slice A any.length c,.slice D ps.length dd] 39))=w1:=⟨_,rfl⟩
 rw[hw1] at hX hb0
 have hF1:=hF0.grow hb0
 have hA1:=(hA.below hb0).upto hb0.size
 rw[hm,hnp] at hX hw1 hF1 ⊢
 rw[hm] at hA1
 have Hw1:=hide hw1
 obtain⟨t0,ht0⟩:∃t0,FT.mk k a v f l any ps=t0:=⟨_,rfl⟩
 rw[ht0] at hF1 ⊢
 obtain⟨R,hR⟩:∃R:Nat,min t0.nodes M=R:=⟨_,rfl⟩
 rw[hR]
 have hRd:R=min (FT.nodesL ps+1) M:=by rw[←hR,←ht0,FT.nodes]
 have HR:=hide hRd
 have HD:=hide hD
 have HP:=hide hP
 have Hih:=hide ih
 have Hnp:=hide hnp
 clear ih hA hD hP hm hnp hml hnl hR hRd ht0 hF0 hF1 hA1 hw1
 generalize txt a=sa at *
 generalize txt v=sv at *
 generalize txt f=sf at *
 generalize txt l=sl at *
 obtain⟨_,c0,c1,c2,c3,c4,c5,c6⟩:=hX
 go_enter Tryz.func96,Tryz.ntmps96
 go_upto_region 1 with fail
 rw[Hw1.out]
 clear Hw1
 go_wp2
 go_loopg [5,11] np (fun r s5 s11 wx=>∃(j q:Nat),j+r=np∧s11=.int .i64 (j:Int)∧s5=.int .i64 (q:Int)∧1≤q∧q≤M∧Hid (q=min (FT.nodesL (ps.take j)+1) M)∧Hid (Below w.heap.size w wx))
 case atStart=>exact⟨0,1,by omega,rfl,rfl,by omega,hM0,hide (by simp[FT.nodesL];omega),hide hb0⟩
 case round=>
  obtain⟨j,q,hjg,rfl,rfl,hq1,hqM,hpre,hbr⟩:=hrel
  have hb2:=hbr.out
  clear c0 c1 c2 c3 c4 c5 c6 hb0
  cases gk with
  | zero=>
   obtain rfl:j=np:=by omega
   have hjz:¬((j:Int)<(j:Int)):=by omega
   have hq:Hid (q=R):=hide (by
    rw[hpre.out,List.take_of_length_le (by rw[Hnp.out];exact Nat.le_refl _),←HR.out])
   clear HD HP Hih Hnp hpre HR
   go_wp2
   go_ret
   exact⟨by rw[←hq.out];try rfl,hb2⟩
  | succ r=>
   have hj:j<np:=by omega
   have hjz:(j:Int)<(np:Int):=by omega
   obtain⟨p,hp⟩:∃p,ps[j]?=some p:=⟨_,List.getElem?_eq_getElem (by rw[Hnp.out];exact hj)⟩
   have HD1:=HD.out
   have HP1:=HP.out
   obtain⟨g,o,hDe,hg,hparts⟩:=HD.out.part HP1 (fun h=>by rw[h] at hp;simp at hp)
   subst hDe
   obtain⟨u0,u1,u2,u3,u4,u5,u6,hpart⟩:=hparts j p hp
   obtain⟨pk,pa,pv,pf,pl,pA,pm,pc,pD,pn,pd,rfl,rfl,rfl,rfl,rfl,rfl,rfl⟩:=hpart.fin.shape
   obtain⟨hcp2,_,x0,x1,x2,x3,x4,x5,x6⟩:=hpart.below hb2
   replace hcp2:=hcp2.upto hb2.size
   have hPX:=Box7.new wr pk pa pv pf pl pA pm pc pD pn pd 39
   have hbp:=below1 wr (.cells #[.int .i64 pk,.string pa,.string pv,.string pf,.string pl,.slice pA pm pc,.slice pD pn pd] 39)
   obtain⟨wp,hwp⟩:∃wp,wr.alloc (.cells #[.int .i64 pk,.string pa,.string pv,.string pf,.string pl,.slice pA pm pc,.slice pD pn pd] 39)=wp:=⟨_,rfl⟩
   rw[hwp] at hPX hbp
   have hcp3:=hcp2.grow hbp
   have hb5:=hb2.trans (hbp.mono hb2.size)
   obtain⟨_,p0,p1,p2,p3,p4,p5,p6⟩:=hPX
   by_cases hqn:q=M
   ·have zq:((q:Int)==(M:Int))=true:=by rw[hqn];simp
    have hq:Hid (q=R):=hide (by
     have h1:=FT.nodesL_mono ps j
     have h2:=HR.out
     have h3:=hpre.out
     omega)
    clear HD HP Hih Hnp hpre HR hp HD1 HP1 hparts hpart hcp2 hcp3
    go_wp2
    go_ret
    exact⟨by rw[←hq.out];try rfl,hb5⟩
   ·have zq:((q:Int)==(M:Int))=false:=beq_false_of_ne (by omega)
    have hcall:=Hih.out p (List.mem_of_getElem? hp) (M-q) (by omega) (by omega) wp _ _ _ _ _ _ _ hcp3
    have hMq:((M-q:Nat):Int)=(M:Int)-(q:Int):=by omega
    obtain⟨y,hy⟩:∃y,min p.nodes (M-q)=y:=⟨_,rfl⟩
    have hyM:y≤M-q:=by omega
    have hst:Hid (q+y=min (FT.nodesL (ps.take (j+1))+1) M):=hide (by
     have h1:=FT.nodesL_take hp
     have h3:=hpre.out
     omega)
    rw[hy,hMq] at hcall
    have Hwp:=hide hwp
    have hqy:(q:Int)+(y:Int)≤41:=by omega
    clear HD HP Hih Hnp hpre HR hp HD1 HP1 hparts hpart hcp2 hcp3 hy hMq hwp
    go_wp2_with (go_at_call 96;fail)
    rw[Hwp.out]
    refine hcall.mono ?_
    rintro e w3 ⟨rfl,hb3⟩
    have hb4:=hide (hb5.trans (hb3.mono hb5.size))
    clear hcall hb3 hbr hb2 hb5 hbp x0 x1 x2 x3 x4 x5 x6 p0 p1 p2 p3 p4 p5 p6
    go_wp2
    go_roundg r
    case measure=>omega
    case rel=>exact⟨j+1,q+y,by omega,by go_num,by go_num,by omega,by omega,hst,hb4⟩
theorem jnodes_any (t:FT) (w:World) (u0 u1 u2 u3 u4 u5 u6:Value) (hF:FIn w w.heap.size t [u0,u1,u2,u3,u4,u5,u6]):
  Calls Tryz.prog 58 #[.agg #[u0,u1,u2,u3,u4,u5,u6]] w fun e w'=>e=.returned (.int .i64 ((min t.nodes 41:Nat):Int))∧Below w.heap.size w w':=by
 cases t with
 | mk k a v f l any ps=>
 have hF0:=hF
 simp only[FIn] at hF
 obtain⟨A,c,D,dd,xs,hcs,⟨hml,hnl⟩,hA,hD,hP⟩:=hF
 cases hcs
 unfold maxLen at hml hnl
 obtain⟨m,hm⟩:∃m,any.length=m:=⟨_,rfl⟩
 obtain⟨np,hnp⟩:∃np,ps.length=np:=⟨_,rfl⟩
 have hml1:(m:Int)≤9223372036854775807:=by omega
 have hnl1:(np:Int)≤9223372036854775807:=by omega
 have hX:=Box7.new w k (txt a) (txt v) (txt f) (txt l) A any.length c D ps.length dd 39
 have hb0:=below1 w (.cells #[.int .i64 k,.string (txt a),.string (txt v),.string (txt f),.string (txt l),.slice A any.length c,.slice D ps.length dd] 39)
 obtain⟨w1,hw1⟩:∃w1,(w.alloc (.cells #[.int .i64 k,.string (txt a),.string (txt v),.string (txt f),.string (txt l),.slice A any.length c,.slice D ps.length dd] 39))=w1:=⟨_,rfl⟩
 rw[hw1] at hX hb0
 have hF1:=hF0.grow hb0
 have hA1:=(hA.below hb0).upto hb0.size
 rw[hm,hnp] at hX hw1 hF1 ⊢
 rw[hm] at hA1
 have Hw1:=hide hw1
 obtain⟨t0,ht0⟩:∃t0,FT.mk k a v f l any ps=t0:=⟨_,rfl⟩
 rw[ht0] at hF1 ⊢
 have hcall:=jcount_any t0 41 (by omega) (by omega) w1 _ _ _ _ _ _ _ hF1
 obtain⟨R,hR⟩:∃R:Nat,min t0.nodes 41=R:=⟨_,rfl⟩
 rw[hR] at hcall ⊢
 clear hA hD hP hm hnp hml hnl hR ht0 hF0 hF1 hA1 hw1
 generalize txt a=sa at *
 generalize txt v=sv at *
 generalize txt f=sf at *
 generalize txt l=sl at *
 obtain⟨_,c0,c1,c2,c3,c4,c5,c6⟩:=hX
 go_enter Tryz.func58,Tryz.ntmps58
 go_upto_region 1 with fail
 rw[Hw1.out]
 clear Hw1
 go_wp2_with (go_at_call 96;fail)
 refine hcall.mono ?_
 rintro e w2 ⟨rfl,hb2⟩
 have hb3:=hb0.trans (hb2.mono hb0.size)
 clear hcall hb2 hb0 c0 c1 c2 c3 c4 c5 c6
 go_wp2
 go_ret
 exact⟨rfl,hb3⟩
theorem jformed_any (t:FT):∀(d:Nat),d≤20→∀(w:World) (u0 u1 u2 u3 u4 u5 u6:Value),FIn w w.heap.size t [u0,u1,u2,u3,u4,u5,u6]→
  Calls Tryz.prog 59 #[.agg #[u0,u1,u2,u3,u4,u5,u6],.int .i64 (d:Int)] w fun e w'=>e=.returned (.bool (t.nest d))∧Below w.heap.size w w':=by
 induction t using FT.induct
 rename_i k a v f l any ps ih
 intro d hd w u0 u1 u2 u3 u4 u5 u6 hF
 have hF0:=hF
 simp only[FIn] at hF
 obtain⟨A,c,D,dd,xs,hcs,⟨hml,hnl⟩,hA,hD,hP⟩:=hF
 cases hcs
 unfold maxLen at hml hnl
 obtain⟨m,hm⟩:∃m,any.length=m:=⟨_,rfl⟩
 obtain⟨np,hnp⟩:∃np,ps.length=np:=⟨_,rfl⟩
 have hml1:(m:Int)≤9223372036854775807:=by omega
 have hnl1:(np:Int)≤9223372036854775807:=by omega
 have hX:=Box7.new w k (txt a) (txt v) (txt f) (txt l) A any.length c D ps.length dd 39
 have hb0:=below1 w (.cells #[.int .i64 k,.string (txt a),.string (txt v),.string (txt f),.string (txt l),.slice A any.length c,.slice D ps.length dd] 39)
 obtain⟨w1,hw1⟩:∃w1,(w.alloc (.cells #[.int .i64 k,.string (txt a),.string (txt v),.string (txt f),.string (txt l),.slice A any.length c,.slice D ps.length dd] 39))=w1:=⟨_,rfl⟩
 rw[hw1] at hX hb0
 have hF1:=hF0.grow hb0
 have hA1:=(hA.below hb0).upto hb0.size
 rw[hm,hnp] at hX hw1 hF1 ⊢
 rw[hm] at hA1
 have Hw1:=hide hw1
 obtain⟨t0,ht0⟩:∃t0,FT.mk k a v f l any ps=t0:=⟨_,rfl⟩
 rw[ht0] at hF1 ⊢
 obtain⟨R,hR⟩:∃R:Bool,t0.nest d=R:=⟨_,rfl⟩
 rw[hR]
 have hAl:=jalone_any t0 w1 _ _ _ _ _ _ _ hF1
 obtain⟨bt,hbt⟩:∃bt:Bool,t0.bare=bt:=⟨_,rfl⟩
 rw[hbt] at hAl
 have hR0:d=0→R=false:=fun h=>by rw[←hR,h,FT.nest_zero]
 have hR1:∀d',d=d'+1→R=(bt&&ps.all (fun p=>p.nest d')):=fun d' h=>by rw[←hR,h,←ht0,FT.nest_succ,ht0,hbt]
 have HR0:=hide hR0
 have HR1:=hide hR1
 have HD:=hide hD
 have HP:=hide hP
 have Hih:=hide ih
 have Hnp:=hide hnp
 have HX:=hide hX
 clear ih hA hD hP hm hnp hml hnl hR hR0 hR1 hbt ht0 hF0 hF1 hA1 hw1
 generalize txt a=sa at *
 generalize txt v=sv at *
 generalize txt f=sf at *
 generalize txt l=sl at *
 obtain⟨_,c0,c1,c2,c3,c4,c5,c6⟩:=hX
 cases d with
 | zero=>
  have hr:=hide (HR0.out rfl)
  clear HR0 HR1 HD HP Hih Hnp HX hAl
  go_enter Tryz.func59,Tryz.ntmps59
  go_upto_region 1 with fail
  rw[Hw1.out]
  go_wp2
  go_ret
  exact⟨by rw[hr.out];rfl,hb0⟩
 | succ d=>
  have z0:(((d+1:Nat):Int)==0)=false:=beq_false_of_ne (by omega)
  have hr:=hide (HR1.out d rfl)
  obtain⟨y0,hy0⟩:∃y0:Int,((d+1:Nat):Int)=y0:=⟨_,rfl⟩
  have hy1:1≤y0:=by omega
  have hy2:y0≤20:=by omega
  have HY:Hid ((d:Int)=y0-1):=hide (by omega)
  have hd1:d≤20:=by omega
  rw[hy0] at z0 ⊢
  clear hy0 HR0 HR1 hd
  go_enter Tryz.func59,Tryz.ntmps59
  go_upto_region 1 with fail
  rw[Hw1.out]
  clear Hw1
  go_wp2_with (go_at_call 97;fail)
  refine hAl.mono ?_
  rintro e w2 ⟨rfl,hb2⟩
  have hX2:=HX.out.below HX.out.lt hb2
  have hb3:=hb0.trans (hb2.mono hb0.size)
  clear hAl hb2 HX hb0 c0 c1 c2 c3 c4 c5 c6
  obtain⟨_,c0,c1,c2,c3,c4,c5,c6⟩:=hX2
  cases bt with
  | false=>
   clear HD HP Hih Hnp
   go_wp2
   go_ret
   exact⟨by rw[hr.out];rfl,hb3⟩
  | true=>
   go_wp2
   go_loopg [17] np (fun r s17 wx=>∃j:Nat,j+r=np∧s17=.int .i64 (j:Int)∧Hid (∀p∈ps.take j,p.nest d=true)∧Hid (Below w.heap.size w wx))
   case atStart=>exact⟨0,by omega,rfl,hide (fun x hx=>by simp at hx),hide hb3⟩
   case round=>
    obtain⟨j,hjg,rfl,hpre,hbr⟩:=hrel
    have hb2:=hbr.out
    clear hb3 c0 c1 c2 c3 c4 c5 c6
    cases gk with
    | zero=>
     obtain rfl:j=np:=by omega
     have hjz:¬((j:Int)<(j:Int)):=by omega
     have hq:Hid (R=true):=hide (by
      rw[hr.out]
      have:=hpre.out
      rw[List.take_of_length_le (by rw[Hnp.out];exact Nat.le_refl _)] at this
      rw[List.all_eq_true.2 this];rfl)
     clear HD HP Hih Hnp hpre hr
     go_wp2
     go_ret
     exact⟨by rw[hq.out];rfl,hb2⟩
    | succ r=>
     have hj:j<np:=by omega
     have hjz:(j:Int)<(np:Int):=by omega
     obtain⟨p,hp⟩:∃p,ps[j]?=some p:=⟨_,List.getElem?_eq_getElem (by rw[Hnp.out];exact hj)⟩
     have HD1:=HD.out
     have HP1:=HP.out
     obtain⟨g,o,hDe,hg,hparts⟩:=HD.out.part HP1 (fun h=>by rw[h] at hp;simp at hp)
     subst hDe
     obtain⟨u0,u1,u2,u3,u4,u5,u6,hpart⟩:=hparts j p hp
     obtain⟨pk,pa,pv,pf,pl,pA,pm,pc,pD,pn,pd,rfl,rfl,rfl,rfl,rfl,rfl,rfl⟩:=hpart.fin.shape
     obtain⟨hcp2,_,x0,x1,x2,x3,x4,x5,x6⟩:=hpart.below hb2
     replace hcp2:=hcp2.upto hb2.size
     have hPX:=Box7.new wr pk pa pv pf pl pA pm pc pD pn pd 39
     have hbp:=below1 wr (.cells #[.int .i64 pk,.string pa,.string pv,.string pf,.string pl,.slice pA pm pc,.slice pD pn pd] 39)
     obtain⟨wp,hwp⟩:∃wp,wr.alloc (.cells #[.int .i64 pk,.string pa,.string pv,.string pf,.string pl,.slice pA pm pc,.slice pD pn pd] 39)=wp:=⟨_,rfl⟩
     rw[hwp] at hPX hbp
     have hcp3:=hcp2.grow hbp
     have hb5:=hb2.trans (hbp.mono hb2.size)
     obtain⟨_,p0,p1,p2,p3,p4,p5,p6⟩:=hPX
     have hcall:=Hih.out p (List.mem_of_getElem? hp) d hd1 wp _ _ _ _ _ _ _ hcp3
     rw[HY.out] at hcall
     have Hwp:=hide hwp
     cases hpa:p.nest d with
     | false=>
      have hq:Hid (R=false):=hide (by
       rw[hr.out]
       have:ps.all (fun p=>p.nest d)=false:=by rw[List.all_eq_false];exact⟨p,List.mem_of_getElem? hp,by rw[hpa];exact Bool.false_ne_true⟩
       rw[this];rfl)
      rw[hpa] at hcall
      clear HD HP Hih Hnp hpre hr hp HD1 HP1 hparts hpart hcp2 hcp3 hpa hwp
      go_wp2_with (go_at_call 59;fail)
      rw[Hwp.out]
      refine hcall.mono ?_
      rintro e w3 ⟨rfl,hb3⟩
      have hb4:=hb5.trans (hb3.mono hb5.size)
      clear hcall hb3 hbr hb2 hb5 hbp x0 x1 x2 x3 x4 x5 x6 p0 p1 p2 p3 p4 p5 p6
      go_wp2
      go_ret
      exact⟨by rw[hq.out];rfl,hb4⟩
     | true=>
      have hst:Hid (∀y∈ps.take (j+1),y.nest d=true):=hide (fun y hy=>by
       rw[List.take_add_one,hp] at hy
       simp only[Option.toList_some,List.mem_append,List.mem_singleton] at hy
       rcases hy with hy | rfl
       ·exact hpre.out y hy
       ·exact hpa)
      rw[hpa] at hcall
      clear HD HP Hih Hnp hpre hr hp HD1 HP1 hparts hpart hcp2 hcp3 hpa hwp
      go_wp2_with (go_at_call 59;fail)
      rw[Hwp.out]
      refine hcall.mono ?_
      rintro e w3 ⟨rfl,hb3⟩
      have hb4:=hide (hb5.trans (hb3.mono hb5.size))
      clear hcall hb3 hbr hb2 hb5 hbp x0 x1 x2 x3 x4 x5 x6 p0 p1 p2 p3 p4 p5 p6
      go_wp2
      go_roundg r
      case measure=>omega
      case rel=>exact⟨j+1,by omega,by go_num,hst,hb4⟩
theorem jFormed_any (t:FT) (w:World) (u0 u1 u2 u3 u4 u5 u6:Value) (hF:FIn w w.heap.size t [u0,u1,u2,u3,u4,u5,u6]):
  Calls Tryz.prog 21 #[.agg #[u0,u1,u2,u3,u4,u5,u6]] w fun e w'=>e=.returned (.bool t.formed)∧Below w.heap.size w w':=by
 cases t with
 | mk k a v f l any ps=>
 have hF0:=hF
 simp only[FIn] at hF
 obtain⟨A,c,D,dd,xs,hcs,⟨hml,hnl⟩,hA,hD,hP⟩:=hF
 cases hcs
 unfold maxLen at hml hnl
 obtain⟨m,hm⟩:∃m,any.length=m:=⟨_,rfl⟩
 obtain⟨np,hnp⟩:∃np,ps.length=np:=⟨_,rfl⟩
 have hml1:(m:Int)≤9223372036854775807:=by omega
 have hnl1:(np:Int)≤9223372036854775807:=by omega
 have hX:=Box7.new w k (txt a) (txt v) (txt f) (txt l) A any.length c D ps.length dd 39
 have hb0:=below1 w (.cells #[.int .i64 k,.string (txt a),.string (txt v),.string (txt f),.string (txt l),.slice A any.length c,.slice D ps.length dd] 39)
 obtain⟨w1,hw1⟩:∃w1,(w.alloc (.cells #[.int .i64 k,.string (txt a),.string (txt v),.string (txt f),.string (txt l),.slice A any.length c,.slice D ps.length dd] 39))=w1:=⟨_,rfl⟩
 rw[hw1] at hX hb0
 have hF1:=hF0.grow hb0
 have hA1:=(hA.below hb0).upto hb0.size
 rw[hm,hnp] at hX hw1 hF1 ⊢
 rw[hm] at hA1
 have Hw1:=hide hw1
 obtain⟨t0,ht0⟩:∃t0,FT.mk k a v f l any ps=t0:=⟨_,rfl⟩
 rw[ht0] at hF1 ⊢
 have hN:=jnodes_any t0 w1 _ _ _ _ _ _ _ hF1
 have hFo:=fun w2 (hb:Below w1.heap.size w1 w2)=>jformed_any t0 20 (by omega) w2 _ _ _ _ _ _ _ (hF1.grow hb)
 obtain⟨y,hy⟩:∃y:Nat,min t0.nodes 41=y:=⟨_,rfl⟩
 obtain⟨R,hR⟩:∃R,t0.formed=R:=⟨_,rfl⟩
 obtain⟨ne,hne⟩:∃ne,t0.nest 20=ne:=⟨_,rfl⟩
 have hRd:R=(decide (t0.nodes≤40)&&ne):=by rw[←hR,←hne,FT.formed_nest]
 rw[hy] at hN
 rw[hne] at hFo
 rw[hR]
 have HFo:=hide hFo
 have HX:=hide hX
 clear hA hD hP hm hnp hml hnl hR hne ht0 hF0 hF1 hA1 hw1 hFo
 generalize txt a=sa at *
 generalize txt v=sv at *
 generalize txt f=sf at *
 generalize txt l=sl at *
 obtain⟨_,c0,c1,c2,c3,c4,c5,c6⟩:=hX
 by_cases h1:t0.nodes≤40
 ·have z1:(y:Int)≤40:=by omega
  rw[decide_eq_true h1,Bool.true_and] at hRd
  have hr:=hide hRd
  clear hRd hy h1
  go_enter Tryz.func21,Tryz.ntmps21
  go_upto_region 1 with fail
  rw[Hw1.out]
  clear Hw1
  go_wp2_with (go_at_call 58;fail)
  refine hN.mono ?_
  rintro e w2 ⟨rfl,hb2⟩
  have hFo:=HFo.out w2 hb2
  have hX2:=HX.out.below HX.out.lt hb2
  have hb3:=hb0.trans (hb2.mono hb0.size)
  clear hN hb2 HX hb0 HFo c0 c1 c2 c3 c4 c5 c6
  obtain⟨_,c0,c1,c2,c3,c4,c5,c6⟩:=hX2
  go_wp2_with (go_at_call 59;fail)
  refine hFo.mono ?_
  rintro e w3 ⟨rfl,hb4⟩
  have hb5:=hb3.trans (hb4.mono hb3.size)
  clear hFo hb4 hb3 c0 c1 c2 c3 c4 c5 c6
  go_wp2
  go_ret
  exact⟨by rw[hr.out];try rfl,hb5⟩
 ·have z1:¬((y:Int)≤40):=by omega
  rw[decide_eq_false h1,Bool.false_and] at hRd
  have hr:=hide hRd
  clear hRd hy h1 HFo HX
  go_enter Tryz.func21,Tryz.ntmps21
  go_upto_region 1 with fail
  rw[Hw1.out]
  clear Hw1
  go_wp2_with (go_at_call 58;fail)
  refine hN.mono ?_
  rintro e w2 ⟨rfl,hb2⟩
  have hb3:=hb0.trans (hb2.mono hb0.size)
  clear hN hb2 hb0 c0 c1 c2 c3 c4 c5 c6
  go_wp2
  go_ret
  exact⟨by rw[hr.out];rfl,hb3⟩
end Go.Proofs.YtpkedjohgmnhhaaGreat
