/- Several texts in one: HSmall, HFormed. By an AI agent. -/
import Derived.Test.YtpkedjohgmnhhaaGreatM06
import Derived.Test.YtpkedjohgmnhhaaGreatHBare
set_option maxRecDepth 100000
set_option maxHeartbeats 32000000
set_option linter.unusedSimpArgs false
namespace Go.Proofs.YtpkedjohgmnhhaaGreat
open Go.RowKit
set_option linter.unusedVariables false
namespace FT
mutual
theorem small_bound:∀(t:FT) (d n:Int),0≤n→n≤60→ -1≤t.small d n∧t.small d n≤60
 | .mk k a v f l any ps,d,n,h0,h1=>by
  simp only[small]
  split
  ·omega
  ·split
   ·omega
   ·exact smallL_bound ps (d+1) (n-1) (by omega) (by omega)
theorem smallL_bound:∀(ps:List FT) (d n:Int),-1≤n→n≤60→ -1≤smallL ps d n∧smallL ps d n≤60
 | [],d,n,h0,h1=>by simp only[smallL];omega
 | p::r,d,n,h0,h1=>by
  simp only[smallL]
  split
  ·omega
  ·have:=small_bound p d n (by omega) h1
   exact smallL_bound r d _ this.1 this.2
end
theorem smallL_drop {ps:List FT} {i:Nat} {p:FT} {d n:Int} (h:ps[i]?=some p):smallL (ps.drop i) d n=if n<0 then -1 else smallL (ps.drop (i+1)) d (p.small d n):=by
 obtain⟨hi,he⟩:=List.getElem?_eq_some_iff.1 h
 rw[List.drop_eq_getElem_cons hi,he]
 simp only[smallL]
theorem smallL_end {ps:List FT} {i:Nat} {d n:Int} (h:ps.length≤i):smallL (ps.drop i) d n=n:=by
 rw[List.drop_eq_nil_of_le h]
 simp only[smallL]
end FT
inductive SmallWay (a v f l:List UInt8) (any:List (List UInt8)) (ps:List FT) (d n R:Int):Prop where
 | deep (h:40<d) (e:R= -1)
 | many (h:d≤40) (h1:100<any.length) (e:R= -1)
 | val (h:d≤40) (h1:any.length≤100) (h2:2000<v.length) (e:R= -1)
 | att (h:d≤40) (h1:any.length≤100) (h2:v.length≤2000) (h3:2000<a.length) (e:R= -1)
 | fst (h:d≤40) (h1:any.length≤100) (h2:v.length≤2000) (h3:a.length≤2000) (h4:2000<f.length) (e:R= -1)
 | lst (h:d≤40) (h1:any.length≤100) (h2:v.length≤2000) (h3:a.length≤2000) (h4:f.length≤2000) (h5:2000<l.length) (e:R= -1)
 | go (h:d≤40) (h1:any.length≤100) (h2:v.length≤2000) (h3:a.length≤2000) (h4:f.length≤2000) (h5:l.length≤2000)
  (e1:(∃x∈any,2000<x.length)→R= -1) (e2:(∀x∈any,x.length≤2000)→R=FT.smallL ps (d+1) (n-1))
theorem fsmall_way (k:Int) (a v f l:List UInt8) (any:List (List UInt8)) (ps:List FT) (d n:Int):SmallWay a v f l any ps d n (FT.small (.mk k a v f l any ps) d n):=by
 simp only[FT.small]
 by_cases h:40<d
 ·exact .deep h (by rw[if_pos (by simp[h])])
 by_cases h1:100<any.length
 ·exact .many (by omega) h1 (by rw[if_pos (by simp[h1])])
 by_cases h2:2000<v.length
 ·exact .val (by omega) (by omega) h2 (by rw[if_pos (by simp[h2])])
 by_cases h3:2000<a.length
 ·exact .att (by omega) (by omega) (by omega) h3 (by rw[if_pos (by simp[h3])])
 by_cases h4:2000<f.length
 ·exact .fst (by omega) (by omega) (by omega) (by omega) h4 (by rw[if_pos (by simp[h4])])
 by_cases h5:2000<l.length
 ·exact .lst (by omega) (by omega) (by omega) (by omega) (by omega) h5 (by rw[if_pos (by simp[h5])])
 refine .go (by omega) (by omega) (by omega) (by omega) (by omega) (by omega) (fun ⟨x,hx,hl⟩=>?_) (fun hx=>?_)
 ·rw [if_neg (by omega),if_pos (by simp only[List.any_eq_true,decide_eq_true_eq];exact⟨x,hx,hl⟩)]
 ·rw [if_neg (by omega),if_neg (by
   simp only[List.any_eq_true,decide_eq_true_eq]
   rintro ⟨x,h6,h7⟩
   have:=hx x h6
   omega)]
theorem fsmall_any (t:FT):∀(d n:Int),0≤d→d≤41→0≤n→n≤60→∀(w:World) (u0 u1 u2 u3 u4 u5 u6:Value),FIn w w.heap.size t [u0,u1,u2,u3,u4,u5,u6]→
  Calls Tryz.prog 57 #[.agg #[u0,u1,u2,u3,u4,u5,u6],.int .i64 d,.int .i64 n] w fun e w'=>e=.returned (.int .i64 (t.small d n))∧Below w.heap.size w w':=by
 induction t using FT.induct
 rename_i k a v f l any ps ih
 intro d n hd0 hd hn0 hn w u0 u1 u2 u3 u4 u5 u6 hF
 simp only[FIn] at hF
 obtain⟨A,c,D,dd,xs,hcs,⟨hml,hnl⟩,hA,hD,hP⟩:=hF
 cases hcs
 unfold maxLen at hml hnl
 have ha:=txt_size a
 have hv:=txt_size v
 have hf:=txt_size f
 have hl:=txt_size l
 obtain⟨R,hR⟩:∃R,FT.small (.mk k a v f l any ps) d n=R:=⟨_,rfl⟩
 have hB:=FT.small_bound (.mk k a v f l any ps) d n hn0 hn
 have hW:=fsmall_way k a v f l any ps d n
 rw[hR] at hW hB ⊢
 obtain⟨m,hm⟩:∃m,any.length=m:=⟨_,rfl⟩
 obtain⟨np,hnp⟩:∃np,ps.length=np:=⟨_,rfl⟩
 have hml1:(m:Int)≤9223372036854775807:=by omega
 have hnl1:(np:Int)≤9223372036854775807:=by omega
 have hX:=Box7.new w k (txt a) (txt v) (txt f) (txt l) A any.length c D ps.length dd 25
 have hb0:=below1 w (.cells #[.int .i64 k,.string (txt a),.string (txt v),.string (txt f),.string (txt l),.slice A any.length c,.slice D ps.length dd] 25)
 rw[hm,hnp] at hX hb0 ⊢
 cases hW with
 | deep h e0=>
  subst e0
  obtain⟨_,c0,c1,c2,c3,c4,c5,c6⟩:=hX
  have y0:40<d:=h
  generalize txt a=sa at *
  generalize txt v=sv at *
  generalize txt f=sf at *
  generalize txt l=sl at *
  clear ih hR hB hA hD hP ha hv hf hl hm hnp hml hnl hd0 hd hn0 hn
  go_enter Tryz.func57,Tryz.ntmps57
  go_wp2
  go_ret
  exact⟨rfl,hb0⟩
 | many h h1 e0=>
  subst e0
  obtain⟨_,c0,c1,c2,c3,c4,c5,c6⟩:=hX
  have z0:¬(40<d):=by omega
  have z1:((100:Int)<(m:Int)):=by omega
  generalize txt a=sa at *
  generalize txt v=sv at *
  generalize txt f=sf at *
  generalize txt l=sl at *
  clear ih hR hB hA hD hP ha hv hf hl hm hnp hml hnl hd0 hd hn0 hn
  go_enter Tryz.func57,Tryz.ntmps57
  go_wp2
  go_ret
  exact⟨rfl,hb0⟩
 | val h h1 h2 e0=>
  subst e0
  obtain⟨_,c0,c1,c2,c3,c4,c5,c6⟩:=hX
  have z0:¬(40<d):=by omega
  have z1:¬((100:Int)<(m:Int)):=by omega
  have z2:((2000:Int)<((txt v).size:Int)):=by omega
  generalize txt a=sa at *
  generalize txt v=sv at *
  generalize txt f=sf at *
  generalize txt l=sl at *
  clear ih hR hB hA hD hP ha hv hf hl hm hnp hml hnl hd0 hd hn0 hn
  go_enter Tryz.func57,Tryz.ntmps57
  go_wp2
  go_ret
  exact⟨rfl,hb0⟩
 | att h h1 h2 h3 e0=>
  subst e0
  obtain⟨_,c0,c1,c2,c3,c4,c5,c6⟩:=hX
  have z0:¬(40<d):=by omega
  have z1:¬((100:Int)<(m:Int)):=by omega
  have z2:¬((2000:Int)<((txt v).size:Int)):=by omega
  have z3:((2000:Int)<((txt a).size:Int)):=by omega
  generalize txt a=sa at *
  generalize txt v=sv at *
  generalize txt f=sf at *
  generalize txt l=sl at *
  clear ih hR hB hA hD hP ha hv hf hl hm hnp hml hnl hd0 hd hn0 hn
  go_enter Tryz.func57,Tryz.ntmps57
  go_wp2
  go_ret
  exact⟨rfl,hb0⟩
 | fst h h1 h2 h3 h4 e0=>
  subst e0
  obtain⟨_,c0,c1,c2,c3,c4,c5,c6⟩:=hX
  have z0:¬(40<d):=by omega
  have z1:¬((100:Int)<(m:Int)):=by omega
  have z2:¬((2000:Int)<((txt v).size:Int)):=by omega
  have z3:¬((2000:Int)<((txt a).size:Int)):=by omega
  have z4:((2000:Int)<((txt f).size:Int)):=by omega
  generalize txt a=sa at *
  generalize txt v=sv at *
  generalize txt f=sf at *
  generalize txt l=sl at *
  clear ih hR hB hA hD hP ha hv hf hl hm hnp hml hnl hd0 hd hn0 hn
  go_enter Tryz.func57,Tryz.ntmps57
  go_wp2
  go_ret
  exact⟨rfl,hb0⟩
 | lst h h1 h2 h3 h4 h5 e0=>
  subst e0
  obtain⟨_,c0,c1,c2,c3,c4,c5,c6⟩:=hX
  have z0:¬(40<d):=by omega
  have z1:¬((100:Int)<(m:Int)):=by omega
  have z2:¬((2000:Int)<((txt v).size:Int)):=by omega
  have z3:¬((2000:Int)<((txt a).size:Int)):=by omega
  have z4:¬((2000:Int)<((txt f).size:Int)):=by omega
  have z5:((2000:Int)<((txt l).size:Int)):=by omega
  generalize txt a=sa at *
  generalize txt v=sv at *
  generalize txt f=sf at *
  generalize txt l=sl at *
  clear ih hR hB hA hD hP ha hv hf hl hm hnp hml hnl hd0 hd hn0 hn
  go_enter Tryz.func57,Tryz.ntmps57
  go_wp2
  go_ret
  exact⟨rfl,hb0⟩
 | go h h1 h2 h3 h4 h5 e1 e2=>
  have z0:¬(40<d):=by omega
  have z1:¬((100:Int)<(m:Int)):=by omega
  have z2:¬((2000:Int)<((txt v).size:Int)):=by omega
  have z3:¬((2000:Int)<((txt a).size:Int)):=by omega
  have z4:¬((2000:Int)<((txt f).size:Int)):=by omega
  have z5:¬((2000:Int)<((txt l).size:Int)):=by omega
  have HX:=hide hX
  have HE1:=hide e1
  have HE2:=hide e2
  have HA:=hide hA
  have HD:=hide hD
  have HP:=hide hP
  have Hih:=hide ih
  have Hm:=hide hm
  have Hnp:=hide hnp
  have HBd:=hide hB
  obtain⟨_,c0,c1,c2,c3,c4,c5,c6⟩:=hX
  generalize txt a=sa at *
  generalize txt v=sv at *
  generalize txt f=sf at *
  generalize txt l=sl at *
  clear ih hR hB hA hD hP ha hv hf hl hm hnp hml hnl e1 e2 h1 h2 h3 h4 h5
  go_enter Tryz.func57,Tryz.ntmps57
  go_wp2
  go_loopg [44] m (fun r s44 wx=>∃i:Nat,i+r=m∧s44=.int .i64 (i:Int)∧Hid (Below w.heap.size w wx∧Box7 wx w.heap.size k sa sv sf sl A m c D np dd)∧Hid (∀x∈any.take i,x.length≤2000))
  case atStart=>exact⟨0,by omega,rfl,hide ⟨hb0,HX.out⟩,hide fun x hx=>by simp at hx⟩
  case round=>
   obtain⟨i,hig,rfl,hbr,hpre⟩:=hrel
   obtain⟨hb1,hX1⟩:=hbr.out
   clear c0 c1 c2 c3 c4 c5 c6 HX hb0
   cases gk with
   | succ r=>
    have hi:i<m:=by omega
    have hiz:(i:Int)<(m:Int):=by omega
    obtain⟨x,hx⟩:∃x,any[i]?=some x:=⟨_,List.getElem?_eq_getElem (by rw[Hm.out];exact hi)⟩
    have HA1:=HA.out
    rw[Hm.out] at HA1
    obtain⟨g,o,hAe,hg,hc⟩:=HA1.texts (fun h=>by rw[h] at hx;simp at hx)
    subst hAe
    have x0:=(hb1.cell (p:=⟨g,o+i,none⟩) hg).trans (hc i x hx)
    have hxs:=txt_size x
    obtain⟨_,c0,c1,c2,c3,c4,c5,c6⟩:=hX1
    by_cases hxl:2000<x.length
    ·have zx:(2000:Int)<((txt x).size:Int):=by omega
     have hRr:Hid (R= -1):=hide (HE1.out ⟨x,List.mem_of_getElem? hx,hxl⟩)
     generalize txt x=sx at *
     clear HA1 hc hx hxs hxl HE1 HE2 HA HD HP Hih Hm Hnp HBd hpre
     go_wp2
     go_ret
     exact⟨by rw[hRr.out];rfl,hb1⟩
    ·have zx:¬((2000:Int)<((txt x).size:Int)):=by omega
     have hpre2:Hid (∀y∈any.take (i+1),y.length≤2000):=hide (fun y hy=>by
      rw[List.take_add_one,hx] at hy
      simp only[Option.toList_some,List.mem_append,List.mem_singleton] at hy
      rcases hy with hy | rfl
      ·exact hpre.out y hy
      ·omega)
     generalize txt x=sx at *
     clear HA1 hc hx hxs hxl HE1 HE2 HA HD HP Hih Hm Hnp HBd hpre
     go_wp2
     go_roundg r
     case measure=>omega
     case rel=>exact⟨i+1,by omega,by go_num,hbr,hpre2⟩
   | zero=>
    obtain rfl:i=m:=by omega
    have hiz:¬((i:Int)<(i:Int)):=by omega
    have HR:Hid (R=FT.smallL (ps.drop 0) (d+1) (n-1)):=hide (HE2.out (by
     have:=hpre.out
     rwa [List.take_of_length_le (by rw[Hm.out];exact Nat.le_refl _)] at this))
    obtain⟨_,c0,c1,c2,c3,c4,c5,c6⟩:=hX1
    clear HE1 HE2 HA hpre Hm
    go_wp2
    go_loopg [2,60] np (fun r s2 s60 wx=>∃(j:Nat) (q:Int),j+r=np∧s60=.int .i64 (j:Int)∧s2=.int .i64 q∧ -1≤q∧q≤60∧Hid (Below w.heap.size w wx∧Box7 wx w.heap.size k sa sv sf sl A i c D np dd)∧Hid (R=FT.smallL (ps.drop j) (d+1) q))
    case atStart=>exact⟨0,n-1,by omega,rfl,by go_num,by omega,by omega,hbr,HR⟩
    case round=>
     obtain⟨j,q,hjg,rfl,rfl,hq0,hq1,hbr2,hpre2⟩:=hrel
     obtain⟨hb2,hX2⟩:=hbr2.out
     clear c0 c1 c2 c3 c4 c5 c6 hbr hb1
     cases gk with
     | zero=>
      obtain rfl:j=np:=by omega
      have hjz:¬((j:Int)<(j:Int)):=by omega
      have hq:Hid (R=q):=hide (by rw[hpre2.out,FT.smallL_end (by rw[Hnp.out];exact Nat.le_refl _)])
      obtain⟨_,c0,c1,c2,c3,c4,c5,c6⟩:=hX2
      clear HD HP Hih Hnp HBd hpre2 HR
      go_wp2
      go_ret
      exact⟨by rw[hq.out];rfl,hb2⟩
     | succ r=>
      have hj:j<np:=by omega
      have hjz:(j:Int)<(np:Int):=by omega
      obtain⟨p,hp⟩:∃p,ps[j]?=some p:=⟨_,List.getElem?_eq_getElem (by rw[Hnp.out];exact hj)⟩
      have hst:=FT.smallL_drop (d:=d+1) (n:=q) hp
      rw[←hpre2.out] at hst
      by_cases hqn:q<0
      ·rw [if_pos hqn] at hst
       have Hst:=hide hst
       obtain⟨_,c0,c1,c2,c3,c4,c5,c6⟩:=hX2
       clear HD HP Hih Hnp HBd hpre2 HR hp hst
       go_wp2
       go_ret
       exact⟨by rw[Hst.out];rfl,hb2⟩
      ·rw [if_neg hqn] at hst
       have Hst:=hide hst
       have HD1:=HD.out
       obtain⟨g,o,hDe,hg,hparts⟩:=HD1.part HP.out (fun h=>by rw[h] at hp;simp at hp)
       subst hDe
       obtain⟨u0,u1,u2,u3,u4,u5,u6,hpart⟩:=hparts j p hp
       obtain⟨hcp2,_,x0,x1,x2,x3,x4,x5,x6⟩:=hpart.below hb2
       replace hcp2:=hcp2.upto hb2.size
       have hcall:=Hih.out p (List.mem_of_getElem? hp) (d+1) q (by omega) (by omega) (by omega) hq1 wr _ _ _ _ _ _ _ hcp2
       have hbd:=FT.small_bound p (d+1) q (by omega) hq1
       obtain⟨z,hz⟩:∃z,p.small (d+1) q=z:=⟨_,rfl⟩
       rw[hz] at hcall hbd Hst
       obtain⟨_,c0,c1,c2,c3,c4,c5,c6⟩:=hX2
       have HX2:=hide hbr2.out.2
       clear HD HP Hih Hnp HBd hpre2 HR hp hst HD1 hparts hpart hcp2 hz
       go_wp2_with (go_at_call 57;fail)
       refine hcall.mono ?_
       rintro e w3 ⟨rfl,hb3⟩
       have hb4:=hb2.trans (hb3.mono hb2.size)
       have hX3:Hid (Below w.heap.size w w3∧Box7 w3 w.heap.size k sa sv sf sl A i c (some ⟨g,o,none⟩) np dd):=hide ⟨hb4,HX2.out.below HX2.out.lt hb3⟩
       clear hcall hb3 hb4 hbr2 hb2 c0 c1 c2 c3 c4 c5 c6
       go_wp2
       go_roundg r
       case measure=>omega
       case rel=>exact⟨j+1,z,by omega,by go_num,rfl,hbd.1,hbd.2,hX3,Hst⟩
end Go.Proofs.YtpkedjohgmnhhaaGreat
namespace Go.Proofs.YtpkedjohgmnhhaaGreat
open Go.RowKit
set_option linter.unusedVariables false
theorem FT.all_mk (k:Int) (a v f l:List UInt8) (any:List (List UInt8)) (ps:List FT):FT.all (.mk k a v f l any ps)=(FT.bare (.mk k a v f l any ps)&&ps.all FT.all):=by
 rw[FT.all,FT.allL_all]
theorem rall_any (t:FT):∀(w:World) (u0 u1 u2 u3 u4 u5 u6:Value),FIn w w.heap.size t [u0,u1,u2,u3,u4,u5,u6]→
  Calls Tryz.prog 116 #[.agg #[u0,u1,u2,u3,u4,u5,u6]] w fun e w'=>e=.returned (.bool t.all)∧Below w.heap.size w w':=by
 induction t using FT.induct
 rename_i k a v f l any ps ih
 intro w u0 u1 u2 u3 u4 u5 u6 hF
 have hF0:=hF
 simp only[FIn] at hF
 obtain⟨A,c,D,dd,xs,hcs,⟨hml,hnl⟩,hA,hD,hP⟩:=hF
 cases hcs
 unfold maxLen at hml hnl
 obtain⟨m,hm⟩:∃m,any.length=m:=⟨_,rfl⟩
 obtain⟨np,hnp⟩:∃np,ps.length=np:=⟨_,rfl⟩
 have hnl1:(np:Int)≤9223372036854775807:=by omega
 have hX:=Box7.new w k (txt a) (txt v) (txt f) (txt l) A any.length c D ps.length dd 25
 have hb0:=below1 w (.cells #[.int .i64 k,.string (txt a),.string (txt v),.string (txt f),.string (txt l),.slice A any.length c,.slice D ps.length dd] 25)
 rw[hm,hnp] at hX hb0 ⊢
 obtain⟨t0,ht0⟩:∃t0,FT.mk k a v f l any ps=t0:=⟨_,rfl⟩
 have htp:t0.parts=ps:=by rw[←ht0];rfl
 obtain⟨R,hR⟩:∃R:Bool,t0.all=R:=⟨_,rfl⟩
 have hRd:R=(t0.bare&&ps.all FT.all):=by rw[←hR,←ht0,FT.all_mk]
 rw[ht0] at hF0
 rw[ht0,hR]
 obtain⟨w1,hw1⟩:∃w1,(w.alloc (.cells #[.int .i64 k,.string (txt a),.string (txt v),.string (txt f),.string (txt l),.slice A m c,.slice D np dd] 25))=w1:=⟨_,rfl⟩
 rw[hw1] at hX hb0
 have hF1:=hF0.grow hb0
 rw[hm,hnp] at hF1
 have hbare:=rbare_any t0 w1 _ _ _ _ _ _ _ hF1
 obtain⟨bt,hbt⟩:∃bt:Bool,t0.bare=bt:=⟨_,rfl⟩
 rw[hbt] at hbare hRd
 have HR:=hide hRd
 have HD:=hide hD
 have HP:=hide hP
 have Hih:=hide ih
 have Hnp:=hide hnp
 have HX:=hide hX
 have Hw1:=hide hw1
 generalize txt a=sa at *
 generalize txt v=sv at *
 generalize txt f=sf at *
 generalize txt l=sl at *
 clear ih hA hD hP hm hnp hml hnl hR ht0 htp hX hRd hF0 hF1 hbt hw1
 obtain⟨_,c0,c1,c2,c3,c4,c5,c6⟩:=HX.out
 rw[←Hw1.out] at c0 c1 c2 c3 c4 c5 c6 hbare
 go_enter Tryz.func116,Tryz.ntmps116
 go_wp2_with (go_at_call 149;fail)
 refine hbare.mono ?_
 rintro e w2 ⟨rfl,hb2⟩
 rw[Hw1.out] at hb2
 have hX2:=HX.out.below HX.out.lt hb2
 have hb3:=hb0.trans (hb2.mono hb0.size)
 clear hbare hb2 HX hb0 Hw1 c0 c1 c2 c3 c4 c5 c6
 have HX2:=hide hX2
 obtain⟨_,c0,c1,c2,c3,c4,c5,c6⟩:=hX2
 cases bt with
 | false=>
  clear HD HP Hih Hnp
  go_wp2
  go_ret
  exact⟨by rw[HR.out];rfl,hb3⟩
 | true=>
  go_wp2
  go_loopg [10] np (fun r s10 wx=>∃j:Nat,j+r=np∧s10=.int .i64 (j:Int)∧Hid (∀p∈ps.take j,p.all=true)∧Hid (Below w.heap.size w wx∧Box7 wx w.heap.size k sa sv sf sl A m c D np dd))
  case atStart=>exact⟨0,by omega,rfl,hide (fun x hx=>by simp at hx),hide ⟨hb3,HX2.out⟩⟩
  case round=>
   obtain⟨j,hjg,rfl,hpre,hbr⟩:=hrel
   obtain⟨hb2,hX2⟩:=hbr.out
   clear hb3 c0 c1 c2 c3 c4 c5 c6
   obtain⟨_,c0,c1,c2,c3,c4,c5,c6⟩:=hX2
   cases gk with
   | zero=>
    obtain rfl:j=np:=by omega
    have hjz:¬((j:Int)<(j:Int)):=by omega
    have hq:Hid (R=true):=hide (by
     rw[HR.out]
     have:=hpre.out
     rw[List.take_of_length_le (by rw[Hnp.out];exact Nat.le_refl _)] at this
     rw[List.all_eq_true.2 this];rfl)
    clear HD HP Hih Hnp hpre HR
    go_wp2
    go_ret
    exact⟨by rw[hq.out];rfl,hb2⟩
   | succ r=>
    have hj:j<np:=by omega
    have hjz:(j:Int)<(np:Int):=by omega
    obtain⟨p,hp⟩:∃p,ps[j]?=some p:=⟨_,List.getElem?_eq_getElem (by rw[Hnp.out];exact hj)⟩
    have HD1:=HD.out
    rw[Hnp.out] at HD1
    have HP1:=HP.out
    obtain⟨g,o,hDe,hg,hparts⟩:=HD.out.part HP1 (fun h=>by rw[h] at hp;simp at hp)
    subst hDe
    obtain⟨u0,u1,u2,u3,u4,u5,u6,hpart⟩:=hparts j p hp
    obtain⟨hcp2,_,x0,x1,x2,x3,x4,x5,x6⟩:=hpart.below hb2
    replace hcp2:=hcp2.upto hb2.size
    have hcall:=Hih.out p (List.mem_of_getElem? hp) wr _ _ _ _ _ _ _ hcp2
    have HX2:=hide hbr.out.2
    cases hpa:p.all with
    | false=>
     have hq:Hid (R=false):=hide (by
      rw[HR.out]
      have:ps.all FT.all=false:=by rw[List.all_eq_false];exact⟨p,List.mem_of_getElem? hp,by rw[hpa];exact Bool.false_ne_true⟩
      rw[this];rfl)
     rw[hpa] at hcall
     clear HD HP Hih Hnp hpre HR hp HD1 HP1 hparts hpart hcp2 hpa
     go_wp2_with (go_at_call 116;fail)
     refine hcall.mono ?_
     rintro e w3 ⟨rfl,hb3⟩
     have hb4:=hb2.trans (hb3.mono hb2.size)
     clear hcall hb3 hbr hb2 c0 c1 c2 c3 c4 c5 c6 HX2
     go_wp2
     go_ret
     exact⟨by rw[hq.out];rfl,hb4⟩
    | true=>
     have hst:Hid (∀y∈ps.take (j+1),y.all=true):=hide (fun y hy=>by
      rw[List.take_add_one,hp] at hy
      simp only[Option.toList_some,List.mem_append,List.mem_singleton] at hy
      rcases hy with hy | rfl
      ·exact hpre.out y hy
      ·exact hpa)
     rw[hpa] at hcall
     clear HD HP Hih Hnp hpre HR hp HD1 HP1 hparts hpart hcp2 hpa
     go_wp2_with (go_at_call 116;fail)
     refine hcall.mono ?_
     rintro e w3 ⟨rfl,hb3⟩
     have hb4:=hb2.trans (hb3.mono hb2.size)
     have hX3:Hid (Below w.heap.size w w3∧Box7 w3 w.heap.size k sa sv sf sl A m c (some ⟨g,o,none⟩) np dd):=hide ⟨hb4,HX2.out.below HX2.out.lt hb3⟩
     clear hcall hb3 hb4 hbr hb2 c0 c1 c2 c3 c4 c5 c6
     go_wp2
     go_roundg r
     case measure=>omega
     case rel=>exact⟨j+1,by omega,by go_num,hst,hX3⟩
theorem rfformed_any (t:FT) (w:World) (u0 u1 u2 u3 u4 u5 u6:Value) (hF:FIn w w.heap.size t [u0,u1,u2,u3,u4,u5,u6]):
  Calls Tryz.prog 69 #[.agg #[u0,u1,u2,u3,u4,u5,u6]] w fun e w'=>e=.returned (.bool t.formed)∧Below w.heap.size w w':=by
 have hF0:=hF
 cases t with
 | mk k a v f l any ps=>
 simp only[FIn] at hF
 obtain⟨A,c,D,dd,xs,hcs,_⟩:=hF
 cases hcs
 obtain⟨m,hm⟩:∃m,any.length=m:=⟨_,rfl⟩
 obtain⟨np,hnp⟩:∃np,ps.length=np:=⟨_,rfl⟩
 have hX:=Box7.new w k (txt a) (txt v) (txt f) (txt l) A any.length c D ps.length dd 25
 have hb0:=below1 w (.cells #[.int .i64 k,.string (txt a),.string (txt v),.string (txt f),.string (txt l),.slice A any.length c,.slice D ps.length dd] 25)
 rw[hm,hnp] at hX hb0 hF0 ⊢
 obtain⟨t0,ht0⟩:∃t0,FT.mk k a v f l any ps=t0:=⟨_,rfl⟩
 rw[ht0] at hF0 ⊢
 have hF1:=hF0.grow hb0
 have hN:=rnodes_any t0 _ _ _ _ _ _ _ _ hF1
 obtain⟨y,hy⟩:∃y,min t0.nodes 41=y:=⟨_,rfl⟩
 obtain⟨z,hz⟩:∃z,min t0.depth (20+1)=z:=⟨_,rfl⟩
 obtain⟨R,hR⟩:∃R,t0.formed=R:=⟨_,rfl⟩
 rw[hR]
 have hRd:R=(decide (t0.nodes≤40)&&decide (t0.depth≤20)&&t0.all):=by rw[←hR];rfl
 rw[hy] at hN
 have HMd:=hide hz
 have HX:=hide hX
 clear hF0 hR hm hnp ht0
 generalize txt a=sa at *
 generalize txt v=sv at *
 generalize txt f=sf at *
 generalize txt l=sl at *
 obtain⟨_,c0,c1,c2,c3,c4,c5,c6⟩:=hX
 by_cases h1:t0.nodes≤40
 ·have z1:(y:Int)≤40:=by omega
  rw[decide_eq_true h1] at hRd
  by_cases h2:t0.depth≤20
  ·have z2:(z:Int)≤20:=by omega
   rw[decide_eq_true h2,Bool.true_and,Bool.true_and] at hRd
   have hR1:=hide hRd
   clear hRd hy hz h1 h2
   go_enter Tryz.func69,Tryz.ntmps69
   go_wp2_with (go_at_call 114;fail)
   refine hN.mono ?_
   rintro e w2 ⟨rfl,hb2⟩
   have hX2:=HX.out.below HX.out.lt hb2
   have hF2:=hF1.grow hb2
   have hb3:=hb0.trans (hb2.mono hb0.size)
   clear hN hb2 HX hb0 c0 c1 c2 c3 c4 c5 c6
   have HX2:=hide hX2
   obtain⟨_,c0,c1,c2,c3,c4,c5,c6⟩:=hX2
   have hDp:=rdeep_any t0 20 (by omega) w2 _ _ _ _ _ _ _ hF2
   rw[HMd.out] at hDp
   go_wp2_with (go_at_call 115;fail)
   refine hDp.mono ?_
   rintro e w3 ⟨rfl,hb4⟩
   have hX3:=HX2.out.below HX2.out.lt hb4
   have hF3:=hF2.grow hb4
   have hb5:=hb3.trans (hb4.mono hb3.size)
   clear hDp hb4 hb3 c0 c1 c2 c3 c4 c5 c6
   obtain⟨_,c0,c1,c2,c3,c4,c5,c6⟩:=hX3
   have hAl:=rall_any t0 w3 _ _ _ _ _ _ _ hF3
   go_wp2_with (go_at_call 116;fail)
   refine hAl.mono ?_
   rintro e w4 ⟨rfl,hb6⟩
   have hb7:=hb5.trans (hb6.mono hb5.size)
   clear hAl hb6 hb5 c0 c1 c2 c3 c4 c5 c6
   go_wp2
   go_ret
   exact⟨by rw[hR1.out];rfl,hb7⟩
  ·have z2:¬((z:Int)≤20):=by omega
   rw[decide_eq_false h2] at hRd
   have hR1:Hid (R=false):=hide (by rw[hRd];simp)
   clear hRd hy hz h1 h2
   go_enter Tryz.func69,Tryz.ntmps69
   go_wp2_with (go_at_call 114;fail)
   refine hN.mono ?_
   rintro e w2 ⟨rfl,hb2⟩
   have hX2:=HX.out.below HX.out.lt hb2
   have hF2:=hF1.grow hb2
   have hb3:=hb0.trans (hb2.mono hb0.size)
   clear hN hb2 HX hb0 c0 c1 c2 c3 c4 c5 c6
   have HX2:=hide hX2
   obtain⟨_,c0,c1,c2,c3,c4,c5,c6⟩:=hX2
   have hDp:=rdeep_any t0 20 (by omega) w2 _ _ _ _ _ _ _ hF2
   rw[HMd.out] at hDp
   go_wp2_with (go_at_call 115;fail)
   refine hDp.mono ?_
   rintro e w3 ⟨rfl,hb4⟩
   have hX3:=HX2.out.below HX2.out.lt hb4
   have hF3:=hF2.grow hb4
   have hb5:=hb3.trans (hb4.mono hb3.size)
   clear hDp hb4 hb3 c0 c1 c2 c3 c4 c5 c6
   obtain⟨_,c0,c1,c2,c3,c4,c5,c6⟩:=hX3
   go_wp2
   go_ret
   exact⟨by rw[hR1.out];rfl,hb5⟩
 ·have z1:¬((y:Int)≤40):=by omega
  rw[decide_eq_false h1] at hRd
  have hR1:Hid (R=false):=hide (by rw[hRd];simp)
  clear hRd hy hz h1
  go_enter Tryz.func69,Tryz.ntmps69
  go_wp2_with (go_at_call 114;fail)
  refine hN.mono ?_
  rintro e w2 ⟨rfl,hb2⟩
  have hX2:=HX.out.below HX.out.lt hb2
  have hF2:=hF1.grow hb2
  have hb3:=hb0.trans (hb2.mono hb0.size)
  clear hN hb2 HX hb0 c0 c1 c2 c3 c4 c5 c6
  have HX2:=hide hX2
  obtain⟨_,c0,c1,c2,c3,c4,c5,c6⟩:=hX2
  go_wp2
  go_ret
  exact⟨by rw[hR1.out];rfl,hb3⟩
def FT.smallB (t:FT):Bool:=decide (0≤t.small 0 60)
theorem fSmall_any (t:FT) (w:World) (u0 u1 u2 u3 u4 u5 u6:Value) (hF:FIn w w.heap.size t [u0,u1,u2,u3,u4,u5,u6]):
  Calls Tryz.prog 20 #[.agg #[u0,u1,u2,u3,u4,u5,u6]] w fun e w'=>e=.returned (.bool t.smallB)∧Below w.heap.size w w':=by
 have hF0:=hF
 cases t with
 | mk k a v f l any ps=>
 simp only[FIn] at hF
 obtain⟨A,c,D,dd,xs,hcs,_⟩:=hF
 cases hcs
 obtain⟨m,hm⟩:∃m,any.length=m:=⟨_,rfl⟩
 obtain⟨np,hnp⟩:∃np,ps.length=np:=⟨_,rfl⟩
 have hX:=Box7.new w k (txt a) (txt v) (txt f) (txt l) A any.length c D ps.length dd 25
 have hb0:=below1 w (.cells #[.int .i64 k,.string (txt a),.string (txt v),.string (txt f),.string (txt l),.slice A any.length c,.slice D ps.length dd] 25)
 rw[hm,hnp] at hX hb0 hF0 ⊢
 obtain⟨t0,ht0⟩:∃t0,FT.mk k a v f l any ps=t0:=⟨_,rfl⟩
 rw[ht0] at hF0 ⊢
 have hS:=fsmall_any t0 0 60 (by omega) (by omega) (by omega) (by omega) _ _ _ _ _ _ _ _ (hF0.grow hb0)
 obtain⟨y,hy⟩:∃y,t0.small 0 60=y:=⟨_,rfl⟩
 obtain⟨R,hR⟩:∃R,t0.smallB=R:=⟨_,rfl⟩
 rw[hR]
 have HR:Hid (R=decide (0≤y)):=hide (by rw[←hR,FT.smallB,hy])
 rw[hy] at hS
 clear hF0 hR hm hnp ht0 hy
 generalize txt a=sa at *
 generalize txt v=sv at *
 generalize txt f=sf at *
 generalize txt l=sl at *
 obtain⟨_,c0,c1,c2,c3,c4,c5,c6⟩:=hX
 go_enter Tryz.func20,Tryz.ntmps20
 go_wp2_with (go_at_call 57;fail)
 refine hS.mono ?_
 rintro e w2 ⟨rfl,hb2⟩
 have hb3:=hb0.trans (hb2.mono hb0.size)
 clear hS hb2 hb0 c0 c1 c2 c3 c4 c5 c6
 go_wp2
 go_ret
 exact⟨by rw[HR.out];rfl,hb3⟩
end Go.Proofs.YtpkedjohgmnhhaaGreat
