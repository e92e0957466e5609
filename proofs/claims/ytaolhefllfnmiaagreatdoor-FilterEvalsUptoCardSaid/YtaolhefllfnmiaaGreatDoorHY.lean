/- Several texts in one: HSmall, HCount, HAttr, HBare, HFormed, HSame, HEsc, HText. By an AI agent. -/
import Derived.Test.YtaolhefllfnmiaaGreatDoorHX
import Derived.Deep.CutRange
import Derived.Deep.CutBlock
import Derived.BigQuiet
set_option maxRecDepth 100000
set_option maxHeartbeats 64000000
namespace Go.Proofs.YtaolhefllfnmiaaGreatDoor
open Go.RowKit
set_option linter.unusedVariables false
namespace FT
mutual
theorem small_bound:∀(t:FT) (d n:Int),0≤n→n≤60→ -1≤t.small d n∧t.small d n≤60
 | .mk k a v f l any ps,d,n,h0,h1=>by
  simp only[small]
  split
  ·omega
  ·split
   ·omega
   ·exact smallL_bound ps (d+1) (n-1) (by omega) (by omega)
theorem smallL_bound:∀(ps:List FT) (d n:Int),-1≤n→n≤60→ -1≤smallL ps d n∧smallL ps d n≤60
 | [],d,n,h0,h1=>by simp only[smallL];omega
 | p::r,d,n,h0,h1=>by
  simp only[smallL]
  split
  ·omega
  ·have:=small_bound p d n (by omega) h1
   exact smallL_bound r d _ this.1 this.2
end
theorem smallL_drop {ps:List FT} {i:Nat} {p:FT} {d n:Int} (h:ps[i]?=some p):smallL (ps.drop i) d n=if n<0 then -1 else smallL (ps.drop (i+1)) d (p.small d n):=by
 obtain⟨hi,he⟩:=List.getElem?_eq_some_iff.1 h
 rw[List.drop_eq_getElem_cons hi,he]
 simp only[smallL]
theorem smallL_end {ps:List FT} {i:Nat} {d n:Int} (h:ps.length≤i):smallL (ps.drop i) d n=n:=by
 rw[List.drop_eq_nil_of_le h]
 simp only[smallL]
end FT
inductive SmallWay (a v f l:List UInt8) (any:List (List UInt8)) (ps:List FT) (d n R:Int):Prop where
 | deep (h:40<d) (e:R= -1)
 | many (h:d≤40) (h1:100<any.length) (e:R= -1)
 | val (h:d≤40) (h1:any.length≤100) (h2:2000<v.length) (e:R= -1)
 | att (h:d≤40) (h1:any.length≤100) (h2:v.length≤2000) (h3:2000<a.length) (e:R= -1)
 | fst (h:d≤40) (h1:any.length≤100) (h2:v.length≤2000) (h3:a.length≤2000) (h4:2000<f.length) (e:R= -1)
 | lst (h:d≤40) (h1:any.length≤100) (h2:v.length≤2000) (h3:a.length≤2000) (h4:f.length≤2000) (h5:2000<l.length) (e:R= -1)
 | go (h:d≤40) (h1:any.length≤100) (h2:v.length≤2000) (h3:a.length≤2000) (h4:f.length≤2000) (h5:l.length≤2000)
  (e1:(∃x∈any,2000<x.length)→R= -1) (e2:(∀x∈any,x.length≤2000)→R=FT.smallL ps (d+1) (n-1))
theorem fsmall_way (k:Int) (a v f l:List UInt8) (any:List (List UInt8)) (ps:List FT) (d n:Int):SmallWay a v f l any ps d n (FT.small (.mk k a v f l any ps) d n):=by
 simp only[FT.small]
 by_cases h:40<d
 ·exact .deep h (by rw[if_pos (by simp[h])])
 by_cases h1:100<any.length
 ·exact .many (by omega) h1 (by rw[if_pos (by simp[h1])])
 by_cases h2:2000<v.length
 ·exact .val (by omega) (by omega) h2 (by rw[if_pos (by simp[h2])])
 by_cases h3:2000<a.length
 ·exact .att (by omega) (by omega) (by omega) h3 (by rw[if_pos (by simp[h3])])
 by_cases h4:2000<f.length
 ·exact .fst (by omega) (by omega) (by omega) (by omega) h4 (by rw[if_pos (by simp[h4])])
 by_cases h5:2000<l.length
 ·exact .lst (by omega) (by omega) (by omega) (by omega) (by omega) h5 (by rw[if_pos (by simp[h5])])
 refine .go (by omega) (by omega) (by omega) (by omega) (by omega) (by omega) (fun ⟨x,hx,hl⟩=>?_) (fun hx=>?_)
 ·rw [if_neg (by omega),if_pos (by simp only[List.any_eq_true,decide_eq_true_eq];exact⟨x,hx,hl⟩)]
 ·rw [if_neg (by omega),if_neg (by
   simp only[List.any_eq_true,decide_eq_true_eq]
   rintro ⟨x,h6,h7⟩
   have:=hx x h6
   omega)]
theorem fsmall_any (t:FT):∀(d n:Int),0≤d→d≤41→0≤n→n≤60→∀(w:World) (u0 u1 u2 u3 u4 u5 u6:Value),FIn w w.heap.size t [u0,u1,u2,u3,u4,u5,u6]→
  Calls Tryz.prog 23 #[.agg #[u0,u1,u2,u3,u4,u5,u6],.int .i64 d,.int .i64 n] w fun e w'=>e=.returned (.int .i64 (t.small d n))∧Below w.heap.size w w':=by
 induction t using FT.induct
 rename_i k a v f l any ps ih
 intro d n hd0 hd hn0 hn w u0 u1 u2 u3 u4 u5 u6 hF
 simp only[FIn] at hF
 obtain⟨A,c,D,dd,xs,hcs,⟨hml,hnl⟩,hA,hD,hP⟩:=hF
 cases hcs
 unfold maxLen at hml hnl
 have ha:=txt_size a
 have hv:=txt_size v
 have hf:=txt_size f
 have hl:=txt_size l
 obtain⟨R,hR⟩:∃R,FT.small (.mk k a v f l any ps) d n=R:=⟨_,rfl⟩
 have hB:=FT.small_bound (.mk k a v f l any ps) d n hn0 hn
 have hW:=fsmall_way k a v f l any ps d n
 rw[hR] at hW hB ⊢
 obtain⟨m,hm⟩:∃m,any.length=m:=⟨_,rfl⟩
 obtain⟨np,hnp⟩:∃np,ps.length=np:=⟨_,rfl⟩
 have hml1:(m:Int)≤9223372036854775807:=by omega
 have hnl1:(np:Int)≤9223372036854775807:=by omega
 have hX:=Box7.new w k (txt a) (txt v) (txt f) (txt l) A any.length c D ps.length dd 25
 have hb0:=below1 w (.cells #[.int .i64 k,.string (txt a),.string (txt v),.string (txt f),.string (txt l),.slice A any.length c,.slice D ps.length dd] 25)
 rw[hm,hnp] at hX hb0 ⊢
 cases hW with
 | deep h e0=>
  subst e0
  obtain⟨_,c0,c1,c2,c3,c4,c5,c6⟩:=hX
  have y0:40<d:=h
  generalize txt a=sa at *
  generalize txt v=sv at *
  generalize txt f=sf at *
  generalize txt l=sl at *
  clear ih hR hB hA hD hP ha hv hf hl hm hnp hml hnl hd0 hd hn0 hn
  go_enter Tryz.func23,Tryz.ntmps23
  go_wp2
  go_ret
  exact⟨rfl,hb0⟩
 | many h h1 e0=>
  subst e0
  obtain⟨_,c0,c1,c2,c3,c4,c5,c6⟩:=hX
  have z0:¬(40<d):=by omega
  have z1:((100:Int)<(m:Int)):=by omega
  generalize txt a=sa at *
  generalize txt v=sv at *
  generalize txt f=sf at *
  generalize txt l=sl at *
  clear ih hR hB hA hD hP ha hv hf hl hm hnp hml hnl hd0 hd hn0 hn
  go_enter Tryz.func23,Tryz.ntmps23
  go_wp2
  go_ret
  exact⟨rfl,hb0⟩
 | val h h1 h2 e0=>
  subst e0
  obtain⟨_,c0,c1,c2,c3,c4,c5,c6⟩:=hX
  have z0:¬(40<d):=by omega
  have z1:¬((100:Int)<(m:Int)):=by omega
  have z2:((2000:Int)<((txt v).size:Int)):=by omega
  generalize txt a=sa at *
  generalize txt v=sv at *
  generalize txt f=sf at *
  generalize txt l=sl at *
  clear ih hR hB hA hD hP ha hv hf hl hm hnp hml hnl hd0 hd hn0 hn
  go_enter Tryz.func23,Tryz.ntmps23
  go_wp2
  go_ret
  exact⟨rfl,hb0⟩
 | att h h1 h2 h3 e0=>
  subst e0
  obtain⟨_,c0,c1,c2,c3,c4,c5,c6⟩:=hX
  have z0:¬(40<d):=by omega
  have z1:¬((100:Int)<(m:Int)):=by omega
  have z2:¬((2000:Int)<((txt v).size:Int)):=by omega
  have z3:((2000:Int)<((txt a).size:Int)):=by omega
  generalize txt a=sa at *
  generalize txt v=sv at *
  generalize txt f=sf at *
  generalize txt l=sl at *
  clear ih hR hB hA hD hP ha hv hf hl hm hnp hml hnl hd0 hd hn0 hn
  go_enter Tryz.func23,Tryz.ntmps23
  go_wp2
  go_ret
  exact⟨rfl,hb0⟩
 | fst h h1 h2 h3 h4 e0=>
  subst e0
  obtain⟨_,c0,c1,c2,c3,c4,c5,c6⟩:=hX
  have z0:¬(40<d):=by omega
  have z1:¬((100:Int)<(m:Int)):=by omega
  have z2:¬((2000:Int)<((txt v).size:Int)):=by omega
  have z3:¬((2000:Int)<((txt a).size:Int)):=by omega
  have z4:((2000:Int)<((txt f).size:Int)):=by omega
  generalize txt a=sa at *
  generalize txt v=sv at *
  generalize txt f=sf at *
  generalize txt l=sl at *
  clear ih hR hB hA hD hP ha hv hf hl hm hnp hml hnl hd0 hd hn0 hn
  go_enter Tryz.func23,Tryz.ntmps23
  go_wp2
  go_ret
  exact⟨rfl,hb0⟩
 | lst h h1 h2 h3 h4 h5 e0=>
  subst e0
  obtain⟨_,c0,c1,c2,c3,c4,c5,c6⟩:=hX
  have z0:¬(40<d):=by omega
  have z1:¬((100:Int)<(m:Int)):=by omega
  have z2:¬((2000:Int)<((txt v).size:Int)):=by omega
  have z3:¬((2000:Int)<((txt a).size:Int)):=by omega
  have z4:¬((2000:Int)<((txt f).size:Int)):=by omega
  have z5:((2000:Int)<((txt l).size:Int)):=by omega
  generalize txt a=sa at *
  generalize txt v=sv at *
  generalize txt f=sf at *
  generalize txt l=sl at *
  clear ih hR hB hA hD hP ha hv hf hl hm hnp hml hnl hd0 hd hn0 hn
  go_enter Tryz.func23,Tryz.ntmps23
  go_wp2
  go_ret
  exact⟨rfl,hb0⟩
 | go h h1 h2 h3 h4 h5 e1 e2=>
  have z0:¬(40<d):=by omega
  have z1:¬((100:Int)<(m:Int)):=by omega
  have z2:¬((2000:Int)<((txt v).size:Int)):=by omega
  have z3:¬((2000:Int)<((txt a).size:Int)):=by omega
  have z4:¬((2000:Int)<((txt f).size:Int)):=by omega
  have z5:¬((2000:Int)<((txt l).size:Int)):=by omega
  have HX:=hide hX
  have HE1:=hide e1
  have HE2:=hide e2
  have HA:=hide hA
  have HD:=hide hD
  have HP:=hide hP
  have Hih:=hide ih
  have Hm:=hide hm
  have Hnp:=hide hnp
  have HBd:=hide hB
  obtain⟨_,c0,c1,c2,c3,c4,c5,c6⟩:=hX
  generalize txt a=sa at *
  generalize txt v=sv at *
  generalize txt f=sf at *
  generalize txt l=sl at *
  clear ih hR hB hA hD hP ha hv hf hl hm hnp hml hnl e1 e2 h1 h2 h3 h4 h5
  go_enter Tryz.func23,Tryz.ntmps23
  go_wp2
  go_loopg [44] m (fun r s44 wx=>∃i:Nat,i+r=m∧s44=.int .i64 (i:Int)∧Hid (Below w.heap.size w wx∧Box7 wx w.heap.size k sa sv sf sl A m c D np dd)∧Hid (∀x∈any.take i,x.length≤2000))
  case atStart=>exact⟨0,by omega,rfl,hide ⟨hb0,HX.out⟩,hide fun x hx=>by simp at hx⟩
  case round=>
   obtain⟨i,hig,rfl,hbr,hpre⟩:=hrel
   obtain⟨hb1,hX1⟩:=hbr.out
   clear c0 c1 c2 c3 c4 c5 c6 HX hb0
   cases gk with
   | succ r=>
    have hi:i<m:=by omega
    have hiz:(i:Int)<(m:Int):=by omega
    obtain⟨x,hx⟩:∃x,any[i]?=some x:=⟨_,List.getElem?_eq_getElem (by rw[Hm.out];exact hi)⟩
    have HA1:=HA.out
    rw[Hm.out] at HA1
    obtain⟨g,o,hAe,hg,hc⟩:=HA1.texts (fun h=>by rw[h] at hx;simp at hx)
    subst hAe
    have x0:=(hb1.cell (p:=⟨g,o+i,none⟩) hg).trans (hc i x hx)
    have hxs:=txt_size x
    obtain⟨_,c0,c1,c2,c3,c4,c5,c6⟩:=hX1
    by_cases hxl:2000<x.length
    ·have zx:(2000:Int)<((txt x).size:Int):=by omega
     have hRr:Hid (R= -1):=hide (HE1.out ⟨x,List.mem_of_getElem? hx,hxl⟩)
     generalize txt x=sx at *
     clear HA1 hc hx hxs hxl HE1 HE2 HA HD HP Hih Hm Hnp HBd hpre
     go_wp2
     go_ret
     exact⟨by rw[hRr.out];rfl,hb1⟩
    ·have zx:¬((2000:Int)<((txt x).size:Int)):=by omega
     have hpre2:Hid (∀y∈any.take (i+1),y.length≤2000):=hide (fun y hy=>by
      rw[List.take_add_one,hx] at hy
      simp only[Option.toList_some,List.mem_append,List.mem_singleton] at hy
      rcases hy with hy | rfl
      ·exact hpre.out y hy
      ·omega)
     generalize txt x=sx at *
     clear HA1 hc hx hxs hxl HE1 HE2 HA HD HP Hih Hm Hnp HBd hpre
     go_wp2
     go_roundg r
     case measure=>omega
     case rel=>exact⟨i+1,by omega,by go_num,hbr,hpre2⟩
   | zero=>
    obtain rfl:i=m:=by omega
    have hiz:¬((i:Int)<(i:Int)):=by omega
    have HR:Hid (R=FT.smallL (ps.drop 0) (d+1) (n-1)):=hide (HE2.out (by
     have:=hpre.out
     rwa [List.take_of_length_le (by rw[Hm.out];exact Nat.le_refl _)] at this))
    obtain⟨_,c0,c1,c2,c3,c4,c5,c6⟩:=hX1
    clear HE1 HE2 HA hpre Hm
    go_wp2
    go_loopg [2,60] np (fun r s2 s60 wx=>∃(j:Nat) (q:Int),j+r=np∧s60=.int .i64 (j:Int)∧s2=.int .i64 q∧ -1≤q∧q≤60∧Hid (Below w.heap.size w wx∧Box7 wx w.heap.size k sa sv sf sl A i c D np dd)∧Hid (R=FT.smallL (ps.drop j) (d+1) q))
    case atStart=>exact⟨0,n-1,by omega,rfl,by go_num,by omega,by omega,hbr,HR⟩
    case round=>
     obtain⟨j,q,hjg,rfl,rfl,hq0,hq1,hbr2,hpre2⟩:=hrel
     obtain⟨hb2,hX2⟩:=hbr2.out
     clear c0 c1 c2 c3 c4 c5 c6 hbr hb1
     cases gk with
     | zero=>
      obtain rfl:j=np:=by omega
      have hjz:¬((j:Int)<(j:Int)):=by omega
      have hq:Hid (R=q):=hide (by rw[hpre2.out,FT.smallL_end (by rw[Hnp.out];exact Nat.le_refl _)])
      obtain⟨_,c0,c1,c2,c3,c4,c5,c6⟩:=hX2
      clear HD HP Hih Hnp HBd hpre2 HR
      go_wp2
      go_ret
      exact⟨by rw[hq.out];rfl,hb2⟩
     | succ r=>
      have hj:j<np:=by omega
      have hjz:(j:Int)<(np:Int):=by omega
      obtain⟨p,hp⟩:∃p,ps[j]?=some p:=⟨_,List.getElem?_eq_getElem (by rw[Hnp.out];exact hj)⟩
      have hst:=FT.smallL_drop (d:=d+1) (n:=q) hp
      rw[←hpre2.out] at hst
      by_cases hqn:q<0
      ·rw [if_pos hqn] at hst
       have Hst:=hide hst
       obtain⟨_,c0,c1,c2,c3,c4,c5,c6⟩:=hX2
       clear HD HP Hih Hnp HBd hpre2 HR hp hst
       go_wp2
       go_ret
       exact⟨by rw[Hst.out];rfl,hb2⟩
      ·rw [if_neg hqn] at hst
       have Hst:=hide hst
       have HD1:=HD.out
       obtain⟨g,o,hDe,hg,hparts⟩:=HD1.part HP.out (fun h=>by rw[h] at hp;simp at hp)
       subst hDe
       obtain⟨u0,u1,u2,u3,u4,u5,u6,hpart⟩:=hparts j p hp
       obtain⟨hcp2,_,x0,x1,x2,x3,x4,x5,x6⟩:=hpart.below hb2
       replace hcp2:=hcp2.upto hb2.size
       have hcall:=Hih.out p (List.mem_of_getElem? hp) (d+1) q (by omega) (by omega) (by omega) hq1 wr _ _ _ _ _ _ _ hcp2
       have hbd:=FT.small_bound p (d+1) q (by omega) hq1
       obtain⟨z,hz⟩:∃z,p.small (d+1) q=z:=⟨_,rfl⟩
       rw[hz] at hcall hbd Hst
       obtain⟨_,c0,c1,c2,c3,c4,c5,c6⟩:=hX2
       have HX2:=hide hbr2.out.2
       clear HD HP Hih Hnp HBd hpre2 HR hp hst HD1 hparts hpart hcp2 hz
       go_wp2_with (go_at_call 23;fail)
       refine hcall.mono ?_
       rintro e w3 ⟨rfl,hb3⟩
       have hb4:=hb2.trans (hb3.mono hb2.size)
       have hX3:Hid (Below w.heap.size w w3∧Box7 w3 w.heap.size k sa sv sf sl A i c (some ⟨g,o,none⟩) np dd):=hide ⟨hb4,HX2.out.below HX2.out.lt hb3⟩
       clear hcall hb3 hb4 hbr2 hb2 c0 c1 c2 c3 c4 c5 c6
       go_wp2
       go_roundg r
       case measure=>omega
       case rel=>exact⟨j+1,z,by omega,by go_num,rfl,hbd.1,hbd.2,hX3,Hst⟩
end Go.Proofs.YtaolhefllfnmiaaGreatDoor
namespace Go.Proofs.YtaolhefllfnmiaaGreatDoor
open Go.RowKit
set_option linter.unusedVariables false
theorem rnodes_any (t:FT):∀(w:World) (u0 u1 u2 u3 u4 u5 u6:Value),FIn w w.heap.size t [u0,u1,u2,u3,u4,u5,u6]→
  Calls Tryz.prog 15 #[.agg #[u0,u1,u2,u3,u4,u5,u6]] w fun e w'=>e=.returned (.int .i64 ((min t.nodes 41:Nat):Int))∧Below w.heap.size w w':=by
 induction t using FT.induct
 rename_i k a v f l any ps ih
 intro w u0 u1 u2 u3 u4 u5 u6 hF
 simp only[FIn] at hF
 obtain⟨A,c,D,dd,xs,hcs,⟨hml,hnl⟩,hA,hD,hP⟩:=hF
 cases hcs
 unfold maxLen at hml hnl
 obtain⟨m,hm⟩:∃m,any.length=m:=⟨_,rfl⟩
 obtain⟨np,hnp⟩:∃np,ps.length=np:=⟨_,rfl⟩
 have hnl1:(np:Int)≤9223372036854775807:=by omega
 have hX:=Box7.new w k (txt a) (txt v) (txt f) (txt l) A any.length c D ps.length dd 25
 have hb0:=below1 w (.cells #[.int .i64 k,.string (txt a),.string (txt v),.string (txt f),.string (txt l),.slice A any.length c,.slice D ps.length dd] 25)
 rw[hm,hnp] at hX hb0 ⊢
 obtain⟨t0,ht0⟩:∃t0,FT.mk k a v f l any ps=t0:=⟨_,rfl⟩
 have htp:t0.parts=ps:=by rw[←ht0];rfl
 obtain⟨R,hR⟩:∃R:Nat,min t0.nodes 41=R:=⟨_,rfl⟩
 rw[ht0,hR]
 have HR:=hide hR
 have Ht:=hide htp
 have Ht0:=hide ht0
 have HD:=hide hD
 have HP:=hide hP
 have Hih:=hide ih
 have Hnp:=hide hnp
 have HX:=hide hX
 generalize txt a=sa at *
 generalize txt v=sv at *
 generalize txt f=sf at *
 generalize txt l=sl at *
 clear ih hA hD hP hm hnp hml hnl hR ht0 htp hX
 obtain⟨_,c0,c1,c2,c3,c4,c5,c6⟩:=HX.out
 go_enter Tryz.func15,Tryz.ntmps15
 go_wp2
 go_loopg [3,8] np (fun r s3 s8 wx=>∃(j q:Nat),j+r=np∧s8=.int .i64 (j:Int)∧s3=.int .i64 (q:Int)∧q≤81∧Hid (q=FT.capL (ps.take j)+1)∧Hid (Below w.heap.size w wx∧Box7 wx w.heap.size k sa sv sf sl A m c D np dd))
 case atStart=>exact⟨0,1,by omega,rfl,rfl,by omega,hide (by simp[FT.capL]),hide ⟨hb0,HX.out⟩⟩
 case round=>
  obtain⟨j,q,hjg,rfl,rfl,hq1,hpre,hbr⟩:=hrel
  obtain⟨hb2,hX2⟩:=hbr.out
  clear HX hb0 c0 c1 c2 c3 c4 c5 c6
  obtain⟨_,c0,c1,c2,c3,c4,c5,c6⟩:=hX2
  cases gk with
  | zero=>
   obtain rfl:j=np:=by omega
   have hjz:¬((j:Int)<(j:Int)):=by omega
   have hq:Hid (min q 41=R):=hide (by
    rw[hpre.out,List.take_of_length_le (by rw[Hnp.out];exact Nat.le_refl _),←HR.out,←Ht0.out,FT.cap_min,FT.nodes])
   clear HD HP Hih Hnp hpre HR Ht Ht0
   go_wp2
   all_goals (go_ret;refine⟨?_,hb2⟩;rw[←hq.out];(try simp);(try omega))
  | succ r=>
   have hj:j<np:=by omega
   have hjz:(j:Int)<(np:Int):=by omega
   obtain⟨p,hp⟩:∃p,ps[j]?=some p:=⟨_,List.getElem?_eq_getElem (by rw[Hnp.out];exact hj)⟩
   by_cases hqn:40<q
   ·have zq:(40:Int)<(q:Int):=by omega
    have hq:Hid (min q 41=R):=hide (by
     have:=FT.cap_over (ps:=ps) (i:=j) (by rw[hpre.out] at hqn;exact hqn) t0 Ht.out
     rw[HR.out] at this
     omega)
    clear HD HP Hih Hnp hpre HR Ht Ht0 hp
    go_wp2
    all_goals (go_ret;refine⟨?_,hb2⟩;rw[←hq.out];(try simp);(try omega))
   ·have zq:¬((40:Int)<(q:Int)):=by omega
    have HD1:=HD.out
    rw[Hnp.out] at HD1
    have HP1:=HP.out
    obtain⟨g,o,hDe,hg,hparts⟩:=HD.out.part HP1 (fun h=>by rw[h] at hp;simp at hp)
    subst hDe
    obtain⟨u0,u1,u2,u3,u4,u5,u6,hpart⟩:=hparts j p hp
    obtain⟨hcp2,_,x0,x1,x2,x3,x4,x5,x6⟩:=hpart.below hb2
    replace hcp2:=hcp2.upto hb2.size
    have hcall:=Hih.out p (List.mem_of_getElem? hp) wr _ _ _ _ _ _ _ hcp2
    obtain⟨y,hy⟩:∃y,min p.nodes 41=y:=⟨_,rfl⟩
    have hy41:y≤41:=by omega
    have hst:Hid (q+y=FT.capL (ps.take (j+1))+1):=hide (by rw[FT.capL_take hp,hpre.out,←hy];omega)
    rw[hy] at hcall
    have HX2:=hide hbr.out.2
    clear HD HP Hih Hnp hpre HR Ht Ht0 hp HD1 HP1 hparts hpart hcp2 hy
    go_wp2_with (go_at_call 15;fail)
    refine hcall.mono ?_
    rintro e w3 ⟨rfl,hb3⟩
    have hb4:=hb2.trans (hb3.mono hb2.size)
    have hX3:Hid (Below w.heap.size w w3∧Box7 w3 w.heap.size k sa sv sf sl A m c (some ⟨g,o,none⟩) np dd):=hide ⟨hb4,HX2.out.below HX2.out.lt hb3⟩
    clear hcall hb3 hb4 hbr hb2 c0 c1 c2 c3 c4 c5 c6
    go_wp2
    go_roundg r
    case measure=>omega
    case rel=>exact⟨j+1,q+y,by omega,by go_num,by go_num,by omega,hst,hX3⟩
theorem rdeep_any (t:FT):∀(M:Nat),M≤20→∀(w:World) (u0 u1 u2 u3 u4 u5 u6:Value),FIn w w.heap.size t [u0,u1,u2,u3,u4,u5,u6]→
  Calls Tryz.prog 27 #[.agg #[u0,u1,u2,u3,u4,u5,u6],.int .i64 (M:Int)] w fun e w'=>e=.returned (.int .i64 ((min t.depth (M+1):Nat):Int))∧Below w.heap.size w w':=by
 induction t using FT.induct
 rename_i k a v f l any ps ih
 intro M hM w u0 u1 u2 u3 u4 u5 u6 hF
 simp only[FIn] at hF
 obtain⟨A,c,D,dd,xs,hcs,⟨hml,hnl⟩,hA,hD,hP⟩:=hF
 cases hcs
 unfold maxLen at hml hnl
 obtain⟨m,hm⟩:∃m,any.length=m:=⟨_,rfl⟩
 obtain⟨np,hnp⟩:∃np,ps.length=np:=⟨_,rfl⟩
 have hnl1:(np:Int)≤9223372036854775807:=by omega
 have hX:=Box7.new w k (txt a) (txt v) (txt f) (txt l) A any.length c D ps.length dd 25
 have hb0:=below1 w (.cells #[.int .i64 k,.string (txt a),.string (txt v),.string (txt f),.string (txt l),.slice A any.length c,.slice D ps.length dd] 25)
 rw[hm,hnp] at hX hb0 ⊢
 obtain⟨t0,ht0⟩:∃t0,FT.mk k a v f l any ps=t0:=⟨_,rfl⟩
 have htp:t0.parts=ps:=by rw[←ht0];rfl
 obtain⟨R,hR⟩:∃R:Nat,min t0.depth (M+1)=R:=⟨_,rfl⟩
 rw[ht0,hR]
 have HR:=hide hR
 have Ht0:=hide ht0
 have HD:=hide hD
 have HP:=hide hP
 have Hih:=hide ih
 have Hnp:=hide hnp
 have HX:=hide hX
 generalize txt a=sa at *
 generalize txt v=sv at *
 generalize txt f=sf at *
 generalize txt l=sl at *
 clear ih hA hD hP hm hnp hml hnl hR ht0 htp hX
 obtain⟨_,c0,c1,c2,c3,c4,c5,c6⟩:=HX.out
 cases M with
 | zero=>
  have hR1:Hid (R=1):=hide (by have:=FT.depth_pos t0;have:=HR.out;omega)
  clear HD HP Hih Hnp HR Ht0
  go_enter Tryz.func27,Tryz.ntmps27
  go_wp2
  go_ret
  exact⟨by rw[hR1.out];rfl,hb0⟩
 | succ M=>
  have zM:(((M+1:Nat):Int)==0)=false:=beq_false_of_ne (by omega)
  have z20:M+1≤20:=hM
  obtain⟨y0,hy0⟩:∃y0:Int,((M+1:Nat):Int)=y0:=⟨_,rfl⟩
  have hy1:1≤y0:=by omega
  have hy2:y0≤20:=by omega
  have HY:Hid ((M:Int)=y0-1):=hide (by omega)
  rw[hy0] at zM ⊢
  clear hy0
  go_enter Tryz.func27,Tryz.ntmps27
  go_wp2
  go_loopg [5,12] np (fun r s5 s12 wx=>∃(j q:Nat),j+r=np∧s12=.int .i64 (j:Int)∧s5=.int .i64 (q:Int)∧q≤20∧Hid (q=FT.deepL (ps.take j) (M+1))∧Hid (Below w.heap.size w wx∧Box7 wx w.heap.size k sa sv sf sl A m c D np dd))
  case atStart=>exact⟨0,0,by omega,rfl,rfl,by omega,hide (by simp[FT.deepL]),hide ⟨hb0,HX.out⟩⟩
  case round=>
   obtain⟨j,q,hjg,rfl,rfl,hq1,hpre,hbr⟩:=hrel
   obtain⟨hb2,hX2⟩:=hbr.out
   clear HX hb0 c0 c1 c2 c3 c4 c5 c6
   obtain⟨_,c0,c1,c2,c3,c4,c5,c6⟩:=hX2
   cases gk with
   | zero=>
    obtain rfl:j=np:=by omega
    have hjz:¬((j:Int)<(j:Int)):=by omega
    have hq:Hid (q+1=R):=hide (by
     rw[hpre.out,List.take_of_length_le (by rw[Hnp.out];exact Nat.le_refl _),←HR.out,←Ht0.out,FT.deepL_min,FT.depth]
     omega)
    clear HD HP Hih Hnp hpre HR Ht0
    go_wp2
    go_ret
    refine⟨?_,hb2⟩
    rw[←hq.out]
    (try simp)
    (try go_num)
   | succ r=>
    have hj:j<np:=by omega
    have hjz:(j:Int)<(np:Int):=by omega
    obtain⟨p,hp⟩:∃p,ps[j]?=some p:=⟨_,List.getElem?_eq_getElem (by rw[Hnp.out];exact hj)⟩
    have HD1:=HD.out
    rw[Hnp.out] at HD1
    have HP1:=HP.out
    obtain⟨g,o,hDe,hg,hparts⟩:=HD.out.part HP1 (fun h=>by rw[h] at hp;simp at hp)
    subst hDe
    obtain⟨u0,u1,u2,u3,u4,u5,u6,hpart⟩:=hparts j p hp
    obtain⟨hcp2,_,x0,x1,x2,x3,x4,x5,x6⟩:=hpart.below hb2
    replace hcp2:=hcp2.upto hb2.size
    have hcall:=Hih.out p (List.mem_of_getElem? hp) M (by omega) wr _ _ _ _ _ _ _ hcp2
    obtain⟨y,hy⟩:∃y,min p.depth (M+1)=y:=⟨_,rfl⟩
    have hy20:y≤20:=by omega
    have hst:Hid (max q y=FT.deepL (ps.take (j+1)) (M+1)):=hide (by rw[FT.deepL_take hp,←hpre.out,hy])
    rw[hy,HY.out] at hcall
    have HX2:=hide hbr.out.2
    clear HD HP Hih Hnp hpre HR Ht0 hp HD1 HP1 hparts hpart hcp2 hy
    go_wp2_with (go_at_call 27;fail)
    refine hcall.mono ?_
    rintro e w3 ⟨rfl,hb3⟩
    have hb4:=hb2.trans (hb3.mono hb2.size)
    have hX3:Hid (Below w.heap.size w w3∧Box7 w3 w.heap.size k sa sv sf sl A m c (some ⟨g,o,none⟩) np dd):=hide ⟨hb4,HX2.out.below HX2.out.lt hb3⟩
    clear hcall hb3 hb4 hbr hb2 c0 c1 c2 c3 c4 c5 c6
    go_wp2
    all_goals (go_roundg r)
    all_goals (first | omega | exact⟨j+1,max q y,by omega,by go_num,by congr 1;omega,by omega,hst,hX3⟩)
end Go.Proofs.YtaolhefllfnmiaaGreatDoor
namespace Go.Proofs.YtaolhefllfnmiaaGreatDoor
open Go.RowKit
set_option linter.unusedVariables false
theorem rletter_any (c:UInt8) (w:World):Calls Tryz.prog 85 #[.int .u8 (c.toNat:Int)] w fun e w'=>e=.returned (.bool (FT.letter c))∧w'=w:=by
 have hlt:c.toNat<256:=c.toNat_lt
 obtain⟨b,hb⟩:∃b,FT.letter c=b:=⟨_,rfl⟩
 rw[hb]
 unfold FT.letter at hb
 generalize c.toNat=n at *
 by_cases h1:97≤n
 ·have z1:(97:Int)≤(n:Int):=by omega
  by_cases h2:n≤122
  ·have z2:(n:Int)≤122:=by omega
   obtain rfl:b=true:=by rw[←hb];simp;omega
   clear hb h1 h2
   go_enter Tryz.func85,Tryz.ntmps85
   go_wp2
   go_ret
   exact⟨rfl,rfl⟩
  ·have z2:¬((n:Int)≤122):=by omega
   have z3:(65:Int)≤(n:Int):=by omega
   have z4:¬((n:Int)≤90):=by omega
   obtain rfl:b=false:=by rw[←hb];simp;omega
   clear hb h1 h2
   go_enter Tryz.func85,Tryz.ntmps85
   go_wp2
   go_ret
   exact⟨rfl,rfl⟩
 ·have z1:¬((97:Int)≤(n:Int)):=by omega
  by_cases h3:65≤n
  ·have z3:(65:Int)≤(n:Int):=by omega
   by_cases h4:n≤90
   ·have z4:(n:Int)≤90:=by omega
    obtain rfl:b=true:=by rw[←hb];simp;omega
    clear hb h1 h3 h4
    go_enter Tryz.func85,Tryz.ntmps85
    go_wp2
    go_ret
    exact⟨rfl,rfl⟩
   ·have z4:¬((n:Int)≤90):=by omega
    obtain rfl:b=false:=by rw[←hb];simp;omega
    clear hb h1 h3 h4
    go_enter Tryz.func85,Tryz.ntmps85
    go_wp2
    go_ret
    exact⟨rfl,rfl⟩
  ·have z3:¬((65:Int)≤(n:Int)):=by omega
   obtain rfl:b=false:=by rw[←hb];simp;omega
   clear hb h1 h3
   go_enter Tryz.func85,Tryz.ntmps85
   go_wp2
   go_ret
   exact⟨rfl,rfl⟩
theorem rfits_any (t:List UInt8) (w:World):Calls Tryz.prog 60 #[.string (txt t)] w fun e w'=>e=.returned (.bool (FT.fits t))∧w'=w:=by
 have hsz:=txt_size t
 obtain⟨b,hb⟩:∃b,FT.fits t=b:=⟨_,rfl⟩
 rw[hb]
 unfold FT.fits at hb
 generalize t.length=n at *
 generalize txt t=X at *
 by_cases h1:1≤n
 ·have z1:(1:Int)≤(X.size:Int):=by omega
  by_cases h2:n≤200
  ·have z2:(X.size:Int)≤200:=by omega
   obtain rfl:b=true:=by rw[←hb];simp;omega
   clear hb h1 h2 hsz
   go_enter Tryz.func60,Tryz.ntmps60
   go_wp2
   go_ret
   exact⟨rfl,rfl⟩
  ·have z2:¬((X.size:Int)≤200):=by omega
   obtain rfl:b=false:=by rw[←hb];simp;omega
   clear hb h1 h2 hsz
   go_enter Tryz.func60,Tryz.ntmps60
   go_wp2
   go_ret
   exact⟨rfl,rfl⟩
 ·have z1:¬((1:Int)≤(X.size:Int)):=by omega
  obtain rfl:b=false:=by rw[←hb];simp;omega
  clear hb h1 hsz
  go_enter Tryz.func60,Tryz.ntmps60
  go_wp2
  go_ret
  exact⟨rfl,rfl⟩
theorem txt_at (l:List UInt8) (i:Nat) (hi:i<(txt l).size) (x:UInt8) (h:l[i]?=some x):(txt l)[i]'hi=x:=by
 have:=Lib.data_getElem? (txt l) i hi
 rw[txt_toList,h] at this
 exact (Option.some.inj this).symm
theorem rattr_any (t:List UInt8) (w:World):Calls Tryz.prog 59 #[.string (txt t)] w fun e w'=>e=.returned (.bool (FT.attrOk t))∧w'=w:=by
 have hsz:=txt_size t
 have HL:=fun c w=>rletter_any c w
 obtain⟨b,hb⟩:∃b,FT.attrOk t=b:=⟨_,rfl⟩
 rw[hb]
 have hat:=txt_at t
 have Hb:=hide hb
 by_cases h1:t.length<1
 ·have z1:((txt t).size:Int)<1:=by omega
  obtain rfl:b=false:=by rw[←hb];unfold FT.attrOk;simp;omega
  clear hb hat HL
  generalize txt t=X at *
  go_enter Tryz.func59,Tryz.ntmps59
  go_wp2
  go_ret
  exact⟨rfl,rfl⟩
 by_cases h2:40<t.length
 ·have z1:¬(((txt t).size:Int)<1):=by omega
  have z2:(40:Int)<((txt t).size:Int):=by omega
  obtain rfl:b=false:=by rw[←hb];unfold FT.attrOk;simp;omega
  clear hb hat HL
  generalize txt t=X at *
  go_enter Tryz.func59,Tryz.ntmps59
  go_wp2
  go_ret
  exact⟨rfl,rfl⟩
 have z1:¬(((txt t).size:Int)<1):=by omega
 have z2:¬((40:Int)<((txt t).size:Int)):=by omega
 have z0:(0:Int)<((txt t).size:Int):=by omega
 have n0:0<(txt t).size:=by omega
 obtain⟨x0,hx0⟩:∃x0,t[0]?=some x0:=⟨_,List.getElem?_eq_getElem (by omega)⟩
 have ha0:=hat 0 n0 x0 hx0
 have hok:FT.attrOk t=(FT.letter x0&&t.all FT.sign8):=by
  unfold FT.attrOk
  have e1:t.headD 0=x0:=by cases t with | nil=>simp at hx0 | cons a r=>simpa using hx0
  rw[e1]
  have e2:decide (1≤t.length)=true:=by simp;omega
  have e3:decide (t.length≤40)=true:=by simp;omega
  rw[e2,e3]
  simp
 rw[hok] at Hb
 have hlen:t.length≤40:=by omega
 obtain⟨n,hn⟩:∃n,t.length=n:=⟨_,rfl⟩
 have Hn:=hide hn
 have hX:(txt t).size=n:=by omega
 have hn40:n≤40:=by omega
 have Hat:=hide hat
 clear hb hok h1 h2 hlen hx0 hn hat
 generalize txt t=X at *
 clear hsz
 cases hl0:FT.letter x0 with
 | false=>
  rw[hl0] at Hb
  obtain rfl:b=false:=by rw[←Hb.out];rfl
  have hcall:=HL x0 w
  rw[hl0] at hcall
  rw[←ha0] at hcall
  clear HL Hat Hn hl0 ha0
  go_enter Tryz.func59,Tryz.ntmps59
  go_wp2_with (go_at_call 85;fail)
  refine hcall.mono ?_
  rintro e w1 ⟨rfl,hw1⟩
  obtain rfl:=hw1.symm
  clear hcall hw1
  go_wp2
  go_ret
  exact⟨rfl,rfl⟩
 | true=>
  rw[hl0,Bool.true_and] at Hb
  have hcall:=HL x0 w
  rw[hl0] at hcall
  rw[←ha0] at hcall
  clear hl0 ha0
  go_enter Tryz.func59,Tryz.ntmps59
  go_wp2_with (go_at_call 85;fail)
  refine hcall.mono ?_
  rintro e w1 ⟨rfl,hw1⟩
  obtain rfl:=hw1.symm
  clear hcall hw1
  go_wp2
  go_loopg [3] n (fun r s3 wx=>∃i:Nat,i+r=n∧s3=.int .i64 (i:Int)∧wx=w∧Hid (∀x∈t.take i,FT.sign8 x=true))
  case atStart=>exact⟨0,by omega,rfl,rfl,hide (fun x hx=>by simp at hx)⟩
  case round=>
   obtain⟨i,hig,rfl,hw2,hpre⟩:=hrel
   obtain rfl:=hw2.symm
   clear hw2
   cases gk with
   | zero=>
    obtain rfl:i=n:=by omega
    have hiz:¬((i:Int)<(X.size:Int)):=by omega
    have hbt:Hid (b=true):=hide (by
     rw[←Hb.out]
     have:=hpre.out
     rw[List.take_of_length_le (by rw[Hn.out];exact Nat.le_refl _)] at this
     rwa [List.all_eq_true])
    clear HL Hat Hn hpre Hb
    go_wp2
    go_ret
    exact⟨by rw[hbt.out];rfl,rfl⟩
   | succ r=>
    have hi:i<n:=by omega
    have hiX:i<X.size:=by omega
    have hiz:(i:Int)<(X.size:Int):=by omega
    obtain⟨x,hx⟩:∃x,t[i]?=some x:=⟨_,List.getElem?_eq_getElem (by rw[Hn.out];exact hi)⟩
    have hax:=Hat.out i hiX x hx
    have hcall:=HL x w
    have hyes:FT.sign8 x=true→Hid (∀y∈t.take (i+1),FT.sign8 y=true):=fun h=>hide (fun y hy=>by
     rw[List.take_add_one,hx] at hy
     simp only[Option.toList_some,List.mem_append,List.mem_singleton] at hy
     rcases hy with hy | rfl
     ·exact hpre.out y hy
     ·exact h)
    have hno:FT.sign8 x=false→Hid (b=false):=fun h=>hide (by
     rw[←Hb.out,List.all_eq_false]
     exact⟨x,List.mem_of_getElem? hx,by rw[h];exact Bool.false_ne_true⟩)
    have HY:=hide hyes
    have HN:=hide hno
    clear hyes hno HL Hat Hn hpre Hb hx
    obtain⟨q,hq⟩:∃q:Int,(x.toNat:Int)=q:=⟨_,rfl⟩
    cases hlx:FT.letter x with
    | true=>
     have hst:=HY.out (by unfold FT.sign8;rw[hlx];rfl)
     rw[hlx,←hax] at hcall
     clear HY HN hax hlx hq
     go_wp2_with (go_at_call 85;fail)
     refine hcall.mono ?_
     rintro e w1 ⟨rfl,hw1⟩
     obtain rfl:=hw1.symm
     clear hcall hw1
     go_wp2
     go_roundg r
     case measure=>omega
     case rel=>exact⟨i+1,by omega,by go_num,rfl,hst⟩
    | false=>
     rw[hlx] at hcall
     have hxn:x.toNat<256:=x.toNat_lt
     by_cases d1:48≤x.toNat
     ·have y1:(48:Int)≤(x.toNat:Int):=by omega
      by_cases d2:x.toNat≤57
      ·have y2:(x.toNat:Int)≤57:=by omega
       have hst:=HY.out (by unfold FT.sign8;simp;omega)
       rw[←hax] at hcall y1 y2
       clear HY HN hax hlx hq d1 d2
       go_wp2_with (go_at_call 85;fail)
       refine hcall.mono ?_
       rintro e w1 ⟨rfl,hw1⟩
       obtain rfl:=hw1.symm
       clear hcall hw1
       go_wp2
       go_roundg r
       case measure=>omega
       case rel=>exact⟨i+1,by omega,by go_num,rfl,hst⟩
      ·have y2:¬((x.toNat:Int)≤57):=by omega
       have y3:((x.toNat:Int)==45)=false:=beq_false_of_ne (by omega)
       have y4:decide ((x.toNat:Int)≤57)=false:=decide_eq_false (by omega)
       have y5:((x.toNat:Int)!=45)=true:=by unfold bne;rw[y3];rfl
       have hst:=HN.out (by unfold FT.sign8;rw[hlx];simp;omega)
       rw[←hax] at hcall y1 y2 y3 y4 y5
       clear HY HN hax hlx hq d1 d2
       go_wp2_with (go_at_call 85;fail)
       refine hcall.mono ?_
       rintro e w1 ⟨rfl,hw1⟩
       obtain rfl:=hw1.symm
       clear hcall hw1
       go_wp2
       go_ret
       exact⟨by rw[hst.out];rfl,rfl⟩
     ·have y1:¬((48:Int)≤(x.toNat:Int)):=by omega
      by_cases d3:x.toNat=45
      ·have y3:((x.toNat:Int)==45)=true:=by rw[d3];rfl
       have hst:=HY.out (by unfold FT.sign8;simp;omega)
       rw[←hax] at hcall y1 y3
       clear HY HN hax hlx hq d1 d3
       go_wp2_with (go_at_call 85;fail)
       refine hcall.mono ?_
       rintro e w1 ⟨rfl,hw1⟩
       obtain rfl:=hw1.symm
       clear hcall hw1
       go_wp2
       go_roundg r
       case measure=>omega
       case rel=>exact⟨i+1,by omega,by go_num,rfl,hst⟩
      ·have y3:((x.toNat:Int)==45)=false:=beq_false_of_ne (by omega)
       have hst:=HN.out (by unfold FT.sign8;rw[hlx];simp;omega)
       rw[←hax] at hcall y1 y3
       clear HY HN hax hlx hq d1 d3
       go_wp2_with (go_at_call 85;fail)
       refine hcall.mono ?_
       rintro e w1 ⟨rfl,hw1⟩
       obtain rfl:=hw1.symm
       clear hcall hw1
       go_wp2
       go_ret
       exact⟨by rw[hst.out];rfl,rfl⟩
end Go.Proofs.YtaolhefllfnmiaaGreatDoor
namespace Go.Proofs.YtaolhefllfnmiaaGreatDoor
open Go.RowKit
set_option linter.unusedVariables false
namespace FT
def plain0 (f l:List UInt8) (any:List (List UInt8)):Bool:=f==[]&&l==[]&&any==[]
section
variable (k:Int) (a v f l:List UInt8) (any:List (List UInt8)) (ps:List FT)
theorem bare_and (h:k=0∨k=1):bare (.mk k a v f l any ps)=(a==[]&&v==[]&&plain0 f l any):=by
 simp only[bare,plain0];rw[if_pos h]
theorem bare_not:bare (.mk 2 a v f l any ps)=(a==[]&&v==[]&&plain0 f l any&&ps.length==1):=by
 simp only[bare,plain0];rw[if_neg (by omega),if_pos trivial]
theorem bare_val (h:k=3∨k=5∨k=6∨k=8):bare (.mk k a v f l any ps)=(attrOk a&&fits v&&plain0 f l any&&ps.isEmpty):=by
 simp only[bare,plain0];rw[if_neg (by omega),if_neg (by omega),if_pos h]
theorem bare_has:bare (.mk 7 a v f l any ps)=(attrOk a&&v==[]&&plain0 f l any&&ps.isEmpty):=by
 simp only[bare,plain0];rw[if_neg (by omega),if_neg (by omega),if_neg (by omega),if_pos trivial]
theorem bare_sub:bare (.mk 4 a v f l any ps)=(any.all fits&&attrOk a&&v==[]&& !plain0 f l any&&ps.isEmpty&&f.length≤200&&l.length≤200):=by
 simp only[bare,plain0];rw[if_neg (by omega),if_neg (by omega),if_neg (by omega),if_neg (by omega),if_pos trivial]
theorem bare_else (h:k≠0∧k≠1∧k≠2∧k≠3∧k≠4∧k≠5∧k≠6∧k≠7∧k≠8):bare (.mk k a v f l any ps)=false:=by
 simp only[bare];rw[if_neg (by omega),if_neg (by omega),if_neg (by omega),if_neg (by omega),if_neg (by omega)]
end
end FT
theorem isEmpty_len {α:Type} (l:List α):l.isEmpty=(((l.length:Nat):Int)==0):=by
 cases l with
 | nil=>rfl
 | cons a r=>symm;exact beq_false_of_ne (by simp only[List.length_cons];omega)
theorem len_one {α:Type} (l:List α):(l.length==1)=(((l.length:Nat):Int)==1):=by
 by_cases h:l.length=1
 ·rw [h];rfl
 ·rw [beq_false_of_ne h,beq_false_of_ne (by omega)]
theorem rbare_any (t:FT) (w:World) (u0 u1 u2 u3 u4 u5 u6:Value) (hF:FIn w w.heap.size t [u0,u1,u2,u3,u4,u5,u6]):
  Calls Tryz.prog 42 #[.agg #[u0,u1,u2,u3,u4,u5,u6]] w fun e w'=>e=.returned (.bool t.bare)∧Below w.heap.size w w':=by
 cases t with
 | mk k a v f l any ps=>
 simp only[FIn] at hF
 obtain⟨A,c,D,dd,xs,hcs,⟨hml,hnl⟩,hA,hD,hP⟩:=hF
 cases hcs
 unfold maxLen at hml hnl
 obtain⟨R,hR⟩:∃R,FT.bare (.mk k a v f l any ps)=R:=⟨_,rfl⟩
 rw[hR]
 have hAt:=fun w=>rattr_any a w
 have hFv:=fun w=>rfits_any v w
 have hFx:=fun x w=>rfits_any x w
 obtain⟨pb,hpb⟩:∃pb,FT.plain0 f l any=pb:=⟨_,rfl⟩
 obtain⟨ao,hao⟩:∃ao,FT.attrOk a=ao:=⟨_,rfl⟩
 obtain⟨fv,hfv⟩:∃fv,FT.fits v=fv:=⟨_,rfl⟩
 obtain⟨a0,ha0⟩:∃a0,(a==[])=a0:=⟨_,rfl⟩
 obtain⟨v0,hv0⟩:∃v0,(v==[])=v0:=⟨_,rfl⟩
 obtain⟨p0,hp0⟩:∃p0,ps.isEmpty=p0:=⟨_,rfl⟩
 obtain⟨p1,hp1⟩:∃p1,(ps.length==1)=p1:=⟨_,rfl⟩
 obtain⟨m,hm⟩:∃m,any.length=m:=⟨_,rfl⟩
 obtain⟨np,hnp⟩:∃np,ps.length=np:=⟨_,rfl⟩
 have h01:(k=0∨k=1)→R=(a0&&v0&&pb):=fun h=>by rw[←hR,FT.bare_and _ _ _ _ _ _ _ h,ha0,hv0,hpb]
 have h2:k=2→R=(a0&&v0&&pb&&p1):=fun h=>by rw[←hR,h,FT.bare_not,ha0,hv0,hpb,hp1]
 have h3:(k=3∨k=5∨k=6∨k=8)→R=(ao&&fv&&pb&&p0):=fun h=>by rw[←hR,FT.bare_val _ _ _ _ _ _ _ h,hao,hfv,hpb,hp0]
 have h7:k=7→R=(ao&&v0&&pb&&p0):=fun h=>by rw[←hR,h,FT.bare_has,hao,hv0,hpb,hp0]
 have h4:k=4→R=(any.all FT.fits&&ao&&v0&& !pb&&p0&&decide (f.length≤200)&&decide (l.length≤200)):=fun h=>by rw[←hR,h,FT.bare_sub,hao,hv0,hpb,hp0]
 have h9:=fun h=>hR.symm.trans (FT.bare_else k a v f l any ps h)
 have ea:((txt a).toList==[])=a0:=by rw[txt_bytes];exact ha0
 have ev:((txt v).toList==[])=v0:=by rw[txt_bytes];exact hv0
 have ep0:((np:Int)==0)=p0:=by rw[←hp0,isEmpty_len,hnp]
 have ep1:((np:Int)==1)=p1:=by rw[←hp1,len_one,hnp]
 rw[hao] at hAt
 rw[hfv] at hFv
 have hlf:=txt_size f
 have hll:=txt_size l
 have hX:=Box7.new w k (txt a) (txt v) (txt f) (txt l) A any.length c D ps.length dd 25
 have hb0:=below1 w (.cells #[.int .i64 k,.string (txt a),.string (txt v),.string (txt f),.string (txt l),.slice A any.length c,.slice D ps.length dd] 25)
 rw[hm,hnp] at hX hb0 ⊢
 have ef:=(txt_bytes f)
 have el:=(txt_bytes l)
 have hmi:(m:Int)≤9223372036854775807:=by omega
 have H01:=hide h01
 have H2:=hide h2
 have H3:=hide h3
 have H7:=hide h7
 have H4:=hide h4
 have H9:=hide h9
 have HAt:=hide hAt
 have HFv:=hide hFv
 have HFx:=hide hFx
 have HA:=hide hA
 have Hm:=hide hm
 have Hpb:=hide hpb
 have Hlf:=hide hlf
 have Hll:=hide hll
 have Hef:=hide ef
 have Hel:=hide el
 have HX:=hide hX
 have Hea:=hide ea
 have Hev:=hide ev
 have Hp0:=hide ep0
 have Hp1:=hide ep1
 obtain⟨_,c0,c1,c2,c3,c4,c5,c6⟩:=hX
 clear hR h01 h2 h3 h7 h4 h9 hAt hFv hFx hA hD hP hm hnp hml hnl hpb hlf hll ef el ea ev ep0 ep1 ha0 hv0 hp0 hp1 hao hfv
 generalize txt a=sa at *
 generalize txt v=sv at *
 generalize txt f=sf at *
 generalize txt l=sl at *
 obtain⟨w1,hw1⟩:∃w1,(w.alloc (.cells #[.int .i64 k,.string sa,.string sv,.string sf,.string sl,.slice A m c,.slice D np dd] 25))=w1:=⟨_,rfl⟩
 have Hw1:=hide hw1
 clear hw1
 go_enter Tryz.func42,Tryz.ntmps42
 go_upto_region 1 with fail
 go_cut [3] from 4 to 18 (fun s3 wx=>s3=.bool (!pb)∧wx=w1)
 case first=>
  rw[Hw1.out] at c0 c1 c2 c3 c4 c5 c6 ⊢
  clear H01 H2 H3 H7 H4 H9 HAt HFv HFx HX hb0 Hea Hev Hp0 Hp1
  have hpb:=Hpb.out
  by_cases h1:f=[]
  ·subst h1
   have e1:(sf.toList==[])=true:=by rw[Hef.out];rfl
   have e1':(sf.toList !=[])=false:=by unfold bne;rw[e1];rfl
   by_cases h2:l=[]
   ·subst h2
    have e2:(sl.toList==[])=true:=by rw[Hel.out];rfl
    have e2':(sl.toList !=[])=false:=by unfold bne;rw[e2];rfl
    by_cases h3:any=[]
    ·subst h3
     obtain rfl:m=0:=by rw[←Hm.out];rfl
     obtain rfl:pb=true:=by rw[←hpb];rfl
     clear hpb Hpb Hef Hel HA Hm Hlf Hll Hw1
     go_wp2
     go_meet
     case rel=>exact⟨rfl,rfl⟩
    ·have z3:(0:Int)<(m:Int):=by have:=List.length_pos_iff.2 h3;have:=Hm.out;omega
     obtain rfl:pb=false:=by rw[←hpb];unfold FT.plain0;simp[h3]
     have z4:0<m:=by omega
     clear hpb Hpb Hef Hel HA Hm Hlf Hll Hw1 h3
     go_wp2
     go_meet
     case rel=>exact⟨rfl,rfl⟩
   ·have e2:(sl.toList==[])=false:=by rw[Hel.out];simpa using h2
    have e2':(sl.toList !=[])=true:=by unfold bne;rw[e2];rfl
    obtain rfl:pb=false:=by rw[←hpb];unfold FT.plain0;simp[h2]
    clear hpb Hpb Hef Hel HA Hm Hlf Hll Hw1 h2
    go_wp2
    go_meet
    case rel=>exact⟨rfl,rfl⟩
  ·have e1:(sf.toList==[])=false:=by rw[Hef.out];simpa using h1
   have e1':(sf.toList !=[])=true:=by unfold bne;rw[e1];rfl
   obtain rfl:pb=false:=by rw[←hpb];unfold FT.plain0;simp[h1]
   clear hpb Hpb Hef Hel HA Hm Hlf Hll Hw1 h1
   go_wp2
   go_meet
   case rel=>exact⟨rfl,rfl⟩
 case rest=>
  obtain⟨rfl,hwc⟩:=hcut
  obtain rfl:=hwc.symm
  clear hwc
  rw[Hw1.out] at c0 c1 c2 c3 c4 c5 c6 hb0 HX
  clear Hw1 Hpb Hef Hel
  by_cases k0:k=0∨k=1
  ·have hr:=hide (H01.out k0)
   clear H01 H2 H3 H7 H4 H9 HAt HFv HFx HA Hm Hlf Hll HX Hp0 Hp1
   have ea:=Hea.out
   have ev:=Hev.out
   rcases k0 with rfl | rfl
   ·cases a0<;>cases v0<;>cases pb<;>(go_wp2;go_ret;exact⟨by rw[hr.out];rfl,hb0⟩)
   ·cases a0<;>cases v0<;>cases pb<;>(go_wp2;go_ret;exact⟨by rw[hr.out];rfl,hb0⟩)
  by_cases k2:k=2
  ·have hr:=hide (H2.out k2)
   subst k2
   clear H01 H2 H3 H7 H4 H9 HAt HFv HFx HA Hm Hlf Hll HX Hp0 k0
   have ea:=Hea.out
   have ev:=Hev.out
   have ep:=Hp1.out
   cases a0<;>cases v0<;>cases pb<;>cases p1<;>(go_wp2;go_ret;exact⟨by rw[hr.out];rfl,hb0⟩)
  by_cases k3:k=3∨k=5∨k=6∨k=8
  ·have hr:=hide (H3.out k3)
   have hAt:=HAt.out w1
   have hFv:=HFv.out w1
   have ep:=Hp0.out
   clear H01 H2 H3 H7 H4 H9 HAt HFv HFx HA Hm Hlf Hll HX Hea Hev Hp0 Hp1 k0 k2
   rcases k3 with rfl | rfl | rfl | rfl
   ·cases ao with
    | false=>
     go_wp2_with (go_at_call 59;fail)
     refine hAt.mono ?_
     rintro e w2 ⟨rfl,hw2⟩
     obtain rfl:=hw2.symm
     clear hAt hw2
     go_wp2
     go_ret
     exact⟨by rw[hr.out];rfl,hb0⟩
    | true=>
     go_wp2_with (go_at_call 59;fail)
     refine hAt.mono ?_
     rintro e w2 ⟨rfl,hw2⟩
     obtain rfl:=hw2.symm
     clear hAt hw2
     go_wp2_with (go_at_call 60;fail)
     refine hFv.mono ?_
     rintro e w2 ⟨rfl,hw2⟩
     obtain rfl:=hw2.symm
     clear hFv hw2
     cases fv<;>cases pb<;>cases p0<;>(go_wp2;go_ret;exact⟨by rw[hr.out];rfl,hb0⟩)
   ·cases ao with
    | false=>
     go_wp2_with (go_at_call 59;fail)
     refine hAt.mono ?_
     rintro e w2 ⟨rfl,hw2⟩
     obtain rfl:=hw2.symm
     clear hAt hw2
     go_wp2
     go_ret
     exact⟨by rw[hr.out];rfl,hb0⟩
    | true=>
     go_wp2_with (go_at_call 59;fail)
     refine hAt.mono ?_
     rintro e w2 ⟨rfl,hw2⟩
     obtain rfl:=hw2.symm
     clear hAt hw2
     go_wp2_with (go_at_call 60;fail)
     refine hFv.mono ?_
     rintro e w2 ⟨rfl,hw2⟩
     obtain rfl:=hw2.symm
     clear hFv hw2
     cases fv<;>cases pb<;>cases p0<;>(go_wp2;go_ret;exact⟨by rw[hr.out];rfl,hb0⟩)
   ·cases ao with
    | false=>
     go_wp2_with (go_at_call 59;fail)
     refine hAt.mono ?_
     rintro e w2 ⟨rfl,hw2⟩
     obtain rfl:=hw2.symm
     clear hAt hw2
     go_wp2
     go_ret
     exact⟨by rw[hr.out];rfl,hb0⟩
    | true=>
     go_wp2_with (go_at_call 59;fail)
     refine hAt.mono ?_
     rintro e w2 ⟨rfl,hw2⟩
     obtain rfl:=hw2.symm
     clear hAt hw2
     go_wp2_with (go_at_call 60;fail)
     refine hFv.mono ?_
     rintro e w2 ⟨rfl,hw2⟩
     obtain rfl:=hw2.symm
     clear hFv hw2
     cases fv<;>cases pb<;>cases p0<;>(go_wp2;go_ret;exact⟨by rw[hr.out];rfl,hb0⟩)
   ·cases ao with
    | false=>
     go_wp2_with (go_at_call 59;fail)
     refine hAt.mono ?_
     rintro e w2 ⟨rfl,hw2⟩
     obtain rfl:=hw2.symm
     clear hAt hw2
     go_wp2
     go_ret
     exact⟨by rw[hr.out];rfl,hb0⟩
    | true=>
     go_wp2_with (go_at_call 59;fail)
     refine hAt.mono ?_
     rintro e w2 ⟨rfl,hw2⟩
     obtain rfl:=hw2.symm
     clear hAt hw2
     go_wp2_with (go_at_call 60;fail)
     refine hFv.mono ?_
     rintro e w2 ⟨rfl,hw2⟩
     obtain rfl:=hw2.symm
     clear hFv hw2
     cases fv<;>cases pb<;>cases p0<;>(go_wp2;go_ret;exact⟨by rw[hr.out];rfl,hb0⟩)
  by_cases k7:k=7
  ·have hr:=hide (H7.out k7)
   subst k7
   have hAt:=HAt.out w1
   have ev:=Hev.out
   have ep:=Hp0.out
   clear H01 H2 H3 H7 H4 H9 HAt HFv HFx HA Hm Hlf Hll HX Hea Hev Hp0 Hp1 k0 k2 k3
   cases ao with
   | false=>
    go_wp2_with (go_at_call 59;fail)
    refine hAt.mono ?_
    rintro e w2 ⟨rfl,hw2⟩
    obtain rfl:=hw2.symm
    clear hAt hw2
    go_wp2
    go_ret
    exact⟨by rw[hr.out];rfl,hb0⟩
   | true=>
    go_wp2_with (go_at_call 59;fail)
    refine hAt.mono ?_
    rintro e w2 ⟨rfl,hw2⟩
    obtain rfl:=hw2.symm
    clear hAt hw2
    cases v0<;>cases pb<;>cases p0<;>(go_wp2;go_ret;exact⟨by rw[hr.out];rfl,hb0⟩)
  by_cases k4:k=4
  ·have hr:=hide (H4.out k4)
   subst k4
   have hAt:=HAt.out w1
   have ev:=Hev.out
   have ep:=Hp0.out
   clear H01 H2 H3 H7 H4 H9 HAt HFv Hea Hev Hp0 Hp1 k0 k2 k3 k7
   go_wp2
   go_loopg [104] m (fun r s104 wx=>∃i:Nat,i+r=m∧s104=.int .i64 (i:Int)∧wx=w1∧Hid (∀x∈any.take i,FT.fits x=true))
   case atStart=>exact⟨0,by omega,rfl,rfl,hide (fun x hx=>by simp at hx)⟩
   case round=>
    obtain⟨i,hig,rfl,hw2,hpre⟩:=hrel
    obtain rfl:=hw2.symm
    clear hw2
    cases gk with
    | succ r=>
     have hi:i<m:=by omega
     have hiz:(i:Int)<(m:Int):=by omega
     obtain⟨x,hx⟩:∃x,any[i]?=some x:=⟨_,List.getElem?_eq_getElem (by rw[Hm.out];exact hi)⟩
     have HA1:=HA.out
     rw[Hm.out] at HA1
     obtain⟨g,o,hAe,hg,hc⟩:=HA1.texts (fun h=>by rw[h] at hx;simp at hx)
     subst hAe
     have x0:=(hb0.cell (p:=⟨g,o+i,none⟩) hg).trans (hc i x hx)
     have hcall:=HFx.out x w1
     cases hfx:FT.fits x with
     | false=>
      have hr2:Hid (R=false):=hide (by
       rw[hr.out]
       have:any.all FT.fits=false:=by rw[List.all_eq_false];exact⟨x,List.mem_of_getElem? hx,by rw[hfx];exact Bool.false_ne_true⟩
       rw[this];simp)
      rw[hfx] at hcall
      generalize txt x=X at *
      clear HFx HA1 hc hx hfx HA Hm Hlf Hll hpre hAt hr
      go_wp2_with (go_at_call 60;fail)
      refine hcall.mono ?_
      rintro e w2 ⟨rfl,hw2⟩
      obtain rfl:=hw2.symm
      clear hcall hw2
      go_wp2
      go_ret
      exact⟨by rw[hr2.out];rfl,hb0⟩
     | true=>
      have hpre2:Hid (∀y∈any.take (i+1),FT.fits y=true):=hide (fun y hy=>by
       rw[List.take_add_one,hx] at hy
       simp only[Option.toList_some,List.mem_append,List.mem_singleton] at hy
       rcases hy with hy | rfl
       ·exact hpre.out y hy
       ·exact hfx)
      rw[hfx] at hcall
      generalize txt x=X at *
      clear HFx HA1 hc hx hfx HA Hm Hlf Hll hpre hAt hr
      go_wp2_with (go_at_call 60;fail)
      refine hcall.mono ?_
      rintro e w2 ⟨rfl,hw2⟩
      obtain rfl:=hw2.symm
      clear hcall hw2
      go_wp2
      go_roundg r
      case measure=>omega
      case rel=>exact⟨i+1,by omega,by go_num,rfl,hpre2⟩
    | zero=>
     obtain rfl:i=m:=by omega
     have hiz:¬((i:Int)<(i:Int)):=by omega
     have hr2:Hid (R=(ao&&v0&& !pb&&p0&&decide (f.length≤200)&&decide (l.length≤200))):=hide (by
      rw[hr.out]
      have:=hpre.out
      rw[List.take_of_length_le (by rw[Hm.out];exact Nat.le_refl _)] at this
      rw[List.all_eq_true.2 this];simp)
     clear hr
     cases ao with
     | false=>
      clear HFx HA Hm Hlf Hll hpre HX
      go_wp2_with (go_at_call 59;fail)
      refine hAt.mono ?_
      rintro e w2 ⟨rfl,hw2⟩
      obtain rfl:=hw2.symm
      clear hAt hw2
      go_wp2
      go_ret
      exact⟨by rw[hr2.out];rfl,hb0⟩
     | true=>
      have hlf:=Hlf.out
      have hll:=Hll.out
      by_cases y1:f.length≤200
      ·have z1:(sf.size:Int)≤200:=by omega
       rw[decide_eq_true y1] at hr2
       by_cases y2:l.length≤200
       ·have z2:(sl.size:Int)≤200:=by omega
        rw[decide_eq_true y2] at hr2
        clear HFx HA Hm Hlf Hll hpre HX y1 y2 hlf hll
        go_wp2_with (go_at_call 59;fail)
        refine hAt.mono ?_
        rintro e w2 ⟨rfl,hw2⟩
        obtain rfl:=hw2.symm
        clear hAt hw2
        cases v0<;>cases pb<;>cases p0<;>(go_wp2;go_ret;exact⟨by first | (rw[hr2.out];rfl) | (rw[hr2.out];simp;omega),hb0⟩)
       ·have z2:¬((sl.size:Int)≤200):=by omega
        rw[decide_eq_false y2] at hr2
        clear HFx HA Hm Hlf Hll hpre HX y1 y2 hlf hll
        go_wp2_with (go_at_call 59;fail)
        refine hAt.mono ?_
        rintro e w2 ⟨rfl,hw2⟩
        obtain rfl:=hw2.symm
        clear hAt hw2
        cases v0<;>cases pb<;>cases p0<;>(go_wp2;go_ret;exact⟨by first | (rw[hr2.out];rfl) | (rw[hr2.out];simp;omega),hb0⟩)
      ·have z1:¬((sf.size:Int)≤200):=by omega
       rw[decide_eq_false y1] at hr2
       have hr3:Hid (R=false):=hide (by rw[hr2.out];simp)
       clear HFx HA Hm Hlf Hll hpre HX y1 hlf hll hr2
       go_wp2_with (go_at_call 59;fail)
       refine hAt.mono ?_
       rintro e w2 ⟨rfl,hw2⟩
       obtain rfl:=hw2.symm
       clear hAt hw2
       cases v0<;>cases pb<;>cases p0<;>(go_wp2;go_ret;exact⟨by rw[hr3.out];rfl,hb0⟩)
  ·have hr:=hide (H9.out ⟨fun h=>k0 (.inl h),fun h=>k0 (.inr h),k2,fun h=>k3 (.inl h),k4,fun h=>k3 (.inr (.inl h)),fun h=>k3 (.inr (.inr (.inl h))),k7,fun h=>k3 (.inr (.inr (.inr h)))⟩)
   have y0:(k==0)=false:=beq_false_of_ne (by omega)
   have y1:(k==1)=false:=beq_false_of_ne (by omega)
   have y2:(k==2)=false:=beq_false_of_ne (by omega)
   have y3:(k==3)=false:=beq_false_of_ne (by omega)
   have y4:(k==4)=false:=beq_false_of_ne (by omega)
   have y5:(k==5)=false:=beq_false_of_ne (by omega)
   have y6:(k==6)=false:=beq_false_of_ne (by omega)
   have y7:(k==7)=false:=beq_false_of_ne (by omega)
   have y8:(k==8)=false:=beq_false_of_ne (by omega)
   clear H01 H2 H3 H7 H4 H9 HAt HFv HFx HA Hm Hlf Hll HX Hea Hev Hp0 Hp1 k0 k2 k3 k4 k7
   go_wp2
   go_ret
   exact⟨by rw[hr.out];rfl,hb0⟩
end Go.Proofs.YtaolhefllfnmiaaGreatDoor
namespace Go.Proofs.YtaolhefllfnmiaaGreatDoor
open Go.RowKit
set_option linter.unusedVariables false
theorem FT.all_mk (k:Int) (a v f l:List UInt8) (any:List (List UInt8)) (ps:List FT):FT.all (.mk k a v f l any ps)=(FT.bare (.mk k a v f l any ps)&&ps.all FT.all):=by
 rw[FT.all,FT.allL_all]
theorem rall_any (t:FT):∀(w:World) (u0 u1 u2 u3 u4 u5 u6:Value),FIn w w.heap.size t [u0,u1,u2,u3,u4,u5,u6]→
  Calls Tryz.prog 28 #[.agg #[u0,u1,u2,u3,u4,u5,u6]] w fun e w'=>e=.returned (.bool t.all)∧Below w.heap.size w w':=by
 induction t using FT.induct
 rename_i k a v f l any ps ih
 intro w u0 u1 u2 u3 u4 u5 u6 hF
 have hF0:=hF
 simp only[FIn] at hF
 obtain⟨A,c,D,dd,xs,hcs,⟨hml,hnl⟩,hA,hD,hP⟩:=hF
 cases hcs
 unfold maxLen at hml hnl
 obtain⟨m,hm⟩:∃m,any.length=m:=⟨_,rfl⟩
 obtain⟨np,hnp⟩:∃np,ps.length=np:=⟨_,rfl⟩
 have hnl1:(np:Int)≤9223372036854775807:=by omega
 have hX:=Box7.new w k (txt a) (txt v) (txt f) (txt l) A any.length c D ps.length dd 25
 have hb0:=below1 w (.cells #[.int .i64 k,.string (txt a),.string (txt v),.string (txt f),.string (txt l),.slice A any.length c,.slice D ps.length dd] 25)
 rw[hm,hnp] at hX hb0 ⊢
 obtain⟨t0,ht0⟩:∃t0,FT.mk k a v f l any ps=t0:=⟨_,rfl⟩
 have htp:t0.parts=ps:=by rw[←ht0];rfl
 obtain⟨R,hR⟩:∃R:Bool,t0.all=R:=⟨_,rfl⟩
 have hRd:R=(t0.bare&&ps.all FT.all):=by rw[←hR,←ht0,FT.all_mk]
 rw[ht0] at hF0
 rw[ht0,hR]
 obtain⟨w1,hw1⟩:∃w1,(w.alloc (.cells #[.int .i64 k,.string (txt a),.string (txt v),.string (txt f),.string (txt l),.slice A m c,.slice D np dd] 25))=w1:=⟨_,rfl⟩
 rw[hw1] at hX hb0
 have hF1:=hF0.grow hb0
 rw[hm,hnp] at hF1
 have hbare:=rbare_any t0 w1 _ _ _ _ _ _ _ hF1
 obtain⟨bt,hbt⟩:∃bt:Bool,t0.bare=bt:=⟨_,rfl⟩
 rw[hbt] at hbare hRd
 have HR:=hide hRd
 have HD:=hide hD
 have HP:=hide hP
 have Hih:=hide ih
 have Hnp:=hide hnp
 have HX:=hide hX
 have Hw1:=hide hw1
 generalize txt a=sa at *
 generalize txt v=sv at *
 generalize txt f=sf at *
 generalize txt l=sl at *
 clear ih hA hD hP hm hnp hml hnl hR ht0 htp hX hRd hF0 hF1 hbt hw1
 obtain⟨_,c0,c1,c2,c3,c4,c5,c6⟩:=HX.out
 rw[←Hw1.out] at c0 c1 c2 c3 c4 c5 c6 hbare
 go_enter Tryz.func28,Tryz.ntmps28
 go_wp2_with (go_at_call 42;fail)
 refine hbare.mono ?_
 rintro e w2 ⟨rfl,hb2⟩
 rw[Hw1.out] at hb2
 have hX2:=HX.out.below HX.out.lt hb2
 have hb3:=hb0.trans (hb2.mono hb0.size)
 clear hbare hb2 HX hb0 Hw1 c0 c1 c2 c3 c4 c5 c6
 have HX2:=hide hX2
 obtain⟨_,c0,c1,c2,c3,c4,c5,c6⟩:=hX2
 cases bt with
 | false=>
  clear HD HP Hih Hnp
  go_wp2
  go_ret
  exact⟨by rw[HR.out];rfl,hb3⟩
 | true=>
  go_wp2
  go_loopg [10] np (fun r s10 wx=>∃j:Nat,j+r=np∧s10=.int .i64 (j:Int)∧Hid (∀p∈ps.take j,p.all=true)∧Hid (Below w.heap.size w wx∧Box7 wx w.heap.size k sa sv sf sl A m c D np dd))
  case atStart=>exact⟨0,by omega,rfl,hide (fun x hx=>by simp at hx),hide ⟨hb3,HX2.out⟩⟩
  case round=>
   obtain⟨j,hjg,rfl,hpre,hbr⟩:=hrel
   obtain⟨hb2,hX2⟩:=hbr.out
   clear hb3 c0 c1 c2 c3 c4 c5 c6
   obtain⟨_,c0,c1,c2,c3,c4,c5,c6⟩:=hX2
   cases gk with
   | zero=>
    obtain rfl:j=np:=by omega
    have hjz:¬((j:Int)<(j:Int)):=by omega
    have hq:Hid (R=true):=hide (by
     rw[HR.out]
     have:=hpre.out
     rw[List.take_of_length_le (by rw[Hnp.out];exact Nat.le_refl _)] at this
     rw[List.all_eq_true.2 this];rfl)
    clear HD HP Hih Hnp hpre HR
    go_wp2
    go_ret
    exact⟨by rw[hq.out];rfl,hb2⟩
   | succ r=>
    have hj:j<np:=by omega
    have hjz:(j:Int)<(np:Int):=by omega
    obtain⟨p,hp⟩:∃p,ps[j]?=some p:=⟨_,List.getElem?_eq_getElem (by rw[Hnp.out];exact hj)⟩
    have HD1:=HD.out
    rw[Hnp.out] at HD1
    have HP1:=HP.out
    obtain⟨g,o,hDe,hg,hparts⟩:=HD.out.part HP1 (fun h=>by rw[h] at hp;simp at hp)
    subst hDe
    obtain⟨u0,u1,u2,u3,u4,u5,u6,hpart⟩:=hparts j p hp
    obtain⟨hcp2,_,x0,x1,x2,x3,x4,x5,x6⟩:=hpart.below hb2
    replace hcp2:=hcp2.upto hb2.size
    have hcall:=Hih.out p (List.mem_of_getElem? hp) wr _ _ _ _ _ _ _ hcp2
    have HX2:=hide hbr.out.2
    cases hpa:p.all with
    | false=>
     have hq:Hid (R=false):=hide (by
      rw[HR.out]
      have:ps.all FT.all=false:=by rw[List.all_eq_false];exact⟨p,List.mem_of_getElem? hp,by rw[hpa];exact Bool.false_ne_true⟩
      rw[this];rfl)
     rw[hpa] at hcall
     clear HD HP Hih Hnp hpre HR hp HD1 HP1 hparts hpart hcp2 hpa
     go_wp2_with (go_at_call 28;fail)
     refine hcall.mono ?_
     rintro e w3 ⟨rfl,hb3⟩
     have hb4:=hb2.trans (hb3.mono hb2.size)
     clear hcall hb3 hbr hb2 c0 c1 c2 c3 c4 c5 c6 HX2
     go_wp2
     go_ret
     exact⟨by rw[hq.out];rfl,hb4⟩
    | true=>
     have hst:Hid (∀y∈ps.take (j+1),y.all=true):=hide (fun y hy=>by
      rw[List.take_add_one,hp] at hy
      simp only[Option.toList_some,List.mem_append,List.mem_singleton] at hy
      rcases hy with hy | rfl
      ·exact hpre.out y hy
      ·exact hpa)
     rw[hpa] at hcall
     clear HD HP Hih Hnp hpre HR hp HD1 HP1 hparts hpart hcp2 hpa
     go_wp2_with (go_at_call 28;fail)
     refine hcall.mono ?_
     rintro e w3 ⟨rfl,hb3⟩
     have hb4:=hb2.trans (hb3.mono hb2.size)
     have hX3:Hid (Below w.heap.size w w3∧Box7 w3 w.heap.size k sa sv sf sl A m c (some ⟨g,o,none⟩) np dd):=hide ⟨hb4,HX2.out.below HX2.out.lt hb3⟩
     clear hcall hb3 hb4 hbr hb2 c0 c1 c2 c3 c4 c5 c6
     go_wp2
     go_roundg r
     case measure=>omega
     case rel=>exact⟨j+1,by omega,by go_num,hst,hX3⟩
theorem rfformed_any (t:FT) (w:World) (u0 u1 u2 u3 u4 u5 u6:Value) (hF:FIn w w.heap.size t [u0,u1,u2,u3,u4,u5,u6]):
  Calls Tryz.prog 13 #[.agg #[u0,u1,u2,u3,u4,u5,u6]] w fun e w'=>e=.returned (.bool t.formed)∧Below w.heap.size w w':=by
 have hF0:=hF
 cases t with
 | mk k a v f l any ps=>
 simp only[FIn] at hF
 obtain⟨A,c,D,dd,xs,hcs,_⟩:=hF
 cases hcs
 obtain⟨m,hm⟩:∃m,any.length=m:=⟨_,rfl⟩
 obtain⟨np,hnp⟩:∃np,ps.length=np:=⟨_,rfl⟩
 have hX:=Box7.new w k (txt a) (txt v) (txt f) (txt l) A any.length c D ps.length dd 25
 have hb0:=below1 w (.cells #[.int .i64 k,.string (txt a),.string (txt v),.string (txt f),.string (txt l),.slice A any.length c,.slice D ps.length dd] 25)
 rw[hm,hnp] at hX hb0 hF0 ⊢
 obtain⟨t0,ht0⟩:∃t0,FT.mk k a v f l any ps=t0:=⟨_,rfl⟩
 rw[ht0] at hF0 ⊢
 have hF1:=hF0.grow hb0
 have hN:=rnodes_any t0 _ _ _ _ _ _ _ _ hF1
 obtain⟨y,hy⟩:∃y,min t0.nodes 41=y:=⟨_,rfl⟩
 obtain⟨z,hz⟩:∃z,min t0.depth (20+1)=z:=⟨_,rfl⟩
 obtain⟨R,hR⟩:∃R,t0.formed=R:=⟨_,rfl⟩
 rw[hR]
 have hRd:R=(decide (t0.nodes≤40)&&decide (t0.depth≤20)&&t0.all):=by rw[←hR];rfl
 rw[hy] at hN
 have HMd:=hide hz
 have HX:=hide hX
 clear hF0 hR hm hnp ht0
 generalize txt a=sa at *
 generalize txt v=sv at *
 generalize txt f=sf at *
 generalize txt l=sl at *
 obtain⟨_,c0,c1,c2,c3,c4,c5,c6⟩:=hX
 by_cases h1:t0.nodes≤40
 ·have z1:(y:Int)≤40:=by omega
  rw[decide_eq_true h1] at hRd
  by_cases h2:t0.depth≤20
  ·have z2:(z:Int)≤20:=by omega
   rw[decide_eq_true h2,Bool.true_and,Bool.true_and] at hRd
   have hR1:=hide hRd
   clear hRd hy hz h1 h2
   go_enter Tryz.func13,Tryz.ntmps13
   go_wp2_with (go_at_call 15;fail)
   refine hN.mono ?_
   rintro e w2 ⟨rfl,hb2⟩
   have hX2:=HX.out.below HX.out.lt hb2
   have hF2:=hF1.grow hb2
   have hb3:=hb0.trans (hb2.mono hb0.size)
   clear hN hb2 HX hb0 c0 c1 c2 c3 c4 c5 c6
   have HX2:=hide hX2
   obtain⟨_,c0,c1,c2,c3,c4,c5,c6⟩:=hX2
   have hDp:=rdeep_any t0 20 (by omega) w2 _ _ _ _ _ _ _ hF2
   rw[HMd.out] at hDp
   go_wp2_with (go_at_call 27;fail)
   refine hDp.mono ?_
   rintro e w3 ⟨rfl,hb4⟩
   have hX3:=HX2.out.below HX2.out.lt hb4
   have hF3:=hF2.grow hb4
   have hb5:=hb3.trans (hb4.mono hb3.size)
   clear hDp hb4 hb3 c0 c1 c2 c3 c4 c5 c6
   obtain⟨_,c0,c1,c2,c3,c4,c5,c6⟩:=hX3
   have hAl:=rall_any t0 w3 _ _ _ _ _ _ _ hF3
   go_wp2_with (go_at_call 28;fail)
   refine hAl.mono ?_
   rintro e w4 ⟨rfl,hb6⟩
   have hb7:=hb5.trans (hb6.mono hb5.size)
   clear hAl hb6 hb5 c0 c1 c2 c3 c4 c5 c6
   go_wp2
   go_ret
   exact⟨by rw[hR1.out];rfl,hb7⟩
  ·have z2:¬((z:Int)≤20):=by omega
   rw[decide_eq_false h2] at hRd
   have hR1:Hid (R=false):=hide (by rw[hRd];simp)
   clear hRd hy hz h1 h2
   go_enter Tryz.func13,Tryz.ntmps13
   go_wp2_with (go_at_call 15;fail)
   refine hN.mono ?_
   rintro e w2 ⟨rfl,hb2⟩
   have hX2:=HX.out.below HX.out.lt hb2
   have hF2:=hF1.grow hb2
   have hb3:=hb0.trans (hb2.mono hb0.size)
   clear hN hb2 HX hb0 c0 c1 c2 c3 c4 c5 c6
   have HX2:=hide hX2
   obtain⟨_,c0,c1,c2,c3,c4,c5,c6⟩:=hX2
   have hDp:=rdeep_any t0 20 (by omega) w2 _ _ _ _ _ _ _ hF2
   rw[HMd.out] at hDp
   go_wp2_with (go_at_call 27;fail)
   refine hDp.mono ?_
   rintro e w3 ⟨rfl,hb4⟩
   have hX3:=HX2.out.below HX2.out.lt hb4
   have hF3:=hF2.grow hb4
   have hb5:=hb3.trans (hb4.mono hb3.size)
   clear hDp hb4 hb3 c0 c1 c2 c3 c4 c5 c6
   obtain⟨_,c0,c1,c2,c3,c4,c5,c6⟩:=hX3
   go_wp2
   go_ret
   exact⟨by rw[hR1.out];rfl,hb5⟩
 ·have z1:¬((y:Int)≤40):=by omega
  rw[decide_eq_false h1] at hRd
  have hR1:Hid (R=false):=hide (by rw[hRd];simp)
  clear hRd hy hz h1
  go_enter Tryz.func13,Tryz.ntmps13
  go_wp2_with (go_at_call 15;fail)
  refine hN.mono ?_
  rintro e w2 ⟨rfl,hb2⟩
  have hX2:=HX.out.below HX.out.lt hb2
  have hF2:=hF1.grow hb2
  have hb3:=hb0.trans (hb2.mono hb0.size)
  clear hN hb2 HX hb0 c0 c1 c2 c3 c4 c5 c6
  have HX2:=hide hX2
  obtain⟨_,c0,c1,c2,c3,c4,c5,c6⟩:=hX2
  go_wp2
  go_ret
  exact⟨by rw[hR1.out];rfl,hb3⟩
def FT.smallB (t:FT):Bool:=decide (0≤t.small 0 60)
theorem fSmall_any (t:FT) (w:World) (u0 u1 u2 u3 u4 u5 u6:Value) (hF:FIn w w.heap.size t [u0,u1,u2,u3,u4,u5,u6]):
  Calls Tryz.prog 8 #[.agg #[u0,u1,u2,u3,u4,u5,u6]] w fun e w'=>e=.returned (.bool t.smallB)∧Below w.heap.size w w':=by
 have hF0:=hF
 cases t with
 | mk k a v f l any ps=>
 simp only[FIn] at hF
 obtain⟨A,c,D,dd,xs,hcs,_⟩:=hF
 cases hcs
 obtain⟨m,hm⟩:∃m,any.length=m:=⟨_,rfl⟩
 obtain⟨np,hnp⟩:∃np,ps.length=np:=⟨_,rfl⟩
 have hX:=Box7.new w k (txt a) (txt v) (txt f) (txt l) A any.length c D ps.length dd 25
 have hb0:=below1 w (.cells #[.int .i64 k,.string (txt a),.string (txt v),.string (txt f),.string (txt l),.slice A any.length c,.slice D ps.length dd] 25)
 rw[hm,hnp] at hX hb0 hF0 ⊢
 obtain⟨t0,ht0⟩:∃t0,FT.mk k a v f l any ps=t0:=⟨_,rfl⟩
 rw[ht0] at hF0 ⊢
 have hS:=fsmall_any t0 0 60 (by omega) (by omega) (by omega) (by omega) _ _ _ _ _ _ _ _ (hF0.grow hb0)
 obtain⟨y,hy⟩:∃y,t0.small 0 60=y:=⟨_,rfl⟩
 obtain⟨R,hR⟩:∃R,t0.smallB=R:=⟨_,rfl⟩
 rw[hR]
 have HR:Hid (R=decide (0≤y)):=hide (by rw[←hR,FT.smallB,hy])
 rw[hy] at hS
 clear hF0 hR hm hnp ht0 hy
 generalize txt a=sa at *
 generalize txt v=sv at *
 generalize txt f=sf at *
 generalize txt l=sl at *
 obtain⟨_,c0,c1,c2,c3,c4,c5,c6⟩:=hX
 go_enter Tryz.func8,Tryz.ntmps8
 go_wp2_with (go_at_call 23;fail)
 refine hS.mono ?_
 rintro e w2 ⟨rfl,hb2⟩
 have hb3:=hb0.trans (hb2.mono hb0.size)
 clear hS hb2 hb0 c0 c1 c2 c3 c4 c5 c6
 go_wp2
 go_ret
 exact⟨by rw[HR.out];rfl,hb3⟩
end Go.Proofs.YtaolhefllfnmiaaGreatDoor
namespace Go.Proofs.YtaolhefllfnmiaaGreatDoor
open Go.RowKit
set_option linter.unusedVariables false
end Go.Proofs.YtaolhefllfnmiaaGreatDoor
namespace Go.Proofs.YtaolhefllfnmiaaGreatDoor
open Go.RowKit
set_option linter.unusedVariables false
theorem FT.dig_hex (n:Nat) (h:n<16):FT.dig n=hexD n:=by
 have key:∀j:Fin 16,FT.dig j.val=hexD j.val:=by decide+kernel
 exact key ⟨n,h⟩
end Go.Proofs.YtaolhefllfnmiaaGreatDoor
namespace Go.Proofs.YtaolhefllfnmiaaGreatDoor
open Go.RowKit
set_option linter.unusedVariables false
namespace FT
structure BareIs (k:Int) (a v f l:List UInt8) (any:List (List UInt8)):Prop where
 kind:k=0∨k=1∨k=2∨k=3∨k=4∨k=5∨k=6∨k=7∨k=8
 la:a.length≤200
 lv:v.length≤200
 lf:f.length≤200
 ll:l.length≤200
 lx:∀x∈any,x.length≤200
theorem attr_len {a:List UInt8} (h:attrOk a=true):a.length≤40:=by
 unfold attrOk at h
 simp only[Bool.and_eq_true,decide_eq_true_eq] at h
 exact h.1.1.2
theorem fits_len {a:List UInt8} (h:fits a=true):1≤a.length∧a.length≤200:=by
 unfold fits at h
 simpa using h
theorem plain_nil {f l:List UInt8} {any:List (List UInt8)} (h:plain0 f l any=true):f=[]∧l=[]∧any=[]:=by
 unfold plain0 at h
 simpa[and_assoc] using h
theorem bare_is {k:Int} {a v f l:List UInt8} {any:List (List UInt8)} {ps:List FT} (h:bare (.mk k a v f l any ps)=true):BareIs k a v f l any:=by
 have nil:∀{f l:List UInt8} {any:List (List UInt8)},plain0 f l any=true→f.length≤200∧l.length≤200∧∀x∈any,x.length≤200:=fun h=>by
  obtain⟨rfl,rfl,rfl⟩:=plain_nil h
  exact⟨by simp,by simp,fun x hx=>by cases hx⟩
 by_cases h01:k=0∨k=1
 ·rw [bare_and _ _ _ _ _ _ _ h01] at h
  simp only[Bool.and_eq_true,beq_iff_eq] at h
  obtain⟨⟨rfl,rfl⟩,h3⟩:=h
  obtain⟨q1,q2,q3⟩:=nil h3
  exact⟨by omega,by simp,by simp,q1,q2,q3⟩
 by_cases h2:k=2
 ·subst h2
  rw[bare_not] at h
  simp only[Bool.and_eq_true,beq_iff_eq] at h
  obtain⟨⟨⟨rfl,rfl⟩,h3⟩,_⟩:=h
  obtain⟨q1,q2,q3⟩:=nil h3
  exact⟨by omega,by simp,by simp,q1,q2,q3⟩
 by_cases h3:k=3∨k=5∨k=6∨k=8
 ·rw [bare_val _ _ _ _ _ _ _ h3] at h
  simp only[Bool.and_eq_true] at h
  obtain⟨⟨⟨h4,h5⟩,h6⟩,_⟩:=h
  obtain⟨q1,q2,q3⟩:=nil h6
  have:=attr_len h4
  have:=fits_len h5
  exact⟨by omega,by omega,by omega,q1,q2,q3⟩
 by_cases h7:k=7
 ·subst h7
  rw[bare_has] at h
  simp only[Bool.and_eq_true,beq_iff_eq] at h
  obtain⟨⟨⟨h4,rfl⟩,h6⟩,_⟩:=h
  obtain⟨q1,q2,q3⟩:=nil h6
  have:=attr_len h4
  exact⟨by omega,by omega,by simp,q1,q2,q3⟩
 by_cases h4:k=4
 ·subst h4
  rw[bare_sub] at h
  simp only[Bool.and_eq_true,beq_iff_eq,decide_eq_true_eq] at h
  obtain⟨⟨⟨⟨⟨⟨h5,h6⟩,rfl⟩,_⟩,_⟩,h7⟩,h8⟩:=h
  have:=attr_len h6
  exact⟨by omega,by omega,by simp,h7,h8,fun x hx=>(fits_len (List.all_eq_true.1 h5 x hx)).2⟩
 rw[bare_else _ _ _ _ _ _ _ ⟨fun h=>h01 (.inl h),fun h=>h01 (.inr h),h2,fun h=>h3 (.inl h),h4,fun h=>h3 (.inr (.inl h)),fun h=>h3 (.inr (.inr (.inl h))),h7,fun h=>h3 (.inr (.inr (.inr h)))⟩] at h
 cases h
section
variable (k:Int) (a v f l:List UInt8) (any:List (List UInt8)) (ps:List FT)
end
theorem flat_take {α:Type} {L:List α} {i:Nat} {x:α} (g:α→List UInt8) (h:L[i]?=some x):(L.take (i+1)).flatMap g=(L.take i).flatMap g++g x:=by
 rw[List.take_add_one,h]
 simp
end FT
end Go.Proofs.YtaolhefllfnmiaaGreatDoor
