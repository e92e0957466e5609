/- Several texts in one: HSmall, HCount, HAttr, HBare, HFormed, HSame, HEsc, HText. By an AI agent. -/
import Derived.Test.YtaolhefllfnmiaaGreatDoorHX
import Derived.Deep.CutRange
import Derived.Deep.CutBlock
import Derived.BigQuiet
set_option maxRecDepth 100000
set_option maxHeartbeats 64000000
namespace Go.Proofs.YtaolhefllfnmiaaGreatDoor
open Go.RowKit
set_option linter.unusedVariables false
namespace FT
mutual
theorem small_bound:∀(t:FT) (d n:Int),0≤n→n≤60→ -1≤t.small d n∧t.small d n≤60
 | .mk k a v f l any ps,d,n,h0,h1=>by
  simp only[small]
  split
  ·omega
  ·split
   ·omega
   ·exact smallL_bound ps (d+1) (n-1) (by omega) (by omega)
theorem smallL_bound:∀(ps:List FT) (d n:Int),-1≤n→n≤60→ -1≤smallL ps d n∧smallL ps d n≤60
 | [],d,n,h0,h1=>by simp only[smallL];omega
 | p::r,d,n,h0,h1=>by
  simp only[smallL]
  split
  ·omega
  ·have:=small_bound p d n (by omega) h1
   exact smallL_bound r d _ this.1 this.2
end
theorem smallL_drop {ps:List FT} {i:Nat} {p:FT} {d n:Int} (h:ps[i]?=some p):smallL (ps.drop i) d n=if n<0 then -1 else smallL (ps.drop (i+1)) d (p.small d n):=by
 obtain⟨hi,he⟩:=List.getElem?_eq_some_iff.1 h
 rw[List.drop_eq_getElem_cons hi,he]
 simp only[smallL]
theorem smallL_end {ps:List FT} {i:Nat} {d n:Int} (h:ps.length≤i):smallL (ps.drop i) d n=n:=by
 rw[List.drop_eq_nil_of_le h]
 simp only[smallL]
end FT
inductive SmallWay (a v f l:List UInt8) (any:List (List UInt8)) (ps:List FT) (d n R:Int):Prop where
 | deep (h:40<d) (e:R= -1)
 | many (h:d≤40) (h1:100<any.length) (e:R= -1)
 | val (h:d≤40) (h1:any.length≤100) (h2:2000<v.length) (e:R= -1)
 | att (h:d≤40) (h1:any.length≤100) (h2:v.length≤2000) (h3:2000<a.length) (e:R= -1)
 | fst (h:d≤40) (h1:any.length≤100) (h2:v.length≤2000) (h3:a.length≤2000) (h4:2000<f.length) (e:R= -1)
 | lst (h:d≤40) (h1:any.length≤100) (h2:v.length≤2000) (h3:a.length≤2000) (h4:f.length≤2000) (h5:2000<l.length) (e:R= -1)
 | go (h:d≤40) (h1:any.length≤100) (h2:v.length≤2000) (h3:a.length≤2000) (h4:f.length≤2000) (h5:l.length≤2000)
  (e1:(∃x∈any,2000<x.length)→R= -1) (e2:(∀x∈any,x.length≤2000)→R=FT.smallL ps (d+1) (n-1))
theorem fsmall_way (k:Int) (a v f l:List UInt8) (any:List (List UInt8)) (ps:List FT) (d n:Int):SmallWay a v f l any ps d n (FT.small (.mk k a v f l any ps) d n):=by
 simp only[FT.small]
 by_cases h:40<d
 ·exact .deep h (by rw[if_pos (by simp[h])])
 by_cases h1:100<any.length
 ·exact .many (by omega) h1 (by rw[if_pos (by simp[h1])])
 by_cases h2:2000<v.length
 ·exact .val (by omega) (by omega) h2 (by rw[if_pos (by simp[h2])])
 by_cases h3:2000<a.length
 ·exact .att (by omega) (by omega) (by omega) h3 (by rw[if_pos (by simp[h3])])
 by_cases h4:2000<f.length
 ·exact .fst (by omega) (by omega) (by omega) (by omega) h4 (by rw[if_pos (by simp[h4])])
 by_cases h5:2000<l.length
 ·exact .lst (by omega) (by omega) (by omega) (by omega) (by omega) h5 (by rw[if_pos (by simp[h5])])
 refine .go (by omega) (by omega) (by omega) (by omega) (by omega) (by omega) (fun ⟨x,hx,hl⟩=>?_) (fun hx=>?_)
 ·rw [if_neg (by omega),if_pos (by simp only[List.any_eq_true,decide_eq_true_eq];exact⟨x,hx,hl⟩)]
 ·rw [if_neg (by omega),if_neg (by
   simp only[List.any_eq_true,decide_eq_true_eq]
   rintro ⟨x,h6,h7⟩
   have:=hx x h6
   omega)]
theorem fsmall_any (t:FT):∀(d n:Int),0≤d→d≤41→0≤n→n≤60→∀(w:World) (u0 u1 u2 u3 u4 u5 u6:Value),FIn w w.heap.size t [u0,u1,u2,u3,u4,u5,u6]→
  Calls Tryz.prog 23 #[.agg #[u0,u1,u2,u3,u4,u5,u6],.int .i64 d,.int .i64 n] w fun e w'=>e=.returned (.int .i64 (t.small d n))∧Below w.heap.size w w':=by
 induction t using FT.induct
 rename_i k a v f l any ps ih
 intro d n hd0 hd hn0 hn w u0 u1 u2 u3 u4 u5 u6 hF
 simp only[FIn] at hF
 obtain⟨A,c,D,dd,xs,hcs,⟨hml,hnl⟩,hA,hD,hP⟩:=hF
 cases hcs
 unfold maxLen at hml hnl
 have ha:=txt_size a
 have hv:=txt_size v
 have hf:=txt_size f
 have hl:=txt_size l
 obtain⟨R,hR⟩:∃R,FT.small (.mk k a v f l any ps) d n=R:=⟨_,rfl⟩
 have hB:=FT.small_bound (.mk k a v f l any ps) d n hn0 hn
 have hW:=fsmall_way k a v f l any ps d n
 rw[hR] at hW hB ⊢
 obtain⟨m,hm⟩:∃m,any.length=m:=⟨_,rfl⟩
 obtain⟨np,hnp⟩:∃np,ps.length=np:=⟨_,rfl⟩
 have hml1:(m:Int)≤9223372036854775807:=by omega
 have hnl1:(np:Int)≤9223372036854775807:=by omega
 have hX:=Box7.new w k (txt a) (txt v) (txt f) (txt l) A any.length c D ps.length dd 25
 have hb0:=below1 w (.cells #[.int .i64 k,.string (txt a),.string (txt v),.string (txt f),.string (txt l),.slice A any.length c,.slice D ps.length dd] 25)
 rw[hm,hnp] at hX hb0 ⊢
 cases hW with
 | deep h e0=>
  subst e0
  obtain⟨_,c0,c1,c2,c3,c4,c5,c6⟩:=hX
  have y0:40<d:=h
  generalize txt a=sa at *
  generalize txt v=sv at *
  generalize txt f=sf at *
  generalize txt l=sl at *
  clear ih hR hB hA hD hP ha hv hf hl hm hnp hml hnl hd0 hd hn0 hn
  go_enter Tryz.func23,Tryz.ntmps23
  go_wp2
  go_ret
  exact⟨rfl,hb0⟩
 | many h h1 e0=>
  subst e0
  obtain⟨_,c0,c1,c2,c3,c4,c5,c6⟩:=hX
  have z0:¬(40<d):=by omega
  have z1:((100:Int)<(m:Int)):=by omega
  generalize txt a=sa at *
  generalize txt v=sv at *
  generalize txt f=sf at *
  generalize txt l=sl at *
  clear ih hR hB hA hD hP ha hv hf hl hm hnp hml hnl hd0 hd hn0 hn
  go_enter Tryz.func23,Tryz.ntmps23
  go_wp2
  go_ret
  exact⟨rfl,hb0⟩
 | val h h1 h2 e0=>
  subst e0
  obtain⟨_,c0,c1,c2,c3,c4,c5,c6⟩:=hX
  have z0:¬(40<d):=by omega
  have z1:¬((100:Int)<(m:Int)):=by omega
  have z2:((2000:Int)<((txt v).size:Int)):=by omega
  generalize txt a=sa at *
  generalize txt v=sv at *
  generalize txt f=sf at *
  generalize txt l=sl at *
  clear ih hR hB hA hD hP ha hv hf hl hm hnp hml hnl hd0 hd hn0 hn
  go_enter Tryz.func23,Tryz.ntmps23
  go_wp2
  go_ret
  exact⟨rfl,hb0⟩
 | att h h1 h2 h3 e0=>
  subst e0
  obtain⟨_,c0,c1,c2,c3,c4,c5,c6⟩:=hX
  have z0:¬(40<d):=by omega
  have z1:¬((100:Int)<(m:Int)):=by omega
  have z2:¬((2000:Int)<((txt v).size:Int)):=by omega
  have z3:((2000:Int)<((txt a).size:Int)):=by omega
  generalize txt a=sa at *
  generalize txt v=sv at *
  generalize txt f=sf at *
  generalize txt l=sl at *
  clear ih hR hB hA hD hP ha hv hf hl hm hnp hml hnl hd0 hd hn0 hn
  go_enter Tryz.func23,Tryz.ntmps23
  go_wp2
  go_ret
  exact⟨rfl,hb0⟩
 | fst h h1 h2 h3 h4 e0=>
  subst e0
  obtain⟨_,c0,c1,c2,c3,c4,c5,c6⟩:=hX
  have z0:¬(40<d):=by omega
  have z1:¬((100:Int)<(m:Int)):=by omega
  have z2:¬((2000:Int)<((txt v).size:Int)):=by omega
  have z3:¬((2000:Int)<((txt a).size:Int)):=by omega
  have z4:((2000:Int)<((txt f).size:Int)):=by omega
  generalize txt a=sa at *
  generalize txt v=sv at *
  generalize txt f=sf at *
  generalize txt l=sl at *
  clear ih hR hB hA hD hP ha hv hf hl hm hnp hml hnl hd0 hd hn0 hn
  go_enter Tryz.func23,Tryz.ntmps23
  go_wp2
  go_ret
  exact⟨rfl,hb0⟩
 | lst h h1 h2 h3 h4 h5 e0=>
  subst e0
  obtain⟨_,c0,c1,c2,c3,c4,c5,c6⟩:=hX
  have z0:¬(40<d):=by omega
  have z1:¬((100:Int)<(m:Int)):=by omega
  have z2:¬((2000:Int)<((txt v).size:Int)):=by omega
  have z3:¬((2000:Int)<((txt a).size:Int)):=by omega
  have z4:¬((2000:Int)<((txt f).size:Int)):=by omega
  have z5:((2000:Int)<((txt l).size:Int)):=by omega
  generalize txt a=sa at *
  generalize txt v=sv at *
  generalize txt f=sf at *
  generalize txt l=sl at *
  clear ih hR hB hA hD hP ha hv hf hl hm hnp hml hnl hd0 hd hn0 hn
  go_enter Tryz.func23,Tryz.ntmps23
  go_wp2
  go_ret
  exact⟨rfl,hb0⟩
 | go h h1 h2 h3 h4 h5 e1 e2=>
  have z0:¬(40<d):=by omega
  have z1:¬((100:Int)<(m:Int)):=by omega
  have z2:¬((2000:Int)<((txt v).size:Int)):=by omega
  have z3:¬((2000:Int)<((txt a).size:Int)):=by omega
  have z4:¬((2000:Int)<((txt f).size:Int)):=by omega
  have z5:¬((2000:Int)<((txt l).size:Int)):=by omega
  have HX:=hide hX
  have HE1:=hide e1
  have HE2:=hide e2
  have HA:=hide hA
  have HD:=hide hD
  have HP:=hide hP
  have Hih:=hide ih
  have Hm:=hide hm
  have Hnp:=hide hnp
  have HBd:=hide hB
  obtain⟨_,c0,c1,c2,c3,c4,c5,c6⟩:=hX
  generalize txt a=sa at *
  generalize txt v=sv at *
  generalize txt f=sf at *
  generalize txt l=sl at *
  clear ih hR hB hA hD hP ha hv hf hl hm hnp hml hnl e1 e2 h1 h2 h3 h4 h5
  go_enter Tryz.func23,Tryz.ntmps23
  go_wp2
  go_loopg [44] m (fun r s44 wx=>∃i:Nat,i+r=m∧s44=.int .i64 (i:Int)∧Hid (Below w.heap.size w wx∧Box7 wx w.heap.size k sa sv sf sl A m c D np dd)∧Hid (∀x∈any.take i,x.length≤2000))
  case atStart=>exact⟨0,by omega,rfl,hide ⟨hb0,HX.out⟩,hide fun x hx=>by simp at hx⟩
  case round=>
   obtain⟨i,hig,rfl,hbr,hpre⟩:=hrel
   obtain⟨hb1,hX1⟩:=hbr.out
   clear c0 c1 c2 c3 c4 c5 c6 HX hb0
   cases gk with
   | succ r=>
    have hi:i<m:=by omega
    have hiz:(i:Int)<(m:Int):=by omega
    obtain⟨x,hx⟩:∃x,any[i]?=some x:=⟨_,List.getElem?_eq_getElem (by rw[Hm.out];exact hi)⟩
    have HA1:=HA.out
    rw[Hm.out] at HA1
    obtain⟨g,o,hAe,hg,hc⟩:=HA1.texts (fun h=>by rw[h] at hx;simp at hx)
    subst hAe
    have x0:=(hb1.cell (p:=⟨g,o+i,none⟩) hg).trans (hc i x hx)
    have hxs:=txt_size x
    obtain⟨_,c0,c1,c2,c3,c4,c5,c6⟩:=hX1
    by_cases hxl:2000<x.length
    ·have zx:(2000:Int)<((txt x).size:Int):=by omega
     have hRr:Hid (R= -1):=hide (HE1.out ⟨x,List.mem_of_getElem? hx,hxl⟩)
     generalize txt x=sx at *
     clear HA1 hc hx hxs hxl HE1 HE2 HA HD HP Hih Hm Hnp HBd hpre
     go_wp2
     go_ret
     exact⟨by rw[hRr.out];rfl,hb1⟩
    ·have zx:¬((2000:Int)<((txt x).size:Int)):=by omega
     have hpre2:Hid (∀y∈any.take (i+1),y.length≤2000):=hide (fun y hy=>by
      rw[List.take_add_one,hx] at hy
      simp only[Option.toList_some,List.mem_append,List.mem_singleton] at hy
      rcases hy with hy | rfl
      ·exact hpre.out y hy
      ·omega)
     generalize txt x=sx at *
     clear HA1 hc hx hxs hxl HE1 HE2 HA HD HP Hih Hm Hnp HBd hpre
     go_wp2
     go_roundg r
     case measure=>omega
     case rel=>exact⟨i+1,by omega,by go_num,hbr,hpre2⟩
   | zero=>
    obtain rfl:i=m:=by omega
    have hiz:¬((i:Int)<(i:Int)):=by omega
    have HR:Hid (R=FT.smallL (ps.drop 0) (d+1) (n-1)):=hide (HE2.out (by
     have:=hpre.out
     rwa [List.take_of_length_le (by rw[Hm.out];exact Nat.le_refl _)] at this))
    obtain⟨_,c0,c1,c2,c3,c4,c5,c6⟩:=hX1
    clear HE1 HE2 HA hpre Hm
    go_wp2
    go_loopg [2,60] np (fun r s2 s60 wx=>∃(j:Nat) (q:Int),j+r=np∧s60=.int .i64 (j:Int)∧s2=.int .i64 q∧ -1≤q∧q≤60∧Hid (Below w.heap.size w wx∧Box7 wx w.heap.size k sa sv sf sl A i c D np dd)∧Hid (R=FT.smallL (ps.drop j) (d+1) q))
    case atStart=>exact⟨0,n-1,by omega,rfl,by go_num,by omega,by omega,hbr,HR⟩
    case round=>
     obtain⟨j,q,hjg,rfl,rfl,hq0,hq1,hbr2,hpre2⟩:=hrel
     obtain⟨hb2,hX2⟩:=hbr2.out
     clear c0 c1 c2 c3 c4 c5 c6 hbr hb1
     cases gk with
     | zero=>
      obtain rfl:j=np:=by omega
      have hjz:¬((j:Int)<(j:Int)):=by omega
      have hq:Hid (R=q):=hide (by rw[hpre2.out,FT.smallL_end (by rw[Hnp.out];exact Nat.le_refl _)])
      obtain⟨_,c0,c1,c2,c3,c4,c5,c6⟩:=hX2
      clear HD HP Hih Hnp HBd hpre2 HR
      go_wp2
      go_ret
      exact⟨by rw[hq.out];rfl,hb2⟩
     | succ r=>
      have hj:j<np:=by omega
      have hjz:(j:Int)<(np:Int):=by omega
      obtain⟨p,hp⟩:∃p,ps[j]?=some p:=⟨_,List.getElem?_eq_getElem (by rw[Hnp.out];exact hj)⟩
      have hst:=FT.smallL_drop (d:=d+1) (n:=q) hp
      rw[←hpre2.out] at hst
      by_cases hqn:q<0
      ·rw [if_pos hqn] at hst
       have Hst:=hide hst
       obtain⟨_,c0,c1,c2,c3,c4,c5,c6⟩:=hX2
       clear HD HP Hih Hnp HBd hpre2 HR hp hst
       go_wp2
       go_ret
       exact⟨by rw[Hst.out];rfl,hb2⟩
      ·rw [if_neg hqn] at hst
       have Hst:=hide hst
       have HD1:=HD.out
       obtain⟨g,o,hDe,hg,hparts⟩:=HD1.part HP.out (fun h=>by rw[h] at hp;simp at hp)
       subst hDe
       obtain⟨u0,u1,u2,u3,u4,u5,u6,hpart⟩:=hparts j p hp
       obtain⟨hcp2,_,x0,x1,x2,x3,x4,x5,x6⟩:=hpart.below hb2
       replace hcp2:=hcp2.upto hb2.size
       have hcall:=Hih.out p (List.mem_of_getElem? hp) (d+1) q (by omega) (by omega) (by omega) hq1 wr _ _ _ _ _ _ _ hcp2
       have hbd:=FT.small_bound p (d+1) q (by omega) hq1
       obtain⟨z,hz⟩:∃z,p.small (d+1) q=z:=⟨_,rfl⟩
       rw[hz] at hcall hbd Hst
       obtain⟨_,c0,c1,c2,c3,c4,c5,c6⟩:=hX2
       have HX2:=hide hbr2.out.2
       clear HD HP Hih Hnp HBd hpre2 HR hp hst HD1 hparts hpart hcp2 hz
       go_wp2_with (go_at_call 23;fail)
       refine hcall.mono ?_
       rintro e w3 ⟨rfl,hb3⟩
       have hb4:=hb2.trans (hb3.mono hb2.size)
       have hX3:Hid (Below w.heap.size w w3∧Box7 w3 w.heap.size k sa sv sf sl A i c (some ⟨g,o,none⟩) np dd):=hide ⟨hb4,HX2.out.below HX2.out.lt hb3⟩
       clear hcall hb3 hb4 hbr2 hb2 c0 c1 c2 c3 c4 c5 c6
       go_wp2
       go_roundg r
       case measure=>omega
       case rel=>exact⟨j+1,z,by omega,by go_num,rfl,hbd.1,hbd.2,hX3,Hst⟩
end Go.Proofs.YtaolhefllfnmiaaGreatDoor
namespace Go.Proofs.YtaolhefllfnmiaaGreatDoor
open Go.RowKit
set_option linter.unusedVariables false
theorem rnodes_any (t:FT):∀(w:World) (u0 u1 u2 u3 u4 u5 u6:Value),FIn w w.heap.size t [u0,u1,u2,u3,u4,u5,u6]→
  Calls Tryz.prog 15 #[.agg #[u0,u1,u2,u3,u4,u5,u6]] w fun e w'=>e=.returned (.int .i64 ((min t.nodes 41:Nat):Int))∧Below w.heap.size w w':=by
 induction t using FT.induct
 rename_i k a v f l any ps ih
 intro w u0 u1 u2 u3 u4 u5 u6 hF
 simp only[FIn] at hF
 obtain⟨A,c,D,dd,xs,hcs,⟨hml,hnl⟩,hA,hD,hP⟩:=hF
 cases hcs
 unfold maxLen at hml hnl
 obtain⟨m,hm⟩:∃m,any.length=m:=⟨_,rfl⟩
 obtain⟨np,hnp⟩:∃np,ps.length=np:=⟨_,rfl⟩
 have hnl1:(np:Int)≤9223372036854775807:=by omega
 have hX:=Box7.new w k (txt a) (txt v) (txt f) (txt l) A any.length c D ps.length dd 25
 have hb0:=below1 w (.cells #[.int .i64 k,.string (txt a),.string (txt v),.string (txt f),.string (txt l),.slice A any.length c,.slice D ps.length dd] 25)
 rw[hm,hnp] at hX hb0 ⊢
 obtain⟨t0,ht0⟩:∃t0,FT.mk k a v f l any ps=t0:=⟨_,rfl⟩
 have htp:t0.parts=ps:=by rw[←ht0];rfl
 obtain⟨R,hR⟩:∃R:Nat,min t0.nodes 41=R:=⟨_,rfl⟩
 rw[ht0,hR]
 have HR:=hide hR
 have Ht:=hide htp
 have Ht0:=hide ht0
 have HD:=hide hD
 have HP:=hide hP
 have Hih:=hide ih
 have Hnp:=hide hnp
 have HX:=hide hX
 generalize txt a=sa at *
 generalize txt v=sv at *
 generalize txt f=sf at *
 generalize txt l=sl at *
 clear ih hA hD hP hm hnp hml hnl hR ht0 htp hX
 obtain⟨_,c0,c1,c2,c3,c4,c5,c6⟩:=HX.out
 go_enter Tryz.func15,Tryz.ntmps15
 go_wp2
 go_loopg [3,8] np (fun r s3 s8 wx=>∃(j q:Nat),j+r=np∧s8=.int .i64 (j:Int)∧s3=.int .i64 (q:Int)∧q≤81∧Hid (q=FT.capL (ps.take j)+1)∧Hid (Below w.heap.size w wx∧Box7 wx w.heap.size k sa sv sf sl A m c D np dd))
 case atStart=>exact⟨0,1,by omega,rfl,rfl,by omega,hide (by simp[FT.capL]),hide ⟨hb0,HX.out⟩⟩
 case round=>
  obtain⟨j,q,hjg,rfl,rfl,hq1,hpre,hbr⟩:=hrel
  obtain⟨hb2,hX2⟩:=hbr.out
  clear HX hb0 c0 c1 c2 c3 c4 c5 c6
  obtain⟨_,c0,c1,c2,c3,c4,c5,c6⟩:=hX2
  cases gk with
  | zero=>
   obtain rfl:j=np:=by omega
   have hjz:¬((j:Int)<(j:Int)):=by omega
   have hq:Hid (min q 41=R):=hide (by
    rw[hpre.out,List.take_of_length_le (by rw[Hnp.out];exact Nat.le_refl _),←HR.out,←Ht0.out,FT.cap_min,FT.nodes])
   clear HD HP Hih Hnp hpre HR Ht Ht0
   go_wp2
   all_goals (go_ret;refine⟨?_,hb2⟩;rw[←hq.out];(try simp);(try omega))
  | succ r=>
   have hj:j<np:=by omega
   have hjz:(j:Int)<(np:Int):=by omega
   obtain⟨p,hp⟩:∃p,ps[j]?=some p:=⟨_,List.getElem?_eq_getElem (by rw[Hnp.out];exact hj)⟩
   by_cases hqn:40<q
   ·have zq:(40:Int)<(q:Int):=by omega
    have hq:Hid (min q 41=R):=hide (by
     have:=FT.cap_over (ps:=ps) (i:=j) (by rw[hpre.out] at hqn;exact hqn) t0 Ht.out
     rw[HR.out] at this
     omega)
    clear HD HP Hih Hnp hpre HR Ht Ht0 hp
    go_wp2
    all_goals (go_ret;refine⟨?_,hb2⟩;rw[←hq.out];(try simp);(try omega))
   ·have zq:¬((40:Int)<(q:Int)):=by omega
    have HD1:=HD.out
    rw[Hnp.out] at HD1
    have HP1:=HP.out
    obtain⟨g,o,hDe,hg,hparts⟩:=HD.out.part HP1 (fun h=>by rw[h] at hp;simp at hp)
    subst hDe
    obtain⟨u0,u1,u2,u3,u4,u5,u6,hpart⟩:=hparts j p hp
    obtain⟨hcp2,_,x0,x1,x2,x3,x4,x5,x6⟩:=hpart.below hb2
    replace hcp2:=hcp2.upto hb2.size
    have hcall:=Hih.out p (List.mem_of_getElem? hp) wr _ _ _ _ _ _ _ hcp2
    obtain⟨y,hy⟩:∃y,min p.nodes 41=y:=⟨_,rfl⟩
    have hy41:y≤41:=by omega
    have hst:Hid (q+y=FT.capL (ps.take (j+1))+1):=hide (by rw[FT.capL_take hp,hpre.out,←hy];omega)
    rw[hy] at hcall
    have HX2:=hide hbr.out.2
    clear HD HP Hih Hnp hpre HR Ht Ht0 hp HD1 HP1 hparts hpart hcp2 hy
    go_wp2_with (go_at_call 15;fail)
    refine hcall.mono ?_
    rintro e w3 ⟨rfl,hb3⟩
    have hb4:=hb2.trans (hb3.mono hb2.size)
    have hX3:Hid (Below w.heap.size w w3∧Box7 w3 w.heap.size k sa sv sf sl A m c (some ⟨g,o,none⟩) np dd):=hide ⟨hb4,HX2.out.below HX2.out.lt hb3⟩
    clear hcall hb3 hb4 hbr hb2 c0 c1 c2 c3 c4 c5 c6
    go_wp2
    go_roundg r
    case measure=>omega
    case rel=>exact⟨j+1,q+y,by omega,by go_num,by go_num,by omega,hst,hX3⟩
theorem rdeep_any (t:FT):∀(M:Nat),M≤20→∀(w:World) (u0 u1 u2 u3 u4 u5 u6:Value),FIn w w.heap.size t [u0,u1,u2,u3,u4,u5,u6]→
  Calls Tryz.prog 27 #[.agg #[u0,u1,u2,u3,u4,u5,u6],.int .i64 (M:Int)] w fun e w'=>e=.returned (.int .i64 ((min t.depth (M+1):Nat):Int))∧Below w.heap.size w w':=by
 induction t using FT.induct
 rename_i k a v f l any ps ih
 intro M hM w u0 u1 u2 u3 u4 u5 u6 hF
 simp only[FIn] at hF
 obtain⟨A,c,D,dd,xs,hcs,⟨hml,hnl⟩,hA,hD,hP⟩:=hF
 cases hcs
 unfold maxLen at hml hnl
 obtain⟨m,hm⟩:∃m,any.length=m:=⟨_,rfl⟩
 obtain⟨np,hnp⟩:∃np,ps.length=np:=⟨_,rfl⟩
 have hnl1:(np:Int)≤9223372036854775807:=by omega
 have hX:=Box7.new w k (txt a) (txt v) (txt f) (txt l) A any.length c D ps.length dd 25
 have hb0:=below1 w (.cells #[.int .i64 k,.string (txt a),.string (txt v),.string (txt f),.string (txt l),.slice A any.length c,.slice D ps.length dd] 25)
 rw[hm,hnp] at hX hb0 ⊢
 obtain⟨t0,ht0⟩:∃t0,FT.mk k a v f l any ps=t0:=⟨_,rfl⟩
 have htp:t0.parts=ps:=by rw[←ht0];rfl
 obtain⟨R,hR⟩:∃R:Nat,min t0.depth (M+1)=R:=⟨_,rfl⟩
 rw[ht0,hR]
 have HR:=hide hR
 have Ht0:=hide ht0
 have HD:=hide hD
 have HP:=hide hP
 have Hih:=hide ih
 have Hnp:=hide hnp
 have HX:=hide hX
 generalize txt a=sa at *
 generalize txt v=sv at *
 generalize txt f=sf at *
 generalize txt l=sl at *
 clear ih hA hD hP hm hnp hml hnl hR ht0 htp hX
 obtain⟨_,c0,c1,c2,c3,c4,c5,c6⟩:=HX.out
 cases M with
 | zero=>
  have hR1:Hid (R=1):=hide (by have:=FT.depth_pos t0;have:=HR.out;omega)
  clear HD HP Hih Hnp HR Ht0
  go_enter Tryz.func27,Tryz.ntmps27
  go_wp2
  go_ret
  exact⟨by rw[hR1.out];rfl,hb0⟩
 | succ M=>
  have zM:(((M+1:Nat):Int)==0)=false:=beq_false_of_ne (by omega)
  have z20:M+1≤20:=hM
  obtain⟨y0,hy0⟩:∃y0:Int,((M+1:Nat):Int)=y0:=⟨_,rfl⟩
  have hy1:1≤y0:=by omega
  have hy2:y0≤20:=by omega
  have HY:Hid ((M:Int)=y0-1):=hide (by omega)
  rw[hy0] at zM ⊢
  clear hy0
  go_enter Tryz.func27,Tryz.ntmps27
  go_wp2
  go_loopg [5,12] np (fun r s5 s12 wx=>∃(j q:Nat),j+r=np∧s12=.int .i64 (j:Int)∧s5=.int .i64 (q:Int)∧q≤20∧Hid (q=FT.deepL (ps.take j) (M+1))∧Hid (Below w.heap.size w wx∧Box7 wx w.heap.size k sa sv sf sl A m c D np dd))
  case atStart=>exact⟨0,0,by omega,rfl,rfl,by omega,hide (by simp[FT.deepL]),hide ⟨hb0,HX.out⟩⟩
  case round=>
   obtain⟨j,q,hjg,rfl,rfl,hq1,hpre,hbr⟩:=hrel
   obtain⟨hb2,hX2⟩:=hbr.out
   clear HX hb0 c0 c1 c2 c3 c4 c5 c6
   obtain⟨_,c0,c1,c2,c3,c4,c5,c6⟩:=hX2
   cases gk with
   | zero=>
    obtain rfl:j=np:=by omega
    have hjz:¬((j:Int)<(j:Int)):=by omega
    have hq:Hid (q+1=R):=hide (by
     rw[hpre.out,List.take_of_length_le (by rw[Hnp.out];exact Nat.le_refl _),←HR.out,←Ht0.out,FT.deepL_min,FT.depth]
     omega)
    clear HD HP Hih Hnp hpre HR Ht0
    go_wp2
    go_ret
    refine⟨?_,hb2⟩
    rw[←hq.out]
    (try simp)
    (try go_num)
   | succ r=>
    have hj:j<np:=by omega
    have hjz:(j:Int)<(np:Int):=by omega
    obtain⟨p,hp⟩:∃p,ps[j]?=some p:=⟨_,List.getElem?_eq_getElem (by rw[Hnp.out];exact hj)⟩
    have HD1:=HD.out
    rw[Hnp.out] at HD1
    have HP1:=HP.out
    obtain⟨g,o,hDe,hg,hparts⟩:=HD.out.part HP1 (fun h=>by rw[h] at hp;simp at hp)
    subst hDe
    obtain⟨u0,u1,u2,u3,u4,u5,u6,hpart⟩:=hparts j p hp
    obtain⟨hcp2,_,x0,x1,x2,x3,x4,x5,x6⟩:=hpart.below hb2
    replace hcp2:=hcp2.upto hb2.size
    have hcall:=Hih.out p (List.mem_of_getElem? hp) M (by omega) wr _ _ _ _ _ _ _ hcp2
    obtain⟨y,hy⟩:∃y,min p.depth (M+1)=y:=⟨_,rfl⟩
    have hy20:y≤20:=by omega
    have hst:Hid (max q y=FT.deepL (ps.take (j+1)) (M+1)):=hide (by rw[FT.deepL_take hp,←hpre.out,hy])
    rw[hy,HY.out] at hcall
    have HX2:=hide hbr.out.2
    clear HD HP Hih Hnp hpre HR Ht0 hp HD1 HP1 hparts hpart hcp2 hy
    go_wp2_with (go_at_call 27;fail)
    refine hcall.mono ?_
    rintro e w3 ⟨rfl,hb3⟩
    have hb4:=hb2.trans (hb3.mono hb2.size)
    have hX3:Hid (Below w.heap.size w w3∧Box7 w3 w.heap.size k sa sv sf sl A m c (some ⟨g,o,none⟩) np dd):=hide ⟨hb4,HX2.out.below HX2.out.lt hb3⟩
    clear hcall hb3 hb4 hbr hb2 c0 c1 c2 c3 c4 c5 c6
    go_wp2
    all_goals (go_roundg r)
    all_goals (first | omega | exact⟨j+1,max q y,by omega,by go_num,by congr 1;omega,by omega,hst,hX3⟩)
end Go.Proofs.YtaolhefllfnmiaaGreatDoor
namespace Go.Proofs.YtaolhefllfnmiaaGreatDoor
open Go.RowKit
set_option linter.unusedVariables false
theorem rletter_any (c:UInt8) (w:World):Calls Tryz.prog 85 #[.int .u8 (c.toNat:Int)] w fun e w'=>e=.returned (.bool (FT.letter c))∧w'=w:=by
 have hlt:c.toNat<256:=c.toNat_lt
 obtain⟨b,hb⟩:∃b,FT.letter c=b:=⟨_,rfl⟩
 rw[hb]
 unfold FT.letter at hb
 generalize c.toNat=n at *
 by_cases h1:97≤n
 ·have z1:(97:Int)≤(n:Int):=by omega
  by_cases h2:n≤122
  ·have z2:(n:Int)≤122:=by omega
   obtain rfl:b=true:=by rw[←hb];simp;omega
   clear hb h1 h2
   go_enter Tryz.func85,Tryz.ntmps85
   go_wp2
   go_ret
   exact⟨rfl,rfl⟩
  ·have z2:¬((n:Int)≤122):=by omega
   have z3:(65:Int)≤(n:Int):=by omega
   have z4:¬((n:Int)≤90):=by omega
   obtain rfl:b=false:=by rw[←hb];simp;omega
   clear hb h1 h2
   go_enter Tryz.func85,Tryz.ntmps85
   go_wp2
   go_ret
   exact⟨rfl,rfl⟩
 ·have z1:¬((97:Int)≤(n:Int)):=by omega
  by_cases h3:65≤n
  ·have z3:(65:Int)≤(n:Int):=by omega
   by_cases h4:n≤90
   ·have z4:(n:Int)≤90:=by omega
    obtain rfl:b=true:=by rw[←hb];simp;omega
    clear hb h1 h3 h4
    go_enter Tryz.func85,Tryz.ntmps85
    go_wp2
    go_ret
    exact⟨rfl,rfl⟩
   ·have z4:¬((n:Int)≤90):=by omega
    obtain rfl:b=false:=by rw[←hb];simp;omega
    clear hb h1 h3 h4
    go_enter Tryz.func85,Tryz.ntmps85
    go_wp2
    go_ret
    exact⟨rfl,rfl⟩
  ·have z3:¬((65:Int)≤(n:Int)):=by omega
   obtain rfl:b=false:=by rw[←hb];simp;omega
   clear hb h1 h3
   go_enter Tryz.func85,Tryz.ntmps85
   go_wp2
   go_ret
   exact⟨rfl,rfl⟩
theorem rfits_any (t:List UInt8) (w:World):Calls Tryz.prog 60 #[.string (txt t)] w fun e w'=>e=.returned (.bool (FT.fits t))∧w'=w:=by
 have hsz:=txt_size t
 obtain⟨b,hb⟩:∃b,FT.fits t=b:=⟨_,rfl⟩
 rw[hb]
 unfold FT.fits at hb
 generalize t.length=n at *
 generalize txt t=X at *
 by_cases h1:1≤n
 ·have z1:(1:Int)≤(X.size:Int):=by omega
  by_cases h2:n≤200
  ·have z2:(X.size:Int)≤200:=by omega
   obtain rfl:b=true:=by rw[←hb];simp;omega
   clear hb h1 h2 hsz
   go_enter Tryz.func60,Tryz.ntmps60
   go_wp2
   go_ret
   exact⟨rfl,rfl⟩
  ·have z2:¬((X.size:Int)≤200):=by omega
   obtain rfl:b=false:=by rw[←hb];simp;omega
   clear hb h1 h2 hsz
   go_enter Tryz.func60,Tryz.ntmps60
   go_wp2
   go_ret
   exact⟨rfl,rfl⟩
 ·have z1:¬((1:Int)≤(X.size:Int)):=by omega
  obtain rfl:b=false:=by rw[←hb];simp;omega
  clear hb h1 hsz
  go_enter Tryz.func60,Tryz.ntmps60
  go_wp2
  go_ret
  exact⟨rfl,rfl⟩
theorem txt_at (l:List UInt8) (i:Nat) (hi:i<(txt l).size) (x:UInt8) (h:l[i]?=some x):(txt l)[i]'hi=x:=by
 have:=Lib.data_getElem? (txt l) i hi
 rw[txt_toList,h] at this
 exact (Option.some.inj this).symm
theorem rattr_any (t:List UInt8) (w:World):Calls Tryz.prog 59 #[.string (txt t)] w fun e w'=>e=.returned (.bool (FT.attrOk t))∧w'=w:=by
 have hsz:=txt_size t
 have HL:=fun c w=>rletter_any c w
 obtain⟨b,hb⟩:∃b,FT.attrOk t=b:=⟨_,rfl⟩
 rw[hb]
 have hat:=txt_at t
 have Hb:=hide hb
 by_cases h1:t.length<1
 ·have z1:((txt t).size:Int)<1:=by omega
  obtain rfl:b=false:=by rw[←hb];unfold FT.attrOk;simp;omega
  clear hb hat HL
  generalize txt t=X at *
  go_enter Tryz.func59,Tryz.ntmps59
  go_wp2
  go_ret
  exact⟨rfl,rfl⟩
 by_cases h2:40<t.length
 ·have z1:¬(((txt t).size:Int)<1):=by omega
  have z2:(40:Int)<((txt t).size:Int):=by omega
  obtain rfl:b=false:=by rw[←hb];unfold FT.attrOk;simp;omega
  clear hb hat HL
  generalize txt t=X at *
  go_enter Tryz.func59,Tryz.ntmps59
  go_wp2
  go_ret
  exact⟨rfl,rfl⟩
 have z1:¬(((txt t).size:Int)<1):=by omega
 have z2:¬((40:Int)<((txt t).size:Int)):=by omega
 have z0:(0:Int)<((txt t).size:Int):=by omega
 have n0:0<(txt t).size:=by omega
 obtain⟨x0,hx0⟩:∃x0,t[0]?=some x0:=⟨_,List.getElem?_eq_getElem (by omega)⟩
 have ha0:=hat 0 n0 x0 hx0
 have hok:FT.attrOk t=(FT.letter x0&&t.all FT.sign8):=by
  unfold FT.attrOk
  have e1:t.headD 0=x0:=by cases t with | nil=>simp at hx0 | cons a r=>simpa using hx0
  rw[e1]
  have e2:decide (1≤t.length)=true:=by simp;omega
  have e3:decide (t.length≤40)=true:=by simp;omega
  rw[e2,e3]
  simp
 rw[hok] at Hb
 have hlen:t.length≤40:=by omega
 obtain⟨n,hn⟩:∃n,t.length=n:=⟨_,rfl⟩
 have Hn:=hide hn
 have hX:(txt t).size=n:=by omega
 have hn40:n≤40:=by omega
 have Hat:=hide hat
 clear hb hok h1 h2 hlen hx0 hn hat
 generalize txt t=X at *
 clear hsz
 cases hl0:FT.letter x0 with
 | false=>
  rw[hl0] at Hb
  obtain rfl:b=false:=by rw[←Hb.out];rfl
  have hcall:=HL x0 w
  rw[hl0] at hcall
  rw[←ha0] at hcall
  clear HL Hat Hn hl0 ha0
  go_enter Tryz.func59,Tryz.ntmps59
  go_wp2_with (go_at_call 85;fail)
  refine hcall.mono ?_
  rintro e w1 ⟨rfl,hw1⟩
  obtain rfl:=hw1.symm
  clear hcall hw1
  go_wp2
  go_ret
  exact⟨rfl,rfl⟩
 | true=>
  rw[hl0,Bool.true_and] at Hb
  have hcall:=HL x0 w
  rw[hl0] at hcall
  rw[←ha0] at hcall
  clear hl0 ha0
  go_enter Tryz.func59,Tryz.ntmps59
  go_wp2_with (go_at_call 85;fail)
  refine hcall.mono ?_
  rintro e w1 ⟨rfl,hw1⟩
  obtain rfl:=hw1.symm
  clear hcall hw1
  go_wp2
  go_loopg [3] n (fun r s3 wx=>∃i:Nat,i+r=n∧s3=.int .i64 (i:Int)∧wx=w∧Hid (∀x∈t.take i,FT.sign8 x=true))
  case atStart=>exact⟨0,by omega,rfl,rfl,hide (fun x hx=>by simp at hx)⟩
  case round=>
   obtain⟨i,hig,rfl,hw2,hpre⟩:=hrel
   obtain rfl:=hw2.symm
   clear hw2
   cases gk with
   | zero=>
    obtain rfl:i=n:=by omega
    have hiz:¬((i:Int)<(X.size:Int)):=by omega
    have hbt:Hid (b=true):=hide (by
     rw[←Hb.out]
     have:=hpre.out
     rw[List.take_of_length_le (by rw[Hn.out];exact Nat.le_refl _)] at this
     rwa [List.all_eq_true])
    clear HL Hat Hn hpre Hb
    go_wp2
    go_ret
    exact⟨by rw[hbt.out];rfl,rfl⟩
   | succ r=>
    have hi:i<n:=by omega
    have hiX:i<X.size:=by omega
    have hiz:(i:Int)<(X.size:Int):=by omega
    obtain⟨x,hx⟩:∃x,t[i]?=some x:=⟨_,List.getElem?_eq_getElem (by rw[Hn.out];exact hi)⟩
    have hax:=Hat.out i hiX x hx
    have hcall:=HL x w
    have hyes:FT.sign8 x=true→Hid (∀y∈t.take (i+1),FT.sign8 y=true):=fun h=>hide (fun y hy=>by
     rw[List.take_add_one,hx] at hy
     simp only[Option.toList_some,List.mem_append,List.mem_singleton] at hy
     rcases hy with hy | rfl
     ·exact hpre.out y hy
     ·exact h)
    have hno:FT.sign8 x=false→Hid (b=false):=fun h=>hide (by
     rw[←Hb.out,List.all_eq_false]
     exact⟨x,List.mem_of_getElem? hx,by rw[h];exact Bool.false_ne_true⟩)
    have HY:=hide hyes
    have HN:=hide hno
    clear hyes hno HL Hat Hn hpre Hb hx
    obtain⟨q,hq⟩:∃q:Int,(x.toNat:Int)=q:=⟨_,rfl⟩
    cases hlx:FT.letter x with
    | true=>
     have hst:=HY.out (by unfold FT.sign8;rw[hlx];rfl)
     rw[hlx,←hax] at hcall
     clear HY HN hax hlx hq
     go_wp2_with (go_at_call 85;fail)
     refine hcall.mono ?_
     rintro e w1 ⟨rfl,hw1⟩
     obtain rfl:=hw1.symm
     clear hcall hw1
     go_wp2
     go_roundg r
     case measure=>omega
     case rel=>exact⟨i+1,by omega,by go_num,rfl,hst⟩
    | false=>
     rw[hlx] at hcall
     have hxn:x.toNat<256:=x.toNat_lt
     by_cases d1:48≤x.toNat
     ·have y1:(48:Int)≤(x.toNat:Int):=by omega
      by_cases d2:x.toNat≤57
      ·have y2:(x.toNat:Int)≤57:=by omega
       have hst:=HY.out (by unfold FT.sign8;simp;omega)
       rw[←hax] at hcall y1 y2
       clear HY HN hax hlx hq d1 d2
       go_wp2_with (go_at_call 85;fail)
       refine hcall.mono ?_
       rintro e w1 ⟨rfl,hw1⟩
       obtain rfl:=hw1.symm
       clear hcall hw1
       go_wp2
       go_roundg r
       case measure=>omega
       case rel=>exact⟨i+1,by omega,by go_num,rfl,hst⟩
      ·have y2:¬((x.toNat:Int)≤57):=by omega
       have y3:((x.toNat:Int)==45)=false:=beq_false_of_ne (by omega)
       have y4:decide ((x.toNat:Int)≤57)=false:=decide_eq_false (by omega)
       have y5:((x.toNat:Int)!=45)=true:=by unfold bne;rw[y3];rfl
       have hst:=HN.out (by unfold FT.sign8;rw[hlx];simp;omega)
       rw[←hax] at hcall y1 y2 y3 y4 y5
       clear HY HN hax hlx hq d1 d2
       go_wp2_with (go_at_call 85;fail)
       refine hcall.mono ?_
       rintro e w1 ⟨rfl,hw1⟩
       obtain rfl:=hw1.symm
       clear hcall hw1
       go_wp2
       go_ret
       exact⟨by rw[hst.out];rfl,rfl⟩
     ·have y1:¬((48:Int)≤(x.toNat:Int)):=by omega
      by_cases d3:x.toNat=45
      ·have y3:((x.toNat:Int)==45)=true:=by rw[d3];rfl
       have hst:=HY.out (by unfold FT.sign8;simp;omega)
       rw[←hax] at hcall y1 y3
       clear HY HN hax hlx hq d1 d3
       go_wp2_with (go_at_call 85;fail)
       refine hcall.mono ?_
       rintro e w1 ⟨rfl,hw1⟩
       obtain rfl:=hw1.symm
       clear hcall hw1
       go_wp2
       go_roundg r
       case measure=>omega
       case rel=>exact⟨i+1,by omega,by go_num,rfl,hst⟩
      ·have y3:((x.toNat:Int)==45)=false:=beq_false_of_ne (by omega)
       have hst:=HN.out (by unfold FT.sign8;rw[hlx];simp;omega)
       rw[←hax] at hcall y1 y3
       clear HY HN hax hlx hq d1 d3
       go_wp2_with (go_at_call 85;fail)
       refine hcall.mono ?_
       rintro e w1 ⟨rfl,hw1⟩
       obtain rfl:=hw1.symm
       clear hcall hw1
       go_wp2
       go_ret
       exact⟨by rw[hst.out];rfl,rfl⟩
end Go.Proofs.YtaolhefllfnmiaaGreatDoor
namespace Go.Proofs.YtaolhefllfnmiaaGreatDoor
open Go.RowKit
set_option linter.unusedVariables false
namespace FT
def plain0 (f l:List UInt8) (any:List (List UInt8)):Bool:=f==[]&&l==[]&&any==[]
section
variable (k:Int) (a v f l:List UInt8) (any:List (List UInt8)) (ps:List FT)
theorem bare_and (h:k=0∨k=1):bare (.mk k a v f l any ps)=(a==[]&&v==[]&&plain0 f l any):=by
 simp only[bare,plain0];rw[if_pos h]
theorem bare_not:bare (.mk 2 a v f l any ps)=(a==[]&&v==[]&&plain0 f l any&&ps.length==1):=by
 simp only[bare,plain0];rw[if_neg (by omega),if_pos trivial]
theorem bare_val (h:k=3∨k=5∨k=6∨k=8):bare (.mk k a v f l any ps)=(attrOk a&&fits v&&plain0 f l any&&ps.isEmpty):=by
 simp only[bare,plain0];rw[if_neg (by omega),if_neg (by omega),if_pos h]
theorem bare_has:bare (.mk 7 a v f l any ps)=(attrOk a&&v==[]&&plain0 f l any&&ps.isEmpty):=by
 simp only[bare,plain0];rw[if_neg (by omega),if_neg (by omega),if_neg (by omega),if_pos trivial]
theorem bare_sub:bare (.mk 4 a v f l any ps)=(any.all fits&&attrOk a&&v==[]&& !plain0 f l any&&ps.isEmpty&&f.length≤200&&l.length≤200):=by
 simp only[bare,plain0];rw[if_neg (by omega),if_neg (by omega),if_neg (by omega),if_neg (by omega),if_pos trivial]
theorem bare_else (h:k≠0∧k≠1∧k≠2∧k≠3∧k≠4∧k≠5∧k≠6∧k≠7∧k≠8):bare (.mk k a v f l any ps)=false:=by
 simp only[bare];rw[if_neg (by omega),if_neg (by omega),if_neg (by omega),if_neg (by omega),if_neg (by omega)]
end
end FT
theorem isEmpty_len {α:Type} (l:List α):l.isEmpty=(((l.length:Nat):Int)==0):=by
 cases l with
 | nil=>rfl
 | cons a r=>symm;exact beq_false_of_ne (by simp only[List.length_cons];omega)
theorem len_one {α:Type} (l:List α):(l.length==1)=(((l.length:Nat):Int)==1):=by
 by_cases h:l.length=1
 ·rw [h];rfl
 ·rw [beq_false_of_ne h,beq_false_of_ne (by omega)]
theorem rbare_any (t:FT) (w:World) (u0 u1 u2 u3 u4 u5 u6:Value) (hF:FIn w w.heap.size t [u0,u1,u2,u3,u4,u5,u6]):
  Calls Tryz.prog 42 #[.agg #[u0,u1,u2,u3,u4,u5,u6]] w fun e w'=>e=.returned (.bool t.bare)∧Below w.heap.size w w':=by
 cases t with
 | mk k a v f l any ps=>
 simp only[FIn] at hF
 obtain⟨A,c,D,dd,xs,hcs,⟨hml,hnl⟩,hA,hD,hP⟩:=hF
 cases hcs
 unfold maxLen at hml hnl
 obtain⟨R,hR⟩:∃R,FT.bare (.mk k a v f l any ps)=R:=⟨_,rfl⟩
 rw[hR]
 have hAt:=fun w=>rattr_any a w
 have hFv:=fun w=>rfits_any v w
 have hFx:=fun x w=>rfits_any x w
 obtain⟨pb,hpb⟩:∃pb,FT.plain0 f l any=pb:=⟨_,rfl⟩
 obtain⟨ao,hao⟩:∃ao,FT.attrOk a=ao:=⟨_,rfl⟩
 obtain⟨fv,hfv⟩:∃fv,FT.fits v=fv:=⟨_,rfl⟩
 obtain⟨a0,ha0⟩:∃a0,(a==[])=a0:=⟨_,rfl⟩
 obtain⟨v0,hv0⟩:∃v0,(v==[])=v0:=⟨_,rfl⟩
 obtain⟨p0,hp0⟩:∃p0,ps.isEmpty=p0:=⟨_,rfl⟩
 obtain⟨p1,hp1⟩:∃p1,(ps.length==1)=p1:=⟨_,rfl⟩
 obtain⟨m,hm⟩:∃m,any.length=m:=⟨_,rfl⟩
 obtain⟨np,hnp⟩:∃np,ps.length=np:=⟨_,rfl⟩
 have h01:(k=0∨k=1)→R=(a0&&v0&&pb):=fun h=>by rw[←hR,FT.bare_and _ _ _ _ _ _ _ h,ha0,hv0,hpb]
 have h2:k=2→R=(a0&&v0&&pb&&p1):=fun h=>by rw[←hR,h,FT.bare_not,ha0,hv0,hpb,hp1]
 have h3:(k=3∨k=5∨k=6∨k=8)→R=(ao&&fv&&pb&&p0):=fun h=>by rw[←hR,FT.bare_val _ _ _ _ _ _ _ h,hao,hfv,hpb,hp0]
 have h7:k=7→R=(ao&&v0&&pb&&p0):=fun h=>by rw[←hR,h,FT.bare_has,hao,hv0,hpb,hp0]
 have h4:k=4→R=(any.all FT.fits&&ao&&v0&& !pb&&p0&&decide (f.length≤200)&&decide (l.length≤200)):=fun h=>by rw[←hR,h,FT.bare_sub,hao,hv0,hpb,hp0]
 have h9:=fun h=>hR.symm.trans (FT.bare_else k a v f l any ps h)
 have ea:((txt a).toList==[])=a0:=by rw[txt_bytes];exact ha0
 have ev:((txt v).toList==[])=v0:=by rw[txt_bytes];exact hv0
 have ep0:((np:Int)==0)=p0:=by rw[←hp0,isEmpty_len,hnp]
 have ep1:((np:Int)==1)=p1:=by rw[←hp1,len_one,hnp]
 rw[hao] at hAt
 rw[hfv] at hFv
 have hlf:=txt_size f
 have hll:=txt_size l
 have hX:=Box7.new w k (txt a) (txt v) (txt f) (txt l) A any.length c D ps.length dd 25
 have hb0:=below1 w (.cells #[.int .i64 k,.string (txt a),.string (txt v),.string (txt f),.string (txt l),.slice A any.length c,.slice D ps.length dd] 25)
 rw[hm,hnp] at hX hb0 ⊢
 have ef:=(txt_bytes f)
 have el:=(txt_bytes l)
 have hmi:(m:Int)≤9223372036854775807:=by omega
 have H01:=hide h01
 have H2:=hide h2
 have H3:=hide h3
 have H7:=hide h7
 have H4:=hide h4
 have H9:=hide h9
 have HAt:=hide hAt
 have HFv:=hide hFv
 have HFx:=hide hFx
 have HA:=hide hA
 have Hm:=hide hm
 have Hpb:=hide hpb
 have Hlf:=hide hlf
 have Hll:=hide hll
 have Hef:=hide ef
 have Hel:=hide el
 have HX:=hide hX
 have Hea:=hide ea
 have Hev:=hide ev
 have Hp0:=hide ep0
 have Hp1:=hide ep1
 obtain⟨_,c0,c1,c2,c3,c4,c5,c6⟩:=hX
 clear hR h01 h2 h3 h7 h4 h9 hAt hFv hFx hA hD hP hm hnp hml hnl hpb hlf hll ef el ea ev ep0 ep1 ha0 hv0 hp0 hp1 hao hfv
 generalize txt a=sa at *
 generalize txt v=sv at *
 generalize txt f=sf at *
 generalize txt l=sl at *
 obtain⟨w1,hw1⟩:∃w1,(w.alloc (.cells #[.int .i64 k,.string sa,.string sv,.string sf,.string sl,.slice A m c,.slice D np dd] 25))=w1:=⟨_,rfl⟩
 have Hw1:=hide hw1
 clear hw1
 go_enter Tryz.func42,Tryz.ntmps42
 go_upto_region 1 with fail
 go_cut [3] from 4 to 18 (fun s3 wx=>s3=.bool (!pb)∧wx=w1)
 case first=>
  rw[Hw1.out] at c0 c1 c2 c3 c4 c5 c6 ⊢
  clear H01 H2 H3 H7 H4 H9 HAt HFv HFx HX hb0 Hea Hev Hp0 Hp1
  have hpb:=Hpb.out
  by_cases h1:f=[]
  ·subst h1
   have e1:(sf.toList==[])=true:=by rw[Hef.out];rfl
   have e1':(sf.toList !=[])=false:=by unfold bne;rw[e1];rfl
   by_cases h2:l=[]
   ·subst h2
    have e2:(sl.toList==[])=true:=by rw[Hel.out];rfl
    have e2':(sl.toList !=[])=false:=by unfold bne;rw[e2];rfl
    by_cases h3:any=[]
    ·subst h3
     obtain rfl:m=0:=by rw[←Hm.out];rfl
     obtain rfl:pb=true:=by rw[←hpb];rfl
     clear hpb Hpb Hef Hel HA Hm Hlf Hll Hw1
     go_wp2
     go_meet
     case rel=>exact⟨rfl,rfl⟩
    ·have z3:(0:Int)<(m:Int):=by have:=List.length_pos_iff.2 h3;have:=Hm.out;omega
     obtain rfl:pb=false:=by rw[←hpb];unfold FT.plain0;simp[h3]
     have z4:0<m:=by omega
     clear hpb Hpb Hef Hel HA Hm Hlf Hll Hw1 h3
     go_wp2
     go_meet
     case rel=>exact⟨rfl,rfl⟩
   ·have e2:(sl.toList==[])=false:=by rw[Hel.out];simpa using h2
    have e2':(sl.toList !=[])=true:=by unfold bne;rw[e2];rfl
    obtain rfl:pb=false:=by rw[←hpb];unfold FT.plain0;simp[h2]
    clear hpb Hpb Hef Hel HA Hm Hlf Hll Hw1 h2
    go_wp2
    go_meet
    case rel=>exact⟨rfl,rfl⟩
  ·have e1:(sf.toList==[])=false:=by rw[Hef.out];simpa using h1
   have e1':(sf.toList !=[])=true:=by unfold bne;rw[e1];rfl
   obtain rfl:pb=false:=by rw[←hpb];unfold FT.plain0;simp[h1]
   clear hpb Hpb Hef Hel HA Hm Hlf Hll Hw1 h1
   go_wp2
   go_meet
   case rel=>exact⟨rfl,rfl⟩
 case rest=>
  obtain⟨rfl,hwc⟩:=hcut
  obtain rfl:=hwc.symm
  clear hwc
  rw[Hw1.out] at c0 c1 c2 c3 c4 c5 c6 hb0 HX
  clear Hw1 Hpb Hef Hel
  by_cases k0:k=0∨k=1
  ·have hr:=hide (H01.out k0)
   clear H01 H2 H3 H7 H4 H9 HAt HFv HFx HA Hm Hlf Hll HX Hp0 Hp1
   have ea:=Hea.out
   have ev:=Hev.out
   rcases k0 with rfl | rfl
   ·cases a0<;>cases v0<;>cases pb<;>(go_wp2;go_ret;exact⟨by rw[hr.out];rfl,hb0⟩)
   ·cases a0<;>cases v0<;>cases pb<;>(go_wp2;go_ret;exact⟨by rw[hr.out];rfl,hb0⟩)
  by_cases k2:k=2
  ·have hr:=hide (H2.out k2)
   subst k2
   clear H01 H2 H3 H7 H4 H9 HAt HFv HFx HA Hm Hlf Hll HX Hp0 k0
   have ea:=Hea.out
   have ev:=Hev.out
   have ep:=Hp1.out
   cases a0<;>cases v0<;>cases pb<;>cases p1<;>(go_wp2;go_ret;exact⟨by rw[hr.out];rfl,hb0⟩)
  by_cases k3:k=3∨k=5∨k=6∨k=8
  ·have hr:=hide (H3.out k3)
   have hAt:=HAt.out w1
   have hFv:=HFv.out w1
   have ep:=Hp0.out
   clear H01 H2 H3 H7 H4 H9 HAt HFv HFx HA Hm Hlf Hll HX Hea Hev Hp0 Hp1 k0 k2
   rcases k3 with rfl | rfl | rfl | rfl
   ·cases ao with
    | false=>
     go_wp2_with (go_at_call 59;fail)
     refine hAt.mono ?_
     rintro e w2 ⟨rfl,hw2⟩
     obtain rfl:=hw2.symm
     clear hAt hw2
     go_wp2
     go_ret
     exact⟨by rw[hr.out];rfl,hb0⟩
    | true=>
     go_wp2_with (go_at_call 59;fail)
     refine hAt.mono ?_
     rintro e w2 ⟨rfl,hw2⟩
     obtain rfl:=hw2.symm
     clear hAt hw2
     go_wp2_with (go_at_call 60;fail)
     refine hFv.mono ?_
     rintro e w2 ⟨rfl,hw2⟩
     obtain rfl:=hw2.symm
     clear hFv hw2
     cases fv<;>cases pb<;>cases p0<;>(go_wp2;go_ret;exact⟨by rw[hr.out];rfl,hb0⟩)
   ·cases ao with
    | false=>
     go_wp2_with (go_at_call 59;fail)
     refine hAt.mono ?_
     rintro e w2 ⟨rfl,hw2⟩
     obtain rfl:=hw2.symm
     clear hAt hw2
     go_wp2
     go_ret
     exact⟨by rw[hr.out];rfl,hb0⟩
    | true=>
     go_wp2_with (go_at_call 59;fail)
     refine hAt.mono ?_
     rintro e w2 ⟨rfl,hw2⟩
     obtain rfl:=hw2.symm
     clear hAt hw2
     go_wp2_with (go_at_call 60;fail)
     refine hFv.mono ?_
     rintro e w2 ⟨rfl,hw2⟩
     obtain rfl:=hw2.symm
     clear hFv hw2
     cases fv<;>cases pb<;>cases p0<;>(go_wp2;go_ret;exact⟨by rw[hr.out];rfl,hb0⟩)
   ·cases ao with
    | false=>
     go_wp2_with (go_at_call 59;fail)
     refine hAt.mono ?_
     rintro e w2 ⟨rfl,hw2⟩
     obtain rfl:=hw2.symm
     clear hAt hw2
     go_wp2
     go_ret
     exact⟨by rw[hr.out];rfl,hb0⟩
    | true=>
     go_wp2_with (go_at_call 59;fail)
     refine hAt.mono ?_
     rintro e w2 ⟨rfl,hw2⟩
     obtain rfl:=hw2.symm
     clear hAt hw2
     go_wp2_with (go_at_call 60;fail)
     refine hFv.mono ?_
     rintro e w2 ⟨rfl,hw2⟩
     obtain rfl:=hw2.symm
     clear hFv hw2
     cases fv<;>cases pb<;>cases p0<;>(go_wp2;go_ret;exact⟨by rw[hr.out];rfl,hb0⟩)
   ·cases ao with
    | false=>
     go_wp2_with (go_at_call 59;fail)
     refine hAt.mono ?_
     rintro e w2 ⟨rfl,hw2⟩
     obtain rfl:=hw2.symm
     clear hAt hw2
     go_wp2
     go_ret
     exact⟨by rw[hr.out];rfl,hb0⟩
    | true=>
     go_wp2_with (go_at_call 59;fail)
     refine hAt.mono ?_
     rintro e w2 ⟨rfl,hw2⟩
     obtain rfl:=hw2.symm
     clear hAt hw2
     go_wp2_with (go_at_call 60;fail)
     refine hFv.mono ?_
     rintro e w2 ⟨rfl,hw2⟩
     obtain rfl:=hw2.symm
     clear hFv hw2
     cases fv<;>cases pb<;>cases p0<;>(go_wp2;go_ret;exact⟨by rw[hr.out];rfl,hb0⟩)
  by_cases k7:k=7
  ·have hr:=hide (H7.out k7)
   subst k7
   have hAt:=HAt.out w1
   have ev:=Hev.out
   have ep:=Hp0.out
   clear H01 H2 H3 H7 H4 H9 HAt HFv HFx HA Hm Hlf Hll HX Hea Hev Hp0 Hp1 k0 k2 k3
   cases ao with
   | false=>
    go_wp2_with (go_at_call 59;fail)
    refine hAt.mono ?_
    rintro e w2 ⟨rfl,hw2⟩
    obtain rfl:=hw2.symm
    clear hAt hw2
    go_wp2
    go_ret
    exact⟨by rw[hr.out];rfl,hb0⟩
   | true=>
    go_wp2_with (go_at_call 59;fail)
    refine hAt.mono ?_
    rintro e w2 ⟨rfl,hw2⟩
    obtain rfl:=hw2.symm
    clear hAt hw2
    cases v0<;>cases pb<;>cases p0<;>(go_wp2;go_ret;exact⟨by rw[hr.out];rfl,hb0⟩)
  by_cases k4:k=4
  ·have hr:=hide (H4.out k4)
   subst k4
   have hAt:=HAt.out w1
   have ev:=Hev.out
   have ep:=Hp0.out
   clear H01 H2 H3 H7 H4 H9 HAt HFv Hea Hev Hp0 Hp1 k0 k2 k3 k7
   go_wp2
   go_loopg [104] m (fun r s104 wx=>∃i:Nat,i+r=m∧s104=.int .i64 (i:Int)∧wx=w1∧Hid (∀x∈any.take i,FT.fits x=true))
   case atStart=>exact⟨0,by omega,rfl,rfl,hide (fun x hx=>by simp at hx)⟩
   case round=>
    obtain⟨i,hig,rfl,hw2,hpre⟩:=hrel
    obtain rfl:=hw2.symm
    clear hw2
    cases gk with
    | succ r=>
     have hi:i<m:=by omega
     have hiz:(i:Int)<(m:Int):=by omega
     obtain⟨x,hx⟩:∃x,any[i]?=some x:=⟨_,List.getElem?_eq_getElem (by rw[Hm.out];exact hi)⟩
     have HA1:=HA.out
     rw[Hm.out] at HA1
     obtain⟨g,o,hAe,hg,hc⟩:=HA1.texts (fun h=>by rw[h] at hx;simp at hx)
     subst hAe
     have x0:=(hb0.cell (p:=⟨g,o+i,none⟩) hg).trans (hc i x hx)
     have hcall:=HFx.out x w1
     cases hfx:FT.fits x with
     | false=>
      have hr2:Hid (R=false):=hide (by
       rw[hr.out]
       have:any.all FT.fits=false:=by rw[List.all_eq_false];exact⟨x,List.mem_of_getElem? hx,by rw[hfx];exact Bool.false_ne_true⟩
       rw[this];simp)
      rw[hfx] at hcall
      generalize txt x=X at *
      clear HFx HA1 hc hx hfx HA Hm Hlf Hll hpre hAt hr
      go_wp2_with (go_at_call 60;fail)
      refine hcall.mono ?_
      rintro e w2 ⟨rfl,hw2⟩
      obtain rfl:=hw2.symm
      clear hcall hw2
      go_wp2
      go_ret
      exact⟨by rw[hr2.out];rfl,hb0⟩
     | true=>
      have hpre2:Hid (∀y∈any.take (i+1),FT.fits y=true):=hide (fun y hy=>by
       rw[List.take_add_one,hx] at hy
       simp only[Option.toList_some,List.mem_append,List.mem_singleton] at hy
       rcases hy with hy | rfl
       ·exact hpre.out y hy
       ·exact hfx)
      rw[hfx] at hcall
      generalize txt x=X at *
      clear HFx HA1 hc hx hfx HA Hm Hlf Hll hpre hAt hr
      go_wp2_with (go_at_call 60;fail)
      refine hcall.mono ?_
      rintro e w2 ⟨rfl,hw2⟩
      obtain rfl:=hw2.symm
      clear hcall hw2
      go_wp2
      go_roundg r
      case measure=>omega
      case rel=>exact⟨i+1,by omega,by go_num,rfl,hpre2⟩
    | zero=>
     obtain rfl:i=m:=by omega
     have hiz:¬((i:Int)<(i:Int)):=by omega
     have hr2:Hid (R=(ao&&v0&& !pb&&p0&&decide (f.length≤200)&&decide (l.length≤200))):=hide (by
      rw[hr.out]
      have:=hpre.out
      rw[List.take_of_length_le (by rw[Hm.out];exact Nat.le_refl _)] at this
      rw[List.all_eq_true.2 this];simp)
     clear hr
     cases ao with
     | false=>
      clear HFx HA Hm Hlf Hll hpre HX
      go_wp2_with (go_at_call 59;fail)
      refine hAt.mono ?_
      rintro e w2 ⟨rfl,hw2⟩
      obtain rfl:=hw2.symm
      clear hAt hw2
      go_wp2
      go_ret
      exact⟨by rw[hr2.out];rfl,hb0⟩
     | true=>
      have hlf:=Hlf.out
      have hll:=Hll.out
      by_cases y1:f.length≤200
      ·have z1:(sf.size:Int)≤200:=by omega
       rw[decide_eq_true y1] at hr2
       by_cases y2:l.length≤200
       ·have z2:(sl.size:Int)≤200:=by omega
        rw[decide_eq_true y2] at hr2
        clear HFx HA Hm Hlf Hll hpre HX y1 y2 hlf hll
        go_wp2_with (go_at_call 59;fail)
        refine hAt.mono ?_
        rintro e w2 ⟨rfl,hw2⟩
        obtain rfl:=hw2.symm
        clear hAt hw2
        cases v0<;>cases pb<;>cases p0<;>(go_wp2;go_ret;exact⟨by first | (rw[hr2.out];rfl) | (rw[hr2.out];simp;omega),hb0⟩)
       ·have z2:¬((sl.size:Int)≤200):=by omega
        rw[decide_eq_false y2] at hr2
        clear HFx HA Hm Hlf Hll hpre HX y1 y2 hlf hll
        go_wp2_with (go_at_call 59;fail)
        refine hAt.mono ?_
        rintro e w2 ⟨rfl,hw2⟩
        obtain rfl:=hw2.symm
        clear hAt hw2
        cases v0<;>cases pb<;>cases p0<;>(go_wp2;go_ret;exact⟨by first | (rw[hr2.out];rfl) | (rw[hr2.out];simp;omega),hb0⟩)
      ·have z1:¬((sf.size:Int)≤200):=by omega
       rw[decide_eq_false y1] at hr2
       have hr3:Hid (R=false):=hide (by rw[hr2.out];simp)
       clear HFx HA Hm Hlf Hll hpre HX y1 hlf hll hr2
       go_wp2_with (go_at_call 59;fail)
       refine hAt.mono ?_
       rintro e w2 ⟨rfl,hw2⟩
       obtain rfl:=hw2.symm
       clear hAt hw2
       cases v0<;>cases pb<;>cases p0<;>(go_wp2;go_ret;exact⟨by rw[hr3.out];rfl,hb0⟩)
  ·have hr:=hide (H9.out ⟨fun h=>k0 (.inl h),fun h=>k0 (.inr h),k2,fun h=>k3 (.inl h),k4,fun h=>k3 (.inr (.inl h)),fun h=>k3 (.inr (.inr (.inl h))),k7,fun h=>k3 (.inr (.inr (.inr h)))⟩)
   have y0:(k==0)=false:=beq_false_of_ne (by omega)
   have y1:(k==1)=false:=beq_false_of_ne (by omega)
   have y2:(k==2)=false:=beq_false_of_ne (by omega)
   have y3:(k==3)=false:=beq_false_of_ne (by omega)
   have y4:(k==4)=false:=beq_false_of_ne (by omega)
   have y5:(k==5)=false:=beq_false_of_ne (by omega)
   have y6:(k==6)=false:=beq_false_of_ne (by omega)
   have y7:(k==7)=false:=beq_false_of_ne (by omega)
   have y8:(k==8)=false:=beq_false_of_ne (by omega)
   clear H01 H2 H3 H7 H4 H9 HAt HFv HFx HA Hm Hlf Hll HX Hea Hev Hp0 Hp1 k0 k2 k3 k4 k7
   go_wp2
   go_ret
   exact⟨by rw[hr.out];rfl,hb0⟩
end Go.Proofs.YtaolhefllfnmiaaGreatDoor
namespace Go.Proofs.YtaolhefllfnmiaaGreatDoor
open Go.RowKit
set_option linter.unusedVariables false
theorem FT.all_mk (k:Int) (a v f l:List UInt8) (any:List (List UInt8)) (ps:List FT):FT.all (.mk k a v f l any ps)=(FT.bare (.mk k a v f l any ps)&&ps.all FT.all):=by
 rw[FT.all,FT.allL_all]
theorem rall_any (t:FT):∀(w:World) (u0 u1 u2 u3 u4 u5 u6:Value),FIn w w.heap.size t [u0,u1,u2,u3,u4,u5,u6]→
  Calls Tryz.prog 28 #[.agg #[u0,u1,u2,u3,u4,u5,u6]] w fun e w'=>e=.returned (.bool t.all)∧Below w.heap.size w w':=by
 induction t using FT.induct
 rename_i k a v f l any ps ih
 intro w u0 u1 u2 u3 u4 u5 u6 hF
 have hF0:=hF
 simp only[FIn] at hF
 obtain⟨A,c,D,dd,xs,hcs,⟨hml,hnl⟩,hA,hD,hP⟩:=hF
 cases hcs
 unfold maxLen at hml hnl
 obtain⟨m,hm⟩:∃m,any.length=m:=⟨_,rfl⟩
 obtain⟨np,hnp⟩:∃np,ps.length=np:=⟨_,rfl⟩
 have hnl1:(np:Int)≤9223372036854775807:=by omega
 have hX:=Box7.new w k (txt a) (txt v) (txt f) (txt l) A any.length c D ps.length dd 25
 have hb0:=below1 w (.cells #[.int .i64 k,.string (txt a),.string (txt v),.string (txt f),.string (txt l),.slice A any.length c,.slice D ps.length dd] 25)
 rw[hm,hnp] at hX hb0 ⊢
 obtain⟨t0,ht0⟩:∃t0,FT.mk k a v f l any ps=t0:=⟨_,rfl⟩
 have htp:t0.parts=ps:=by rw[←ht0];rfl
 obtain⟨R,hR⟩:∃R:Bool,t0.all=R:=⟨_,rfl⟩
 have hRd:R=(t0.bare&&ps.all FT.all):=by rw[←hR,←ht0,FT.all_mk]
 rw[ht0] at hF0
 rw[ht0,hR]
 obtain⟨w1,hw1⟩:∃w1,(w.alloc (.cells #[.int .i64 k,.string (txt a),.string (txt v),.string (txt f),.string (txt l),.slice A m c,.slice D np dd] 25))=w1:=⟨_,rfl⟩
 rw[hw1] at hX hb0
 have hF1:=hF0.grow hb0
 rw[hm,hnp] at hF1
 have hbare:=rbare_any t0 w1 _ _ _ _ _ _ _ hF1
 obtain⟨bt,hbt⟩:∃bt:Bool,t0.bare=bt:=⟨_,rfl⟩
 rw[hbt] at hbare hRd
 have HR:=hide hRd
 have HD:=hide hD
 have HP:=hide hP
 have Hih:=hide ih
 have Hnp:=hide hnp
 have HX:=hide hX
 have Hw1:=hide hw1
 generalize txt a=sa at *
 generalize txt v=sv at *
 generalize txt f=sf at *
 generalize txt l=sl at *
 clear ih hA hD hP hm hnp hml hnl hR ht0 htp hX hRd hF0 hF1 hbt hw1
 obtain⟨_,c0,c1,c2,c3,c4,c5,c6⟩:=HX.out
 rw[←Hw1.out] at c0 c1 c2 c3 c4 c5 c6 hbare
 go_enter Tryz.func28,Tryz.ntmps28
 go_wp2_with (go_at_call 42;fail)
 refine hbare.mono ?_
 rintro e w2 ⟨rfl,hb2⟩
 rw[Hw1.out] at hb2
 have hX2:=HX.out.below HX.out.lt hb2
 have hb3:=hb0.trans (hb2.mono hb0.size)
 clear hbare hb2 HX hb0 Hw1 c0 c1 c2 c3 c4 c5 c6
 have HX2:=hide hX2
 obtain⟨_,c0,c1,c2,c3,c4,c5,c6⟩:=hX2
 cases bt with
 | false=>
  clear HD HP Hih Hnp
  go_wp2
  go_ret
  exact⟨by rw[HR.out];rfl,hb3⟩
 | true=>
  go_wp2
  go_loopg [10] np (fun r s10 wx=>∃j:Nat,j+r=np∧s10=.int .i64 (j:Int)∧Hid (∀p∈ps.take j,p.all=true)∧Hid (Below w.heap.size w wx∧Box7 wx w.heap.size k sa sv sf sl A m c D np dd))
  case atStart=>exact⟨0,by omega,rfl,hide (fun x hx=>by simp at hx),hide ⟨hb3,HX2.out⟩⟩
  case round=>
   obtain⟨j,hjg,rfl,hpre,hbr⟩:=hrel
   obtain⟨hb2,hX2⟩:=hbr.out
   clear hb3 c0 c1 c2 c3 c4 c5 c6
   obtain⟨_,c0,c1,c2,c3,c4,c5,c6⟩:=hX2
   cases gk with
   | zero=>
    obtain rfl:j=np:=by omega
    have hjz:¬((j:Int)<(j:Int)):=by omega
    have hq:Hid (R=true):=hide (by
     rw[HR.out]
     have:=hpre.out
     rw[List.take_of_length_le (by rw[Hnp.out];exact Nat.le_refl _)] at this
     rw[List.all_eq_true.2 this];rfl)
    clear HD HP Hih Hnp hpre HR
    go_wp2
    go_ret
    exact⟨by rw[hq.out];rfl,hb2⟩
   | succ r=>
    have hj:j<np:=by omega
    have hjz:(j:Int)<(np:Int):=by omega
    obtain⟨p,hp⟩:∃p,ps[j]?=some p:=⟨_,List.getElem?_eq_getElem (by rw[Hnp.out];exact hj)⟩
    have HD1:=HD.out
    rw[Hnp.out] at HD1
    have HP1:=HP.out
    obtain⟨g,o,hDe,hg,hparts⟩:=HD.out.part HP1 (fun h=>by rw[h] at hp;simp at hp)
    subst hDe
    obtain⟨u0,u1,u2,u3,u4,u5,u6,hpart⟩:=hparts j p hp
    obtain⟨hcp2,_,x0,x1,x2,x3,x4,x5,x6⟩:=hpart.below hb2
    replace hcp2:=hcp2.upto hb2.size
    have hcall:=Hih.out p (List.mem_of_getElem? hp) wr _ _ _ _ _ _ _ hcp2
    have HX2:=hide hbr.out.2
    cases hpa:p.all with
    | false=>
     have hq:Hid (R=false):=hide (by
      rw[HR.out]
      have:ps.all FT.all=false:=by rw[List.all_eq_false];exact⟨p,List.mem_of_getElem? hp,by rw[hpa];exact Bool.false_ne_true⟩
      rw[this];rfl)
     rw[hpa] at hcall
     clear HD HP Hih Hnp hpre HR hp HD1 HP1 hparts hpart hcp2 hpa
     go_wp2_with (go_at_call 28;fail)
     refine hcall.mono ?_
     rintro e w3 ⟨rfl,hb3⟩
     have hb4:=hb2.trans (hb3.mono hb2.size)
     clear hcall hb3 hbr hb2 c0 c1 c2 c3 c4 c5 c6 HX2
     go_wp2
     go_ret
     exact⟨by rw[hq.out];rfl,hb4⟩
    | true=>
     have hst:Hid (∀y∈ps.take (j+1),y.all=true):=hide (fun y hy=>by
      rw[List.take_add_one,hp] at hy
      simp only[Option.toList_some,List.mem_append,List.mem_singleton] at hy
      rcases hy with hy | rfl
      ·exact hpre.out y hy
      ·exact hpa)
     rw[hpa] at hcall
     clear HD HP Hih Hnp hpre HR hp HD1 HP1 hparts hpart hcp2 hpa
     go_wp2_with (go_at_call 28;fail)
     refine hcall.mono ?_
     rintro e w3 ⟨rfl,hb3⟩
     have hb4:=hb2.trans (hb3.mono hb2.size)
     have hX3:Hid (Below w.heap.size w w3∧Box7 w3 w.heap.size k sa sv sf sl A m c (some ⟨g,o,none⟩) np dd):=hide ⟨hb4,HX2.out.below HX2.out.lt hb3⟩
     clear hcall hb3 hb4 hbr hb2 c0 c1 c2 c3 c4 c5 c6
     go_wp2
     go_roundg r
     case measure=>omega
     case rel=>exact⟨j+1,by omega,by go_num,hst,hX3⟩
theorem rfformed_any (t:FT) (w:World) (u0 u1 u2 u3 u4 u5 u6:Value) (hF:FIn w w.heap.size t [u0,u1,u2,u3,u4,u5,u6]):
  Calls Tryz.prog 13 #[.agg #[u0,u1,u2,u3,u4,u5,u6]] w fun e w'=>e=.returned (.bool t.formed)∧Below w.heap.size w w':=by
 have hF0:=hF
 cases t with
 | mk k a v f l any ps=>
 simp only[FIn] at hF
 obtain⟨A,c,D,dd,xs,hcs,_⟩:=hF
 cases hcs
 obtain⟨m,hm⟩:∃m,any.length=m:=⟨_,rfl⟩
 obtain⟨np,hnp⟩:∃np,ps.length=np:=⟨_,rfl⟩
 have hX:=Box7.new w k (txt a) (txt v) (txt f) (txt l) A any.length c D ps.length dd 25
 have hb0:=below1 w (.cells #[.int .i64 k,.string (txt a),.string (txt v),.string (txt f),.string (txt l),.slice A any.length c,.slice D ps.length dd] 25)
 rw[hm,hnp] at hX hb0 hF0 ⊢
 obtain⟨t0,ht0⟩:∃t0,FT.mk k a v f l any ps=t0:=⟨_,rfl⟩
 rw[ht0] at hF0 ⊢
 have hF1:=hF0.grow hb0
 have hN:=rnodes_any t0 _ _ _ _ _ _ _ _ hF1
 obtain⟨y,hy⟩:∃y,min t0.nodes 41=y:=⟨_,rfl⟩
 obtain⟨z,hz⟩:∃z,min t0.depth (20+1)=z:=⟨_,rfl⟩
 obtain⟨R,hR⟩:∃R,t0.formed=R:=⟨_,rfl⟩
 rw[hR]
 have hRd:R=(decide (t0.nodes≤40)&&decide (t0.depth≤20)&&t0.all):=by rw[←hR];rfl
 rw[hy] at hN
 have HMd:=hide hz
 have HX:=hide hX
 clear hF0 hR hm hnp ht0
 generalize txt a=sa at *
 generalize txt v=sv at *
 generalize txt f=sf at *
 generalize txt l=sl at *
 obtain⟨_,c0,c1,c2,c3,c4,c5,c6⟩:=hX
 by_cases h1:t0.nodes≤40
 ·have z1:(y:Int)≤40:=by omega
  rw[decide_eq_true h1] at hRd
  by_cases h2:t0.depth≤20
  ·have z2:(z:Int)≤20:=by omega
   rw[decide_eq_true h2,Bool.true_and,Bool.true_and] at hRd
   have hR1:=hide hRd
   clear hRd hy hz h1 h2
   go_enter Tryz.func13,Tryz.ntmps13
   go_wp2_with (go_at_call 15;fail)
   refine hN.mono ?_
   rintro e w2 ⟨rfl,hb2⟩
   have hX2:=HX.out.below HX.out.lt hb2
   have hF2:=hF1.grow hb2
   have hb3:=hb0.trans (hb2.mono hb0.size)
   clear hN hb2 HX hb0 c0 c1 c2 c3 c4 c5 c6
   have HX2:=hide hX2
   obtain⟨_,c0,c1,c2,c3,c4,c5,c6⟩:=hX2
   have hDp:=rdeep_any t0 20 (by omega) w2 _ _ _ _ _ _ _ hF2
   rw[HMd.out] at hDp
   go_wp2_with (go_at_call 27;fail)
   refine hDp.mono ?_
   rintro e w3 ⟨rfl,hb4⟩
   have hX3:=HX2.out.below HX2.out.lt hb4
   have hF3:=hF2.grow hb4
   have hb5:=hb3.trans (hb4.mono hb3.size)
   clear hDp hb4 hb3 c0 c1 c2 c3 c4 c5 c6
   obtain⟨_,c0,c1,c2,c3,c4,c5,c6⟩:=hX3
   have hAl:=rall_any t0 w3 _ _ _ _ _ _ _ hF3
   go_wp2_with (go_at_call 28;fail)
   refine hAl.mono ?_
   rintro e w4 ⟨rfl,hb6⟩
   have hb7:=hb5.trans (hb6.mono hb5.size)
   clear hAl hb6 hb5 c0 c1 c2 c3 c4 c5 c6
   go_wp2
   go_ret
   exact⟨by rw[hR1.out];rfl,hb7⟩
  ·have z2:¬((z:Int)≤20):=by omega
   rw[decide_eq_false h2] at hRd
   have hR1:Hid (R=false):=hide (by rw[hRd];simp)
   clear hRd hy hz h1 h2
   go_enter Tryz.func13,Tryz.ntmps13
   go_wp2_with (go_at_call 15;fail)
   refine hN.mono ?_
   rintro e w2 ⟨rfl,hb2⟩
   have hX2:=HX.out.below HX.out.lt hb2
   have hF2:=hF1.grow hb2
   have hb3:=hb0.trans (hb2.mono hb0.size)
   clear hN hb2 HX hb0 c0 c1 c2 c3 c4 c5 c6
   have HX2:=hide hX2
   obtain⟨_,c0,c1,c2,c3,c4,c5,c6⟩:=hX2
   have hDp:=rdeep_any t0 20 (by omega) w2 _ _ _ _ _ _ _ hF2
   rw[HMd.out] at hDp
   go_wp2_with (go_at_call 27;fail)
   refine hDp.mono ?_
   rintro e w3 ⟨rfl,hb4⟩
   have hX3:=HX2.out.below HX2.out.lt hb4
   have hF3:=hF2.grow hb4
   have hb5:=hb3.trans (hb4.mono hb3.size)
   clear hDp hb4 hb3 c0 c1 c2 c3 c4 c5 c6
   obtain⟨_,c0,c1,c2,c3,c4,c5,c6⟩:=hX3
   go_wp2
   go_ret
   exact⟨by rw[hR1.out];rfl,hb5⟩
 ·have z1:¬((y:Int)≤40):=by omega
  rw[decide_eq_false h1] at hRd
  have hR1:Hid (R=false):=hide (by rw[hRd];simp)
  clear hRd hy hz h1
  go_enter Tryz.func13,Tryz.ntmps13
  go_wp2_with (go_at_call 15;fail)
  refine hN.mono ?_
  rintro e w2 ⟨rfl,hb2⟩
  have hX2:=HX.out.below HX.out.lt hb2
  have hF2:=hF1.grow hb2
  have hb3:=hb0.trans (hb2.mono hb0.size)
  clear hN hb2 HX hb0 c0 c1 c2 c3 c4 c5 c6
  have HX2:=hide hX2
  obtain⟨_,c0,c1,c2,c3,c4,c5,c6⟩:=hX2
  go_wp2
  go_ret
  exact⟨by rw[hR1.out];rfl,hb3⟩
def FT.smallB (t:FT):Bool:=decide (0≤t.small 0 60)
theorem fSmall_any (t:FT) (w:World) (u0 u1 u2 u3 u4 u5 u6:Value) (hF:FIn w w.heap.size t [u0,u1,u2,u3,u4,u5,u6]):
  Calls Tryz.prog 8 #[.agg #[u0,u1,u2,u3,u4,u5,u6]] w fun e w'=>e=.returned (.bool t.smallB)∧Below w.heap.size w w':=by
 have hF0:=hF
 cases t with
 | mk k a v f l any ps=>
 simp only[FIn] at hF
 obtain⟨A,c,D,dd,xs,hcs,_⟩:=hF
 cases hcs
 obtain⟨m,hm⟩:∃m,any.length=m:=⟨_,rfl⟩
 obtain⟨np,hnp⟩:∃np,ps.length=np:=⟨_,rfl⟩
 have hX:=Box7.new w k (txt a) (txt v) (txt f) (txt l) A any.length c D ps.length dd 25
 have hb0:=below1 w (.cells #[.int .i64 k,.string (txt a),.string (txt v),.string (txt f),.string (txt l),.slice A any.length c,.slice D ps.length dd] 25)
 rw[hm,hnp] at hX hb0 hF0 ⊢
 obtain⟨t0,ht0⟩:∃t0,FT.mk k a v f l any ps=t0:=⟨_,rfl⟩
 rw[ht0] at hF0 ⊢
 have hS:=fsmall_any t0 0 60 (by omega) (by omega) (by omega) (by omega) _ _ _ _ _ _ _ _ (hF0.grow hb0)
 obtain⟨y,hy⟩:∃y,t0.small 0 60=y:=⟨_,rfl⟩
 obtain⟨R,hR⟩:∃R,t0.smallB=R:=⟨_,rfl⟩
 rw[hR]
 have HR:Hid (R=decide (0≤y)):=hide (by rw[←hR,FT.smallB,hy])
 rw[hy] at hS
 clear hF0 hR hm hnp ht0 hy
 generalize txt a=sa at *
 generalize txt v=sv at *
 generalize txt f=sf at *
 generalize txt l=sl at *
 obtain⟨_,c0,c1,c2,c3,c4,c5,c6⟩:=hX
 go_enter Tryz.func8,Tryz.ntmps8
 go_wp2_with (go_at_call 23;fail)
 refine hS.mono ?_
 rintro e w2 ⟨rfl,hb2⟩
 have hb3:=hb0.trans (hb2.mono hb0.size)
 clear hS hb2 hb0 c0 c1 c2 c3 c4 c5 c6
 go_wp2
 go_ret
 exact⟨by rw[HR.out];rfl,hb3⟩
end Go.Proofs.YtaolhefllfnmiaaGreatDoor
namespace Go.Proofs.YtaolhefllfnmiaaGreatDoor
open Go.RowKit
set_option linter.unusedVariables false
theorem rsametexts_any (w:World) (A A':Option Addr) (m m' c c':Nat) (L M:List (List UInt8)) (hA:Has w w.heap.size 1 A m (strs L)) (hA':Has w w.heap.size 1 A' m' (strs M)) (hm:m≤maxLen)
  (b:Bool) (hb:b=true↔L=M):
  Calls Tryz.prog 32 #[.slice A m c,.slice A' m' c'] w fun e w'=>e=.returned (.bool b)∧Below w.heap.size w w':=by
 have h1:=hA.strs_n
 have h2:=hA'.strs_n
 unfold maxLen at hm
 have hm1:(m:Int)≤9223372036854775807:=by omega
 by_cases hmm:m=m'
 ·subst hmm
  have HA:=hide hA
  have HA':=hide hA'
  have H1:=hide h1
  have H2:=hide h2
  have Hb:=hide hb
  clear hA hA' h1 h2 hb hm
  go_enter Tryz.func32,Tryz.ntmps32
  go_wp2
  go_loopg [13] m (fun r s13 wx=>∃i:Nat,i+r=m∧s13=.int .i64 (i:Int)∧Hid (Below w.heap.size w wx)∧Hid (L.take i=M.take i))
  case atStart=>exact⟨0,by omega,rfl,hide (Below.refl _ _),hide rfl⟩
  case round=>
   obtain⟨i,hig,rfl,hbr,hpre⟩:=hrel
   cases gk with
   | zero=>
    obtain rfl:i=m:=by omega
    have hiz:¬((i:Int)<(i:Int)):=by omega
    have hbt:Hid (b=true):=hide (Hb.out.2 (by
     have:=hpre.out
     rwa [List.take_of_length_le (by rw[←H1.out];exact Nat.le_refl _),List.take_of_length_le (by rw[←H2.out];exact Nat.le_refl _)] at this))
    clear HA HA' H1 H2 hpre Hb
    go_wp2
    go_ret
    exact⟨by rw[hbt.out];rfl,hbr.out⟩
   | succ r=>
    have hi:i<m:=by omega
    have hiz:(i:Int)<(m:Int):=by omega
    obtain⟨x,hx⟩:∃x,L[i]?=some x:=⟨_,List.getElem?_eq_getElem (by rw[←H1.out];exact hi)⟩
    obtain⟨y,hy⟩:∃y,M[i]?=some y:=⟨_,List.getElem?_eq_getElem (by rw[←H2.out];exact hi)⟩
    obtain⟨g,o,hAe,hg,hc⟩:=HA.out.texts (fun h=>by rw[h] at hx;simp at hx)
    obtain⟨g',o',hAe',hg',hc'⟩:=HA'.out.texts (fun h=>by rw[h] at hy;simp at hy)
    subst hAe hAe'
    have x0:=(hbr.out.cell (p:=⟨g,o+i,none⟩) hg).trans (hc i x hx)
    have y0:=(hbr.out.cell (p:=⟨g',o'+i,none⟩) hg').trans (hc' i y hy)
    by_cases hxy:x=y
    ·subst hxy
     have hpre2:Hid (L.take (i+1)=M.take (i+1)):=hide (by rw[List.take_add_one,List.take_add_one,hpre.out,hx,hy])
     generalize txt x=X at *
     clear hx hy hc hc' HA HA' H1 H2 hpre Hb
     go_wp2
     go_quiet (fail)
     go_wp2
     go_roundg r
     case measure=>omega
     case rel=>exact⟨i+1,by omega,by go_num,hide (Below.drewN hbr.out _),hpre2⟩
    ·have hbf:Hid (b=false):=hide (by
      cases hbb:b with
      | false=>rfl
      | true=>
       have:=Hb.out.1 hbb
       rw[this,hy] at hx
       exact absurd (Option.some.inj hx).symm hxy)
     have e1:=str_ne hxy
     have e2:=bne_of e1
     generalize txt x=X at *
     generalize txt y=Y at *
     clear hx hy hc hc' HA HA' H1 H2 hpre Hb hxy
     go_wp2
     go_quiet (fail)
     go_wp2
     go_ret
     exact⟨by rw[hbf.out];rfl,Below.drewN hbr.out _⟩
 ·have z1:((m:Int)==(m':Int))=false:=beq_false_of_ne (by omega)
  have z2:((m:Int)!=(m':Int))=true:=by unfold bne;rw[z1];rfl
  obtain rfl:b=false:=by
   cases b with
   | false=>rfl
   | true=>exact absurd (by rw[h1,h2,hb.1 rfl]) hmm
  clear hA hA' h1 h2 hb hm hmm
  go_enter Tryz.func32,Tryz.ntmps32
  go_wp2
  go_ret
  exact⟨rfl,Below.refl _ _⟩
theorem rfsame_any (t:FT):∀(t':FT) (w:World) (u0 u1 u2 u3 u4 u5 u6 v0 v1 v2 v3 v4 v5 v6:Value),FIn w w.heap.size t [u0,u1,u2,u3,u4,u5,u6]→FIn w w.heap.size t' [v0,v1,v2,v3,v4,v5,v6]→
  ∀b:Bool,(b=true↔t=t')→
  Calls Tryz.prog 17 #[.agg #[u0,u1,u2,u3,u4,u5,u6],.agg #[v0,v1,v2,v3,v4,v5,v6]] w fun e w'=>e=.returned (.bool b)∧Below w.heap.size w w':=by
 induction t using FT.induct
 rename_i k a v f l any ps ih
 intro t' w u0 u1 u2 u3 u4 u5 u6 v0 v1 v2 v3 v4 v5 v6 hF hF' b hb
 cases t' with
 | mk k' a' v' f' l' any' ps'=>
 simp only[FIn] at hF hF'
 obtain⟨A,c,D,dd,xs,hcs,⟨hml,hnl⟩,hA,hD,hP⟩:=hF
 cases hcs
 obtain⟨A',c',D',dd',xs',hcs,⟨hml',hnl'⟩,hA',hD',hP'⟩:=hF'
 cases hcs
 obtain⟨m,hm⟩:∃m,any.length=m:=⟨_,rfl⟩
 obtain⟨np,hnp⟩:∃np,ps.length=np:=⟨_,rfl⟩
 obtain⟨m',hm'⟩:∃m',any'.length=m':=⟨_,rfl⟩
 obtain⟨np',hnp'⟩:∃np',ps'.length=np':=⟨_,rfl⟩
 have hX:=Box7.new w k (txt a) (txt v) (txt f) (txt l) A any.length c D ps.length dd 25
 have hb0:=below1 w (.cells #[.int .i64 k,.string (txt a),.string (txt v),.string (txt f),.string (txt l),.slice A any.length c,.slice D ps.length dd] 25)
 obtain⟨w1,hw1⟩:∃w1,(w.alloc (.cells #[.int .i64 k,.string (txt a),.string (txt v),.string (txt f),.string (txt l),.slice A any.length c,.slice D ps.length dd] 25))=w1:=⟨_,rfl⟩
 have hsz:w1.heap.size=w.heap.size+1:=by rw[←hw1];simp
 rw[hw1] at hX hb0
 have hY:=Box7.new w1 k' (txt a') (txt v') (txt f') (txt l') A' any'.length c' D' ps'.length dd' 25
 have hb1:=below1 w1 (.cells #[.int .i64 k',.string (txt a'),.string (txt v'),.string (txt f'),.string (txt l'),.slice A' any'.length c',.slice D' ps'.length dd'] 25)
 have hX1:=hX.below hX.lt hb1
 have hb2:=hb0.trans (hb1.mono hb0.size)
 have hTx:=fun w hA hA' bt hbt=>rsametexts_any w A A' any.length any'.length c c' any any' hA hA' hml bt hbt
 unfold maxLen at hml hnl hml' hnl'
 rw[hm,hm'] at hTx
 rw[hm,hnp] at hX1 hw1 ⊢
 rw[hm',hnp'] at hY hb1 hb2 hX1 ⊢
 rw[hsz] at hY
 have hnl1:(np:Int)≤9223372036854775807:=by omega
 have hA2:=(hA.below hb2).upto hb2.size
 have hA2':=(hA'.below hb2).upto hb2.size
 rw[hm] at hA2
 rw[hm'] at hA2'
 have hw2:∃w2,w1.alloc (.cells #[.int .i64 k',.string (txt a'),.string (txt v'),.string (txt f'),.string (txt l'),.slice A' m' c',.slice D' np' dd'] 25)=w2:=⟨_,rfl⟩
 obtain⟨w2,hw2⟩:=hw2
 have HW1:=hide hw1
 have HW2:=hide hw2
 rw[hw2] at hX1 hY hb2 hA2 hA2'
 have HX:=hide hX1
 have HY:=hide hY
 have HB:=hide hb2
 have HD:=hide hD
 have HP:=hide hP
 have HD':=hide hD'
 have HP':=hide hP'
 have Hih:=hide ih
 have Hnp:=hide hnp
 have Hnp':=hide hnp'
 have HTx:=hide (hTx w2 hA2 hA2')
 have Hb:=hide hb
 have HSz:=hide hsz
 have inj:=fun h=>FT.mk.inj (hb.1 h)
 clear hD hP hD' hP' ih hnp hnp' hTx hA hA' hA2 hA2' hb hm hm' hml hnl hml' hnl' hX hb0 hb1 hb2 hw1 hw2
 obtain⟨_,c0,c1,c2,c3,c4,c5,c6⟩:=hX1
 obtain⟨_,d0,d1,d2,d3,d4,d5,d6⟩:=hY
 have start:∀(P:Prop),P→P:=fun _ h=>h
 by_cases h0:k=k'
 ·subst h0
  by_cases h1:a=a'
  ·subst h1
   by_cases h2:v=v'
   ·subst h2
    by_cases h3:f=f'
    ·subst h3
     by_cases h4:l=l'
     ·subst h4
      by_cases h5:any=any'
      ·have hcall:=HTx.out true ⟨fun _=>h5,fun _=>rfl⟩
       by_cases h6:np=np'
       ·subst h6
        have hps:¬b=true→ps≠ps':=fun h e=>h (Hb.out.2 (by rw[h5,e]))
        have hpt:ps=ps'→b=true:=fun e=>Hb.out.2 (by rw[h5,e])
        have hpf:b=true→ps=ps':=fun h=>(inj h).2.2.2.2.2.2
        have HPt:=hide hpt
        have HPf:=hide hpf
        clear HTx inj hps hpt hpf Hb h5 start
        generalize txt a=sa at *
        generalize txt v=sv at *
        generalize txt f=sf at *
        generalize txt l=sl at *
        go_enter Tryz.func17,Tryz.ntmps17
        go_upto_region 1 with fail
        rw[HW1.out,HW2.out]
        (try rw[HSz.out])
        go_wp2_with (go_at_call 32;fail)
        refine hcall.mono ?_
        rintro e w3 ⟨rfl,hb3⟩
        have HX3:=hide (HX.out.below HX.out.lt hb3)
        have HY3:=hide (HY.out.below HY.out.lt hb3)
        have HB3:=hide (HB.out.trans (hb3.mono HB.out.size))
        clear hcall hb3 HX HY HB c0 c1 c2 c3 c4 c5 c6 d0 d1 d2 d3 d4 d5 d6
        obtain⟨_,c0,c1,c2,c3,c4,c5,c6⟩:=HX3.out
        obtain⟨_,d0,d1,d2,d3,d4,d5,d6⟩:=HY3.out
        go_wp2
        go_loopg [59] np (fun r s59 wx=>∃j:Nat,j+r=np∧s59=.int .i64 (j:Int)∧Hid (ps.take j=ps'.take j)∧Hid (Below w.heap.size w wx∧Box7 wx w.heap.size k sa sv sf sl A m c D np dd∧Box7 wx (w.heap.size+1) k sa sv sf sl A' m' c' D' np dd'))
        case atStart=>exact⟨0,by omega,rfl,hide rfl,hide ⟨HB3.out,HX3.out,HY3.out⟩⟩
        case round=>
         obtain⟨j,hjg,rfl,hpre,hbr⟩:=hrel
         clear c0 c1 c2 c3 c4 c5 c6 d0 d1 d2 d3 d4 d5 d6 HX3 HY3 HB3
         obtain⟨hb3,hX3,hY3⟩:=hbr.out
         cases gk with
         | zero=>
          obtain rfl:j=np:=by omega
          have hjz:¬((j:Int)<(j:Int)):=by omega
          have hq:Hid (b=true):=hide (HPt.out (by
           have:=hpre.out
           rwa [List.take_of_length_le (by rw[Hnp.out];exact Nat.le_refl _),List.take_of_length_le (by rw[Hnp'.out];exact Nat.le_refl _)] at this))
          obtain⟨_,c0,c1,c2,c3,c4,c5,c6⟩:=hX3
          clear HD HP HD' HP' Hih Hnp Hnp' hpre HPt HPf hY3
          go_wp2
          go_ret
          exact⟨by rw[hq.out];rfl,hb3⟩
         | succ r=>
          have hj:j<np:=by omega
          have hjz:(j:Int)<(np:Int):=by omega
          obtain⟨p,hp⟩:∃p,ps[j]?=some p:=⟨_,List.getElem?_eq_getElem (by rw[Hnp.out];exact hj)⟩
          obtain⟨q,hq⟩:∃q,ps'[j]?=some q:=⟨_,List.getElem?_eq_getElem (by rw[Hnp'.out];exact hj)⟩
          have HP1:=HP.out
          have HP2:=HP'.out
          obtain⟨g,o,hDe,hg,hparts⟩:=HD.out.part HP1 (fun h=>by rw[h] at hp;simp at hp)
          obtain⟨g',o',hDe',hg',hparts'⟩:=HD'.out.part HP2 (fun h=>by rw[h] at hq;simp at hq)
          subst hDe hDe'
          obtain⟨u0,u1,u2,u3,u4,u5,u6,hpart⟩:=hparts j p hp
          obtain⟨v0,v1,v2,v3,v4,v5,v6,hpart'⟩:=hparts' j q hq
          have hdr:Below wr.heap.size wr wr.drew:=(Below.refl _ _).drew
          have hpd:Part7 wr.drew wr.drew.heap.size g (o+j*7) p u0 u1 u2 u3 u4 u5 u6:=((hpart.below hb3).up hb3.size).below hdr |>.up hdr.size
          have hqd:Part7 wr.drew wr.drew.heap.size g' (o'+j*7) q v0 v1 v2 v3 v4 v5 v6:=((hpart'.below hb3).up hb3.size).below hdr |>.up hdr.size
          have hXd:=hX3.below hX3.lt hdr
          have hYd:=hY3.below hY3.lt hdr
          have hbd:=hb3.trans (hdr.mono hb3.size)
          obtain⟨_,c0,c1,c2,c3,c4,c5,c6⟩:=hX3
          obtain⟨_,d0,d1,d2,d3,d4,d5,d6⟩:=hY3
          have hcall:=fun bb hbb=>Hih.out p (List.mem_of_getElem? hp) q wr.drew _ _ _ _ _ _ _ _ _ _ _ _ _ _ hpd.fin hqd.fin bb hbb
          obtain⟨bb,hbb⟩:∃bb:Bool,(bb=true↔p=q):=by
           by_cases h:p=q
           ·exact ⟨true,⟨fun _=>h,fun _=>rfl⟩⟩
           ·exact ⟨false,⟨fun h'=>(by cases h'),fun h'=>absurd h' h⟩⟩
          have hcall1:=hcall bb hbb
          have hyes:bb=true→Hid (ps.take (j+1)=ps'.take (j+1)):=fun h=>hide (by rw[List.take_add_one,List.take_add_one,hpre.out,hp,hq,hbb.1 h])
          have hno:bb=false→Hid (b=false):=fun h=>hide (by
           cases hb':b with
           | false=>rfl
           | true=>
            have e:=HPf.out hb'
            rw[e,hq] at hp
            have:=hbb.2 (Option.some.inj hp).symm
            rw[h] at this
            cases this)
          have HYes:=hide hyes
          have HNo:=hide hno
          have HPd:=hide hpd
          have HQd:=hide hqd
          have HXd:=hide hXd
          have HYd:=hide hYd
          have HBd:=hide hbd
          clear HD HP HD' HP' Hih Hnp Hnp' hpre HPt HPf HP1 HP2 hparts hparts' hpart hpart' hp hq hcall hyes hno hpd hqd hXd hYd hbd hdr hbb hbr hb3
          go_wp2_with fail
          refine grow_begin (by kernel_rfl) ?_
          clear c0 c1 c2 c3 c4 c5 c6 d0 d1 d2 d3 d4 d5 d6
          generalize wr.drew=w3 at *
          refine grow_take 0 (some 62) (v:=?vs0) rfl rfl (by kernel_rfl) (by kernel_rfl) (by kernel_rfl) (fun _ _ _ h=>h) (by rfl) (fun W hW=>?ys0) ?_
          case ys0=>
           go_simp<;>with_reducible rfl
          simp only[Act.put,List.setIfInBounds_toArray,List.set_cons_zero,List.set_cons_succ]
          refine grow_take 1 (some 63) (v:=?vs1) rfl rfl (by kernel_rfl) (by kernel_rfl) (by kernel_rfl) (fun _ _ _ h=>h) (by rfl) (fun W hW=>?ys1) ?_
          case ys1=>
           have h6:=(HXd.out.below HXd.out.lt hW).c6
           go_simp<;>with_reducible rfl
          simp only[Act.put,List.setIfInBounds_toArray,List.set_cons_zero,List.set_cons_succ]
          refine grow_take 2 (some 64) (v:=?vs2) rfl rfl (by kernel_rfl) (by kernel_rfl) (by kernel_rfl) (fun _ _ _ h=>h) (by rfl) (fun W hW=>?ys2) ?_
          case ys2=>
           go_simp<;>with_reducible rfl
          simp only[Act.put,List.setIfInBounds_toArray,List.set_cons_zero,List.set_cons_succ]
          refine grow_take 3 (some 65) (v:=?vs3) rfl rfl (by kernel_rfl) (by kernel_rfl) (by kernel_rfl) (fun _ _ _ h=>h) (by rfl) (fun W hW=>?ys3) ?_
          case ys3=>
           go_simp<;>with_reducible rfl
          simp only[Act.put,List.setIfInBounds_toArray,List.set_cons_zero,List.set_cons_succ]
          refine grow_take 4 (some 66) (v:=?vs4) rfl rfl (by kernel_rfl) (by kernel_rfl) (by kernel_rfl) (fun _ _ _ h=>h) (by rfl) (fun W hW=>?ys4) ?_
          case ys4=>
           obtain⟨_,_,e0,e1,e2,e3,e4,e5,e6⟩:=HPd.out.below hW
           go_simp<;>with_reducible rfl
          simp only[Act.put,List.setIfInBounds_toArray,List.set_cons_zero,List.set_cons_succ]
          refine grow_take 5 (some 67) (v:=?vs5) rfl rfl (by kernel_rfl) (by kernel_rfl) (by kernel_rfl) (fun _ _ _ h=>h) (by rfl) (fun W hW=>?ys5) ?_
          case ys5=>
           go_simp<;>with_reducible rfl
          simp only[Act.put,List.setIfInBounds_toArray,List.set_cons_zero,List.set_cons_succ]
          refine grow_take 6 (some 68) (v:=?vs6) rfl rfl (by kernel_rfl) (by kernel_rfl) (by kernel_rfl) (fun _ _ _ h=>h) (by rfl) (fun W hW=>?ys6) ?_
          case ys6=>
           have h6:=(HYd.out.below HYd.out.lt hW).c6
           go_simp<;>with_reducible rfl
          simp only[Act.put,List.setIfInBounds_toArray,List.set_cons_zero,List.set_cons_succ]
          refine grow_take 7 (some 69) (v:=?vs7) rfl rfl (by kernel_rfl) (by kernel_rfl) (by kernel_rfl) (fun _ _ _ h=>h) (by rfl) (fun W hW=>?ys7) ?_
          case ys7=>
           go_simp<;>with_reducible rfl
          simp only[Act.put,List.setIfInBounds_toArray,List.set_cons_zero,List.set_cons_succ]
          refine grow_take 8 (some 70) (v:=?vs8) rfl rfl (by kernel_rfl) (by kernel_rfl) (by kernel_rfl) (fun _ _ _ h=>h) (by rfl) (fun W hW=>?ys8) ?_
          case ys8=>
           go_simp<;>with_reducible rfl
          simp only[Act.put,List.setIfInBounds_toArray,List.set_cons_zero,List.set_cons_succ]
          refine grow_take 9 (some 71) (v:=?vs9) rfl rfl (by kernel_rfl) (by kernel_rfl) (by kernel_rfl) (fun _ _ _ h=>h) (by rfl) (fun W hW=>?ys9) ?_
          case ys9=>
           obtain⟨_,_,e0,e1,e2,e3,e4,e5,e6⟩:=HQd.out.below hW
           go_simp<;>with_reducible rfl
          simp only[Act.put,List.setIfInBounds_toArray,List.set_cons_zero,List.set_cons_succ]
          refine grow_only 10 rfl (by kernel_rfl) (fun K hK=>?_)
          go_simp
          refine hcall1.mono ?_
          rintro e w4 ⟨rfl,hb4⟩
          have HX4:=hide (HXd.out.below HXd.out.lt hb4)
          have HY4:=hide (HYd.out.below HYd.out.lt hb4)
          have HB4:=hide (HBd.out.trans (hb4.mono HBd.out.size))
          refine hK.out _ _ hb4 ?_
          clear hK K hcall1 hb4 HXd HYd HBd HPd HQd
          try simp only[Act.put,List.setIfInBounds_toArray,List.set_cons_zero,List.set_cons_succ]
          refine grow_take 11 (some 73) (v:=?vs11) rfl rfl (by kernel_rfl) (by kernel_rfl) (by kernel_rfl) (fun _ _ _ h=>h) (by rfl) (fun W hW=>?ys11) ?_
          case ys11=>
           go_simp<;>with_reducible rfl
          simp only[Act.put,List.setIfInBounds_toArray,List.set_cons_zero,List.set_cons_succ]
          refine grow_done (by kernel_rfl) ?_ _
          obtain⟨_,c0,c1,c2,c3,c4,c5,c6⟩:=HX4.out
          cases bb with
          | false=>
           have hbf:=HNo.out rfl
           clear HYes HNo HX4 HY4
           go_wp2
           go_ret
           exact⟨by rw[hbf.out];rfl,HB4.out⟩
          | true=>
           have hst:=HYes.out rfl
           clear HYes HNo
           go_wp2
           go_roundg r
           case measure=>omega
           case rel=>exact⟨j+1,by omega,by go_num,hst,hide ⟨HB4.out,HX4.out,HY4.out⟩⟩
       ·have e1:((np:Int)==(np':Int))=false:=beq_false_of_ne (by omega)
        have e2:((np:Int)!=(np':Int))=true:=by unfold bne;rw[e1];rfl
        have hbf:Hid (b=false):=hide (by
         cases hbb:b with
         | false=>rfl
         | true=>exact absurd (by have h:=(inj hbb).2.2.2.2.2.2;rw[←Hnp.out,←Hnp'.out,h]) h6)
        clear HTx inj HD HP HD' HP' Hih Hnp Hnp' Hb h5 h6 start
        generalize txt a=sa at *
        generalize txt v=sv at *
        generalize txt f=sf at *
        generalize txt l=sl at *
        go_enter Tryz.func17,Tryz.ntmps17
        go_upto_region 1 with fail
        rw[HW1.out,HW2.out]
        (try rw[HSz.out])
        go_wp2_with (go_at_call 32;fail)
        refine hcall.mono ?_
        rintro e w3 ⟨rfl,hb3⟩
        have HX3:=hide (HX.out.below HX.out.lt hb3)
        have HY3:=hide (HY.out.below HY.out.lt hb3)
        have HB3:=hide (HB.out.trans (hb3.mono HB.out.size))
        clear hcall hb3 HX HY HB c0 c1 c2 c3 c4 c5 c6 d0 d1 d2 d3 d4 d5 d6
        obtain⟨_,c0,c1,c2,c3,c4,c5,c6⟩:=HX3.out
        obtain⟨_,d0,d1,d2,d3,d4,d5,d6⟩:=HY3.out
        go_wp2
        go_ret
        exact⟨by rw[hbf.out];rfl,HB3.out⟩
      ·have hcall:=HTx.out false ⟨fun h=>(by cases h),fun h=>absurd h h5⟩
       have hbf:Hid (b=false):=hide (by
        cases hbb:b with
        | false=>rfl
        | true=>exact absurd (inj hbb).2.2.2.2.2.1 h5)
       clear HTx inj HD HP HD' HP' Hih Hnp Hnp' Hb h5 start
       generalize txt a=sa at *
       generalize txt v=sv at *
       generalize txt f=sf at *
       generalize txt l=sl at *
       go_enter Tryz.func17,Tryz.ntmps17
       go_upto_region 1 with fail
       rw[HW1.out,HW2.out]
       (try rw[HSz.out])
       go_wp2_with (go_at_call 32;fail)
       refine hcall.mono ?_
       rintro e w3 ⟨rfl,hb3⟩
       have HB3:=hide (HB.out.trans (hb3.mono HB.out.size))
       clear hcall hb3 HX HY HB c0 c1 c2 c3 c4 c5 c6 d0 d1 d2 d3 d4 d5 d6
       go_wp2
       go_ret
       exact⟨by rw[hbf.out];rfl,HB3.out⟩
     ·have e1:=str_ne h4
      have e2:=bne_of e1
      have hbf:Hid (b=false):=hide (by
       cases hbb:b with
       | false=>rfl
       | true=>exact absurd (by have h:=hbb;exact (inj h |>.2.2.2.2.1)) h4)
      clear h4 inj HTx
      clear HD HP HD' HP' Hih Hnp Hnp' Hb start
      generalize txt a=sa at *
      generalize txt v=sv at *
      generalize txt f=sf at *
      generalize txt l=sl at *
      generalize txt l'=sl' at *
      go_enter Tryz.func17,Tryz.ntmps17
      go_upto_region 1 with fail
      rw[HW1.out,HW2.out]
      (try rw[HSz.out])
      go_wp2
      go_ret
      exact⟨by rw[hbf.out];rfl,HB.out⟩
    ·have e1:=str_ne h3
     have e2:=bne_of e1
     have hbf:Hid (b=false):=hide (by
      cases hbb:b with
      | false=>rfl
      | true=>exact absurd (by have h:=hbb;exact (inj h |>.2.2.2.1)) h3)
     clear h3 inj HTx
     clear HD HP HD' HP' Hih Hnp Hnp' Hb start
     generalize txt a=sa at *
     generalize txt v=sv at *
     generalize txt f=sf at *
     generalize txt l=sl at *
     generalize txt f'=sf' at *
     generalize txt l'=sl' at *
     go_enter Tryz.func17,Tryz.ntmps17
     go_upto_region 1 with fail
     rw[HW1.out,HW2.out]
     (try rw[HSz.out])
     go_wp2
     go_ret
     exact⟨by rw[hbf.out];rfl,HB.out⟩
   ·have e1:=str_ne h2
    have e2:=bne_of e1
    have hbf:Hid (b=false):=hide (by
     cases hbb:b with
     | false=>rfl
     | true=>exact absurd (by have h:=hbb;exact (inj h |>.2.2.1)) h2)
    clear h2 inj HTx
    clear HD HP HD' HP' Hih Hnp Hnp' Hb start
    generalize txt a=sa at *
    generalize txt v=sv at *
    generalize txt f=sf at *
    generalize txt l=sl at *
    generalize txt v'=sv' at *
    generalize txt f'=sf' at *
    generalize txt l'=sl' at *
    go_enter Tryz.func17,Tryz.ntmps17
    go_upto_region 1 with fail
    rw[HW1.out,HW2.out]
    (try rw[HSz.out])
    go_wp2
    go_ret
    exact⟨by rw[hbf.out];rfl,HB.out⟩
  ·have e1:=str_ne h1
   have e2:=bne_of e1
   have hbf:Hid (b=false):=hide (by
    cases hbb:b with
    | false=>rfl
    | true=>exact absurd (by have h:=hbb;exact (inj h |>.2.1)) h1)
   clear h1 inj HTx
   clear HD HP HD' HP' Hih Hnp Hnp' Hb start
   generalize txt a=sa at *
   generalize txt v=sv at *
   generalize txt f=sf at *
   generalize txt l=sl at *
   generalize txt a'=sa' at *
   generalize txt v'=sv' at *
   generalize txt f'=sf' at *
   generalize txt l'=sl' at *
   go_enter Tryz.func17,Tryz.ntmps17
   go_upto_region 1 with fail
   rw[HW1.out,HW2.out]
   (try rw[HSz.out])
   go_wp2
   go_ret
   exact⟨by rw[hbf.out];rfl,HB.out⟩
 ·have e1:(k==k')=false:=beq_false_of_ne h0
  have e2:(k !=k')=true:=by unfold bne;rw[e1];rfl
  have hbf:Hid (b=false):=hide (by
   cases hbb:b with
   | false=>rfl
   | true=>exact absurd (by have h:=hbb;exact (inj h |>.1)) h0)
  clear h0 inj HTx
  clear HD HP HD' HP' Hih Hnp Hnp' Hb start
  generalize txt a=sa at *
  generalize txt v=sv at *
  generalize txt f=sf at *
  generalize txt l=sl at *
  generalize txt a'=sa' at *
  generalize txt v'=sv' at *
  generalize txt f'=sf' at *
  generalize txt l'=sl' at *
  go_enter Tryz.func17,Tryz.ntmps17
  go_upto_region 1 with fail
  rw[HW1.out,HW2.out]
  (try rw[HSz.out])
  go_wp2
  go_ret
  exact⟨by rw[hbf.out];rfl,HB.out⟩
end Go.Proofs.YtaolhefllfnmiaaGreatDoor
namespace Go.Proofs.YtaolhefllfnmiaaGreatDoor
open Go.RowKit
set_option linter.unusedVariables false
theorem FT.dig_hex (n:Nat) (h:n<16):FT.dig n=hexD n:=by
 have key:∀j:Fin 16,FT.dig j.val=hexD j.val:=by decide+kernel
 exact key ⟨n,h⟩
inductive EscFIs (c:UInt8):Prop where
 | low (h:c.toNat<32) (e:FT.esc1 c=[92,hexD (c.toNat/16),hexD (c.toNat % 16)])
 | high (h1:¬c.toNat<32) (h:126<c.toNat) (e:FT.esc1 c=[92,hexD (c.toNat/16),hexD (c.toNat % 16)])
 | star (h:c=42) (e:FT.esc1 c=[92,hexD (c.toNat/16),hexD (c.toNat % 16)])
 | left (h:c=40) (e:FT.esc1 c=[92,hexD (c.toNat/16),hexD (c.toNat % 16)])
 | right (h:c=41) (e:FT.esc1 c=[92,hexD (c.toNat/16),hexD (c.toNat % 16)])
 | stroke (h:c=92) (e:FT.esc1 c=[92,hexD (c.toNat/16),hexD (c.toNat % 16)])
 | plain (h:32≤c.toNat∧c.toNat≤126) (n1:c.toNat≠42) (n2:c.toNat≠40) (n3:c.toNat≠41) (n4:c.toNat≠92) (e:FT.esc1 c=[c])
theorem escf_is (c:UInt8):EscFIs c:=by
 have hlt:c.toNat<256:=c.toNat_lt
 have e1:FT.marked c=true→FT.esc1 c=[92,hexD (c.toNat/16),hexD (c.toNat % 16)]:=fun h=>by
  unfold FT.esc1
  rw[if_pos h,FT.dig_hex _ (by omega),FT.dig_hex _ (by omega)]
 by_cases h1:c.toNat<32
 ·exact .low h1 (e1 (by unfold FT.marked;simp;omega))
 by_cases h2:126<c.toNat
 ·exact .high h1 h2 (e1 (by unfold FT.marked;simp;omega))
 have key:∀k:UInt8,c.toNat=k.toNat→c=k:=fun k h=>u8_ext h
 by_cases h3:c.toNat=42
 ·exact .star (key 42 h3) (e1 (by unfold FT.marked;simp;omega))
 by_cases h4:c.toNat=40
 ·exact .left (key 40 h4) (e1 (by unfold FT.marked;simp;omega))
 by_cases h5:c.toNat=41
 ·exact .right (key 41 h5) (e1 (by unfold FT.marked;simp;omega))
 by_cases h6:c.toNat=92
 ·exact .stroke (key 92 h6) (e1 (by unfold FT.marked;simp;omega))
 refine .plain ⟨by omega,by omega⟩ h3 h4 h5 h6 ?_
 unfold FT.esc1
 rw[if_neg]
 unfold FT.marked
 simp
 omega
theorem esc_step {l o:List UInt8} {i:Nat} {c:UInt8} (ho:o=FT.esc (l.take i)) (hc:l[i]?=some c) (x:List UInt8) (hx:FT.esc1 c=x):o++x=FT.esc (l.take (i+1)):=by
 rw[List.take_add_one,hc,ho,←hx]
 simp[FT.esc]
theorem rescaped_any (t:List UInt8) (hs1:t.length≤1000000) (w:World):
  Calls Tryz.prog 39 #[.string (txt t)] w fun e w'=>e=.returned (.string (txt (FT.esc t)))∧Below w.heap.size w w':=by
 have hts:=txt_size t
 have hat0:=txt_toList t
 obtain⟨s,hs⟩:∃s,txt t=s:=⟨_,rfl⟩
 rw[hs] at hts hat0 ⊢
 clear hs
 have hL:=hide hts
 have hat:∀(i:Nat) (hi:i<s.size),t[i]?=some s[i]:=fun i hi=>by rw[←hat0];exact Lib.data_getElem? s i hi
 clear hat0
 replace hat:=hide hat
 have hs:s.size≤1000000:=by omega
 clear hts hs1
 go_enter Tryz.func39,Tryz.ntmps39
 go_wp2
 go_loopg [3,4] s.size (fun k s3 s4 wx=>∃(i:Nat) (o:List UInt8),i+k=s.size∧s4=.int .i64 (i:Int)∧Hid (o=FT.esc (t.take i))∧wx.ownsRow w.heap.size 5 1 s3 o.length (bys o)∧Below w.heap.size w wx)
 case atStart=>exact⟨0,[],by omega,rfl,hide rfl,nil_own _ _ _ _,Below.refl _ _⟩
 case round=>
  obtain⟨i,o,hig,rfl,ho,hor,hbr⟩:=hrel
  cases gk with
  | zero=>
   obtain rfl:i=s.size:=by omega
   have hiz:¬((s.size:Int)<(s.size:Int)):=by omega
   obtain⟨A,c,rfl,hnc,hHas⟩:=own_form hor
   have htx:=txt8 wr c hHas
   have hR:Hid (o=FT.esc t):=hide (by
    have:=ho.out
    rwa [List.take_of_length_le (by rw[←hL.out];exact Nat.le_refl _)] at this)
   clear hHas hor ho
   go_wp2
   go_ret
   exact⟨by rw[←hR.out];rfl,hbr⟩
  | succ k=>
   have hi:i<s.size:=by omega
   have hiz:(i:Int)<(s.size:Int):=by omega
   obtain⟨c,hx⟩:∃c:UInt8,s[i]'hi=c:=⟨_,rfl⟩
   have hxl:t[i]?=some c:=by rw[hat.out i hi,hx]
   have hlen:Hid (o.length≤3*s.size):=hide (by
    rw[ho.out]
    have h1:=FT.esc_len (t.take i)
    rw[List.length_take] at h1
    omega)
   have hnx:=fun x h=>esc_step ho.out hxl x h
   replace hnx:=hide hnx
   have hE:=escf_is c
   clear hxl ho hat hL
   have hlt:=c.toNat_lt
   cases hE with
   | low h e=>
    have hnext:=hide (hnx.out _ e)
    have hq:=hex_at (c.toNat/16) (by omega)
    have hr:=hex_at (c.toNat % 16) (by omega)
    have sh:=shr_at c
    have an:=and_at c
    have c1:((c.toNat:Int)<32):=by omega
    generalize hexD (c.toNat/16)=d1 at *
    generalize hexD (c.toNat % 16)=d2 at *
    generalize c.toNat/16=q at *
    generalize c.toNat % 16=r at *
    have HB:=hbr.size
    clear hnx e hlt h
    go_wp2_with fail
    refine grow_begin_at w.heap.size (by kernel_rfl) ?_
    have hbr0:Below w.heap.size w wr.drew:=hbr.trans ((Below.refl _ _).drew)
    have hor0:=own_below hor (Below.refl wr.heap.size wr).drew
    have hs0:=hbr0.size
    clear hor hbr HB
    generalize wr.drew=a0 at *
    refine grow_take 0 (some 37) (v:=?va0) rfl rfl (by kernel_rfl) (by kernel_rfl) (by kernel_rfl) (fun _ _ _ h=>h) (by rfl) (fun W hW=>?ya0) ?_
    case ya0=>
     go_simp<;>with_reducible rfl
    simp only[Act.put,List.setIfInBounds_toArray,List.set_cons_zero,List.set_cons_succ]
    refine grow_take 1 (some 38) (v:=?va1) rfl rfl (by kernel_rfl) (by kernel_rfl) (by kernel_rfl) (fun _ _ _ h=>h) (by rfl) (fun W hW=>?ya1) ?_
    case ya1=>
     go_simp<;>with_reducible rfl
    simp only[Act.put,List.setIfInBounds_toArray,List.set_cons_zero,List.set_cons_succ]
    refine grow_take 2 (some 39) (v:=?va2) rfl rfl (by kernel_rfl) (by kernel_rfl) (by kernel_rfl) (fun _ _ _ h=>h) (by rfl) (fun W hW=>?ya2) ?_
    case ya2=>
     go_simp<;>with_reducible rfl
    simp only[Act.put,List.setIfInBounds_toArray,List.set_cons_zero,List.set_cons_succ]
    refine grow_take 3 (some 40) (v:=?va3) rfl rfl (by kernel_rfl) (by kernel_rfl) (by kernel_rfl) (fun _ _ _ h=>h) (by rfl) (fun W hW=>?ya3) ?_
    case ya3=>
     have h1:=hq W
     go_simp<;>with_reducible rfl
    simp only[Act.put,List.setIfInBounds_toArray,List.set_cons_zero,List.set_cons_succ]
    refine grow_take 4 (some 41) (v:=?va4) rfl rfl (by kernel_rfl) (by kernel_rfl) (by kernel_rfl) (fun _ _ _ h=>h) (by rfl) (fun W hW=>?ya4) ?_
    case ya4=>
     go_simp<;>with_reducible rfl
    simp only[Act.put,List.setIfInBounds_toArray,List.set_cons_zero,List.set_cons_succ]
    refine grow_take 5 (some 42) (v:=?va5) rfl rfl (by kernel_rfl) (by kernel_rfl) (by kernel_rfl) (fun _ _ _ h=>h) (by rfl) (fun W hW=>?ya5) ?_
    case ya5=>
     go_simp<;>with_reducible rfl
    simp only[Act.put,List.setIfInBounds_toArray,List.set_cons_zero,List.set_cons_succ]
    refine grow_take 6 (some 43) (v:=?va6) rfl rfl (by kernel_rfl) (by kernel_rfl) (by kernel_rfl) (fun _ _ _ h=>h) (by rfl) (fun W hW=>?ya6) ?_
    case ya6=>
     have h1:=hr W
     go_simp<;>with_reducible rfl
    simp only[Act.put,List.setIfInBounds_toArray,List.set_cons_zero,List.set_cons_succ]
    refine grow_only 7 rfl (by kernel_rfl) (fun K hK=>?_)
    go_simp
    have hb1:Below w.heap.size a0 (a0.alloc (.cells #[.int .u8 92,.int .u8 (d1.toNat:Int),.int .u8 (d2.toNat:Int)] 5)):=(Below.refl _ _).alloc hs0 _
    have hone:(a0.alloc (.cells #[.int .u8 92,.int .u8 (d1.toNat:Int),.int .u8 (d2.toNat:Int)] 5)).ownsRow a0.heap.size 5 1 (.slice (some ⟨a0.heap.size,0,none⟩) 3 3) 3 (bys [92,d1,d2]):=lit3 a0 92 d1 d2
    have hH:=Has.own hone
    have hor1:=hor0.alloc (.cells #[.int .u8 92,.int .u8 (d1.toNat:Int),.int .u8 (d2.toNat:Int)] 5)
    have hba:=hbr0.trans hb1
    have hs1:=hba.size
    clear hone hor0 hbr0
    refine hK.out _ _ hb1 ?_
    clear hK K hb1
    try simp only[Act.put,List.setIfInBounds_toArray,List.set_cons_zero,List.set_cons_succ]
    refine grow_only 8 rfl (by kernel_rfl) (fun K hK=>?_)
    refine step8 _ (some 45) rfl rfl (.tmp 37) (.tmp 44) rfl w.heap.size _ _ o rfl hor1 _ _ 3 3 [92,d1,d2] rfl hH (by have:=hlen.out;omega) hs1 ?_
    intro v' w3 hown3 hb3 _ _
    have hb4:=hba.trans hb3
    refine hK.out _ _ hb3 ?_
    clear hK K hor1 hba hs1 hH hb3
    try simp only[Act.put,List.setIfInBounds_toArray,List.set_cons_zero,List.set_cons_succ]
    refine grow_take 9 (some 3) (v:=?va9) rfl rfl (by kernel_rfl) (by kernel_rfl) (by kernel_rfl) (fun _ _ _ h=>h) (by rfl) (fun W hW=>?ya9) ?_
    case ya9=>
     go_simp<;>with_reducible rfl
    simp only[Act.put,List.setIfInBounds_toArray,List.set_cons_zero,List.set_cons_succ]
    refine grow_done (by kernel_rfl) ?_ _
    go_wp2
    go_roundg k
    case measure=>omega
    case rel=>exact⟨i+1,o++[92,d1,d2],by omega,by go_num,hnext,by simpa using hown3,hb4⟩
   | high h1 h e=>
    have hnext:=hide (hnx.out _ e)
    have hq:=hex_at (c.toNat/16) (by omega)
    have hr:=hex_at (c.toNat % 16) (by omega)
    have sh:=shr_at c
    have an:=and_at c
    have c1:¬((c.toNat:Int)<32):=by omega
    have c2:((126:Int)<(c.toNat:Int)):=by omega
    generalize hexD (c.toNat/16)=d1 at *
    generalize hexD (c.toNat % 16)=d2 at *
    generalize c.toNat/16=q at *
    generalize c.toNat % 16=r at *
    have HB:=hbr.size
    clear hnx e hlt h h1
    go_wp2_with fail
    refine grow_begin_at w.heap.size (by kernel_rfl) ?_
    have hbr0:Below w.heap.size w wr.drew:=hbr.trans ((Below.refl _ _).drew)
    have hor0:=own_below hor (Below.refl wr.heap.size wr).drew
    have hs0:=hbr0.size
    clear hor hbr HB
    generalize wr.drew=a0 at *
    refine grow_take 0 (some 37) (v:=?vb0) rfl rfl (by kernel_rfl) (by kernel_rfl) (by kernel_rfl) (fun _ _ _ h=>h) (by rfl) (fun W hW=>?yb0) ?_
    case yb0=>
     go_simp<;>with_reducible rfl
    simp only[Act.put,List.setIfInBounds_toArray,List.set_cons_zero,List.set_cons_succ]
    refine grow_take 1 (some 38) (v:=?vb1) rfl rfl (by kernel_rfl) (by kernel_rfl) (by kernel_rfl) (fun _ _ _ h=>h) (by rfl) (fun W hW=>?yb1) ?_
    case yb1=>
     go_simp<;>with_reducible rfl
    simp only[Act.put,List.setIfInBounds_toArray,List.set_cons_zero,List.set_cons_succ]
    refine grow_take 2 (some 39) (v:=?vb2) rfl rfl (by kernel_rfl) (by kernel_rfl) (by kernel_rfl) (fun _ _ _ h=>h) (by rfl) (fun W hW=>?yb2) ?_
    case yb2=>
     go_simp<;>with_reducible rfl
    simp only[Act.put,List.setIfInBounds_toArray,List.set_cons_zero,List.set_cons_succ]
    refine grow_take 3 (some 40) (v:=?vb3) rfl rfl (by kernel_rfl) (by kernel_rfl) (by kernel_rfl) (fun _ _ _ h=>h) (by rfl) (fun W hW=>?yb3) ?_
    case yb3=>
     have h1:=hq W
     go_simp<;>with_reducible rfl
    simp only[Act.put,List.setIfInBounds_toArray,List.set_cons_zero,List.set_cons_succ]
    refine grow_take 4 (some 41) (v:=?vb4) rfl rfl (by kernel_rfl) (by kernel_rfl) (by kernel_rfl) (fun _ _ _ h=>h) (by rfl) (fun W hW=>?yb4) ?_
    case yb4=>
     go_simp<;>with_reducible rfl
    simp only[Act.put,List.setIfInBounds_toArray,List.set_cons_zero,List.set_cons_succ]
    refine grow_take 5 (some 42) (v:=?vb5) rfl rfl (by kernel_rfl) (by kernel_rfl) (by kernel_rfl) (fun _ _ _ h=>h) (by rfl) (fun W hW=>?yb5) ?_
    case yb5=>
     go_simp<;>with_reducible rfl
    simp only[Act.put,List.setIfInBounds_toArray,List.set_cons_zero,List.set_cons_succ]
    refine grow_take 6 (some 43) (v:=?vb6) rfl rfl (by kernel_rfl) (by kernel_rfl) (by kernel_rfl) (fun _ _ _ h=>h) (by rfl) (fun W hW=>?yb6) ?_
    case yb6=>
     have h1:=hr W
     go_simp<;>with_reducible rfl
    simp only[Act.put,List.setIfInBounds_toArray,List.set_cons_zero,List.set_cons_succ]
    refine grow_only 7 rfl (by kernel_rfl) (fun K hK=>?_)
    go_simp
    have hb1:Below w.heap.size a0 (a0.alloc (.cells #[.int .u8 92,.int .u8 (d1.toNat:Int),.int .u8 (d2.toNat:Int)] 5)):=(Below.refl _ _).alloc hs0 _
    have hone:(a0.alloc (.cells #[.int .u8 92,.int .u8 (d1.toNat:Int),.int .u8 (d2.toNat:Int)] 5)).ownsRow a0.heap.size 5 1 (.slice (some ⟨a0.heap.size,0,none⟩) 3 3) 3 (bys [92,d1,d2]):=lit3 a0 92 d1 d2
    have hH:=Has.own hone
    have hor1:=hor0.alloc (.cells #[.int .u8 92,.int .u8 (d1.toNat:Int),.int .u8 (d2.toNat:Int)] 5)
    have hba:=hbr0.trans hb1
    have hs1:=hba.size
    clear hone hor0 hbr0
    refine hK.out _ _ hb1 ?_
    clear hK K hb1
    try simp only[Act.put,List.setIfInBounds_toArray,List.set_cons_zero,List.set_cons_succ]
    refine grow_only 8 rfl (by kernel_rfl) (fun K hK=>?_)
    refine step8 _ (some 45) rfl rfl (.tmp 37) (.tmp 44) rfl w.heap.size _ _ o rfl hor1 _ _ 3 3 [92,d1,d2] rfl hH (by have:=hlen.out;omega) hs1 ?_
    intro v' w3 hown3 hb3 _ _
    have hb4:=hba.trans hb3
    refine hK.out _ _ hb3 ?_
    clear hK K hor1 hba hs1 hH hb3
    try simp only[Act.put,List.setIfInBounds_toArray,List.set_cons_zero,List.set_cons_succ]
    refine grow_take 9 (some 3) (v:=?vb9) rfl rfl (by kernel_rfl) (by kernel_rfl) (by kernel_rfl) (fun _ _ _ h=>h) (by rfl) (fun W hW=>?yb9) ?_
    case yb9=>
     go_simp<;>with_reducible rfl
    simp only[Act.put,List.setIfInBounds_toArray,List.set_cons_zero,List.set_cons_succ]
    refine grow_done (by kernel_rfl) ?_ _
    go_wp2
    go_roundg k
    case measure=>omega
    case rel=>exact⟨i+1,o++[92,d1,d2],by omega,by go_num,hnext,by simpa using hown3,hb4⟩
   | star h e=>
    have hn:c.toNat=42:=by rw[h];rfl
    have hnext:=hide (hnx.out _ e)
    have hq:=hex_at (c.toNat/16) (by omega)
    have hr:=hex_at (c.toNat % 16) (by omega)
    have sh:=shr_at c
    have an:=and_at c
    have c1:¬((c.toNat:Int)<32):=by omega
    have c2:¬((126:Int)<(c.toNat:Int)):=by omega
    have c3:((c.toNat:Int)==42)=true:=by rw[hn];rfl
    have c4:((c.toNat:Int)==40)=false:=beq_false_of_ne (by omega)
    have c5:((c.toNat:Int)==41)=false:=beq_false_of_ne (by omega)
    have c6:((c.toNat:Int)==92)=false:=beq_false_of_ne (by omega)
    generalize hexD (c.toNat/16)=d1 at *
    generalize hexD (c.toNat % 16)=d2 at *
    generalize c.toNat/16=q at *
    generalize c.toNat % 16=r at *
    have HB:=hbr.size
    clear hnx e hlt h hn
    go_wp2_with fail
    refine grow_begin_at w.heap.size (by kernel_rfl) ?_
    have hbr0:Below w.heap.size w wr.drew:=hbr.trans ((Below.refl _ _).drew)
    have hor0:=own_below hor (Below.refl wr.heap.size wr).drew
    have hs0:=hbr0.size
    clear hor hbr HB
    generalize wr.drew=a0 at *
    refine grow_take 0 (some 37) (v:=?vc0) rfl rfl (by kernel_rfl) (by kernel_rfl) (by kernel_rfl) (fun _ _ _ h=>h) (by rfl) (fun W hW=>?yc0) ?_
    case yc0=>
     go_simp<;>with_reducible rfl
    simp only[Act.put,List.setIfInBounds_toArray,List.set_cons_zero,List.set_cons_succ]
    refine grow_take 1 (some 38) (v:=?vc1) rfl rfl (by kernel_rfl) (by kernel_rfl) (by kernel_rfl) (fun _ _ _ h=>h) (by rfl) (fun W hW=>?yc1) ?_
    case yc1=>
     go_simp<;>with_reducible rfl
    simp only[Act.put,List.setIfInBounds_toArray,List.set_cons_zero,List.set_cons_succ]
    refine grow_take 2 (some 39) (v:=?vc2) rfl rfl (by kernel_rfl) (by kernel_rfl) (by kernel_rfl) (fun _ _ _ h=>h) (by rfl) (fun W hW=>?yc2) ?_
    case yc2=>
     go_simp<;>with_reducible rfl
    simp only[Act.put,List.setIfInBounds_toArray,List.set_cons_zero,List.set_cons_succ]
    refine grow_take 3 (some 40) (v:=?vc3) rfl rfl (by kernel_rfl) (by kernel_rfl) (by kernel_rfl) (fun _ _ _ h=>h) (by rfl) (fun W hW=>?yc3) ?_
    case yc3=>
     have h1:=hq W
     go_simp<;>with_reducible rfl
    simp only[Act.put,List.setIfInBounds_toArray,List.set_cons_zero,List.set_cons_succ]
    refine grow_take 4 (some 41) (v:=?vc4) rfl rfl (by kernel_rfl) (by kernel_rfl) (by kernel_rfl) (fun _ _ _ h=>h) (by rfl) (fun W hW=>?yc4) ?_
    case yc4=>
     go_simp<;>with_reducible rfl
    simp only[Act.put,List.setIfInBounds_toArray,List.set_cons_zero,List.set_cons_succ]
    refine grow_take 5 (some 42) (v:=?vc5) rfl rfl (by kernel_rfl) (by kernel_rfl) (by kernel_rfl) (fun _ _ _ h=>h) (by rfl) (fun W hW=>?yc5) ?_
    case yc5=>
     go_simp<;>with_reducible rfl
    simp only[Act.put,List.setIfInBounds_toArray,List.set_cons_zero,List.set_cons_succ]
    refine grow_take 6 (some 43) (v:=?vc6) rfl rfl (by kernel_rfl) (by kernel_rfl) (by kernel_rfl) (fun _ _ _ h=>h) (by rfl) (fun W hW=>?yc6) ?_
    case yc6=>
     have h1:=hr W
     go_simp<;>with_reducible rfl
    simp only[Act.put,List.setIfInBounds_toArray,List.set_cons_zero,List.set_cons_succ]
    refine grow_only 7 rfl (by kernel_rfl) (fun K hK=>?_)
    go_simp
    have hb1:Below w.heap.size a0 (a0.alloc (.cells #[.int .u8 92,.int .u8 (d1.toNat:Int),.int .u8 (d2.toNat:Int)] 5)):=(Below.refl _ _).alloc hs0 _
    have hone:(a0.alloc (.cells #[.int .u8 92,.int .u8 (d1.toNat:Int),.int .u8 (d2.toNat:Int)] 5)).ownsRow a0.heap.size 5 1 (.slice (some ⟨a0.heap.size,0,none⟩) 3 3) 3 (bys [92,d1,d2]):=lit3 a0 92 d1 d2
    have hH:=Has.own hone
    have hor1:=hor0.alloc (.cells #[.int .u8 92,.int .u8 (d1.toNat:Int),.int .u8 (d2.toNat:Int)] 5)
    have hba:=hbr0.trans hb1
    have hs1:=hba.size
    clear hone hor0 hbr0
    refine hK.out _ _ hb1 ?_
    clear hK K hb1
    try simp only[Act.put,List.setIfInBounds_toArray,List.set_cons_zero,List.set_cons_succ]
    refine grow_only 8 rfl (by kernel_rfl) (fun K hK=>?_)
    refine step8 _ (some 45) rfl rfl (.tmp 37) (.tmp 44) rfl w.heap.size _ _ o rfl hor1 _ _ 3 3 [92,d1,d2] rfl hH (by have:=hlen.out;omega) hs1 ?_
    intro v' w3 hown3 hb3 _ _
    have hb4:=hba.trans hb3
    refine hK.out _ _ hb3 ?_
    clear hK K hor1 hba hs1 hH hb3
    try simp only[Act.put,List.setIfInBounds_toArray,List.set_cons_zero,List.set_cons_succ]
    refine grow_take 9 (some 3) (v:=?vc9) rfl rfl (by kernel_rfl) (by kernel_rfl) (by kernel_rfl) (fun _ _ _ h=>h) (by rfl) (fun W hW=>?yc9) ?_
    case yc9=>
     go_simp<;>with_reducible rfl
    simp only[Act.put,List.setIfInBounds_toArray,List.set_cons_zero,List.set_cons_succ]
    refine grow_done (by kernel_rfl) ?_ _
    go_wp2
    go_roundg k
    case measure=>omega
    case rel=>exact⟨i+1,o++[92,d1,d2],by omega,by go_num,hnext,by simpa using hown3,hb4⟩
   | left h e=>
    have hn:c.toNat=40:=by rw[h];rfl
    have hnext:=hide (hnx.out _ e)
    have hq:=hex_at (c.toNat/16) (by omega)
    have hr:=hex_at (c.toNat % 16) (by omega)
    have sh:=shr_at c
    have an:=and_at c
    have c1:¬((c.toNat:Int)<32):=by omega
    have c2:¬((126:Int)<(c.toNat:Int)):=by omega
    have c3:((c.toNat:Int)==42)=false:=beq_false_of_ne (by omega)
    have c4:((c.toNat:Int)==40)=true:=by rw[hn];rfl
    have c5:((c.toNat:Int)==41)=false:=beq_false_of_ne (by omega)
    have c6:((c.toNat:Int)==92)=false:=beq_false_of_ne (by omega)
    generalize hexD (c.toNat/16)=d1 at *
    generalize hexD (c.toNat % 16)=d2 at *
    generalize c.toNat/16=q at *
    generalize c.toNat % 16=r at *
    have HB:=hbr.size
    clear hnx e hlt h hn
    go_wp2_with fail
    refine grow_begin_at w.heap.size (by kernel_rfl) ?_
    have hbr0:Below w.heap.size w wr.drew:=hbr.trans ((Below.refl _ _).drew)
    have hor0:=own_below hor (Below.refl wr.heap.size wr).drew
    have hs0:=hbr0.size
    clear hor hbr HB
    generalize wr.drew=a0 at *
    refine grow_take 0 (some 37) (v:=?vd0) rfl rfl (by kernel_rfl) (by kernel_rfl) (by kernel_rfl) (fun _ _ _ h=>h) (by rfl) (fun W hW=>?yd0) ?_
    case yd0=>
     go_simp<;>with_reducible rfl
    simp only[Act.put,List.setIfInBounds_toArray,List.set_cons_zero,List.set_cons_succ]
    refine grow_take 1 (some 38) (v:=?vd1) rfl rfl (by kernel_rfl) (by kernel_rfl) (by kernel_rfl) (fun _ _ _ h=>h) (by rfl) (fun W hW=>?yd1) ?_
    case yd1=>
     go_simp<;>with_reducible rfl
    simp only[Act.put,List.setIfInBounds_toArray,List.set_cons_zero,List.set_cons_succ]
    refine grow_take 2 (some 39) (v:=?vd2) rfl rfl (by kernel_rfl) (by kernel_rfl) (by kernel_rfl) (fun _ _ _ h=>h) (by rfl) (fun W hW=>?yd2) ?_
    case yd2=>
     go_simp<;>with_reducible rfl
    simp only[Act.put,List.setIfInBounds_toArray,List.set_cons_zero,List.set_cons_succ]
    refine grow_take 3 (some 40) (v:=?vd3) rfl rfl (by kernel_rfl) (by kernel_rfl) (by kernel_rfl) (fun _ _ _ h=>h) (by rfl) (fun W hW=>?yd3) ?_
    case yd3=>
     have h1:=hq W
     go_simp<;>with_reducible rfl
    simp only[Act.put,List.setIfInBounds_toArray,List.set_cons_zero,List.set_cons_succ]
    refine grow_take 4 (some 41) (v:=?vd4) rfl rfl (by kernel_rfl) (by kernel_rfl) (by kernel_rfl) (fun _ _ _ h=>h) (by rfl) (fun W hW=>?yd4) ?_
    case yd4=>
     go_simp<;>with_reducible rfl
    simp only[Act.put,List.setIfInBounds_toArray,List.set_cons_zero,List.set_cons_succ]
    refine grow_take 5 (some 42) (v:=?vd5) rfl rfl (by kernel_rfl) (by kernel_rfl) (by kernel_rfl) (fun _ _ _ h=>h) (by rfl) (fun W hW=>?yd5) ?_
    case yd5=>
     go_simp<;>with_reducible rfl
    simp only[Act.put,List.setIfInBounds_toArray,List.set_cons_zero,List.set_cons_succ]
    refine grow_take 6 (some 43) (v:=?vd6) rfl rfl (by kernel_rfl) (by kernel_rfl) (by kernel_rfl) (fun _ _ _ h=>h) (by rfl) (fun W hW=>?yd6) ?_
    case yd6=>
     have h1:=hr W
     go_simp<;>with_reducible rfl
    simp only[Act.put,List.setIfInBounds_toArray,List.set_cons_zero,List.set_cons_succ]
    refine grow_only 7 rfl (by kernel_rfl) (fun K hK=>?_)
    go_simp
    have hb1:Below w.heap.size a0 (a0.alloc (.cells #[.int .u8 92,.int .u8 (d1.toNat:Int),.int .u8 (d2.toNat:Int)] 5)):=(Below.refl _ _).alloc hs0 _
    have hone:(a0.alloc (.cells #[.int .u8 92,.int .u8 (d1.toNat:Int),.int .u8 (d2.toNat:Int)] 5)).ownsRow a0.heap.size 5 1 (.slice (some ⟨a0.heap.size,0,none⟩) 3 3) 3 (bys [92,d1,d2]):=lit3 a0 92 d1 d2
    have hH:=Has.own hone
    have hor1:=hor0.alloc (.cells #[.int .u8 92,.int .u8 (d1.toNat:Int),.int .u8 (d2.toNat:Int)] 5)
    have hba:=hbr0.trans hb1
    have hs1:=hba.size
    clear hone hor0 hbr0
    refine hK.out _ _ hb1 ?_
    clear hK K hb1
    try simp only[Act.put,List.setIfInBounds_toArray,List.set_cons_zero,List.set_cons_succ]
    refine grow_only 8 rfl (by kernel_rfl) (fun K hK=>?_)
    refine step8 _ (some 45) rfl rfl (.tmp 37) (.tmp 44) rfl w.heap.size _ _ o rfl hor1 _ _ 3 3 [92,d1,d2] rfl hH (by have:=hlen.out;omega) hs1 ?_
    intro v' w3 hown3 hb3 _ _
    have hb4:=hba.trans hb3
    refine hK.out _ _ hb3 ?_
    clear hK K hor1 hba hs1 hH hb3
    try simp only[Act.put,List.setIfInBounds_toArray,List.set_cons_zero,List.set_cons_succ]
    refine grow_take 9 (some 3) (v:=?vd9) rfl rfl (by kernel_rfl) (by kernel_rfl) (by kernel_rfl) (fun _ _ _ h=>h) (by rfl) (fun W hW=>?yd9) ?_
    case yd9=>
     go_simp<;>with_reducible rfl
    simp only[Act.put,List.setIfInBounds_toArray,List.set_cons_zero,List.set_cons_succ]
    refine grow_done (by kernel_rfl) ?_ _
    go_wp2
    go_roundg k
    case measure=>omega
    case rel=>exact⟨i+1,o++[92,d1,d2],by omega,by go_num,hnext,by simpa using hown3,hb4⟩
   | right h e=>
    have hn:c.toNat=41:=by rw[h];rfl
    have hnext:=hide (hnx.out _ e)
    have hq:=hex_at (c.toNat/16) (by omega)
    have hr:=hex_at (c.toNat % 16) (by omega)
    have sh:=shr_at c
    have an:=and_at c
    have c1:¬((c.toNat:Int)<32):=by omega
    have c2:¬((126:Int)<(c.toNat:Int)):=by omega
    have c3:((c.toNat:Int)==42)=false:=beq_false_of_ne (by omega)
    have c4:((c.toNat:Int)==40)=false:=beq_false_of_ne (by omega)
    have c5:((c.toNat:Int)==41)=true:=by rw[hn];rfl
    have c6:((c.toNat:Int)==92)=false:=beq_false_of_ne (by omega)
    generalize hexD (c.toNat/16)=d1 at *
    generalize hexD (c.toNat % 16)=d2 at *
    generalize c.toNat/16=q at *
    generalize c.toNat % 16=r at *
    have HB:=hbr.size
    clear hnx e hlt h hn
    go_wp2_with fail
    refine grow_begin_at w.heap.size (by kernel_rfl) ?_
    have hbr0:Below w.heap.size w wr.drew:=hbr.trans ((Below.refl _ _).drew)
    have hor0:=own_below hor (Below.refl wr.heap.size wr).drew
    have hs0:=hbr0.size
    clear hor hbr HB
    generalize wr.drew=a0 at *
    refine grow_take 0 (some 37) (v:=?ve0) rfl rfl (by kernel_rfl) (by kernel_rfl) (by kernel_rfl) (fun _ _ _ h=>h) (by rfl) (fun W hW=>?ye0) ?_
    case ye0=>
     go_simp<;>with_reducible rfl
    simp only[Act.put,List.setIfInBounds_toArray,List.set_cons_zero,List.set_cons_succ]
    refine grow_take 1 (some 38) (v:=?ve1) rfl rfl (by kernel_rfl) (by kernel_rfl) (by kernel_rfl) (fun _ _ _ h=>h) (by rfl) (fun W hW=>?ye1) ?_
    case ye1=>
     go_simp<;>with_reducible rfl
    simp only[Act.put,List.setIfInBounds_toArray,List.set_cons_zero,List.set_cons_succ]
    refine grow_take 2 (some 39) (v:=?ve2) rfl rfl (by kernel_rfl) (by kernel_rfl) (by kernel_rfl) (fun _ _ _ h=>h) (by rfl) (fun W hW=>?ye2) ?_
    case ye2=>
     go_simp<;>with_reducible rfl
    simp only[Act.put,List.setIfInBounds_toArray,List.set_cons_zero,List.set_cons_succ]
    refine grow_take 3 (some 40) (v:=?ve3) rfl rfl (by kernel_rfl) (by kernel_rfl) (by kernel_rfl) (fun _ _ _ h=>h) (by rfl) (fun W hW=>?ye3) ?_
    case ye3=>
     have h1:=hq W
     go_simp<;>with_reducible rfl
    simp only[Act.put,List.setIfInBounds_toArray,List.set_cons_zero,List.set_cons_succ]
    refine grow_take 4 (some 41) (v:=?ve4) rfl rfl (by kernel_rfl) (by kernel_rfl) (by kernel_rfl) (fun _ _ _ h=>h) (by rfl) (fun W hW=>?ye4) ?_
    case ye4=>
     go_simp<;>with_reducible rfl
    simp only[Act.put,List.setIfInBounds_toArray,List.set_cons_zero,List.set_cons_succ]
    refine grow_take 5 (some 42) (v:=?ve5) rfl rfl (by kernel_rfl) (by kernel_rfl) (by kernel_rfl) (fun _ _ _ h=>h) (by rfl) (fun W hW=>?ye5) ?_
    case ye5=>
     go_simp<;>with_reducible rfl
    simp only[Act.put,List.setIfInBounds_toArray,List.set_cons_zero,List.set_cons_succ]
    refine grow_take 6 (some 43) (v:=?ve6) rfl rfl (by kernel_rfl) (by kernel_rfl) (by kernel_rfl) (fun _ _ _ h=>h) (by rfl) (fun W hW=>?ye6) ?_
    case ye6=>
     have h1:=hr W
     go_simp<;>with_reducible rfl
    simp only[Act.put,List.setIfInBounds_toArray,List.set_cons_zero,List.set_cons_succ]
    refine grow_only 7 rfl (by kernel_rfl) (fun K hK=>?_)
    go_simp
    have hb1:Below w.heap.size a0 (a0.alloc (.cells #[.int .u8 92,.int .u8 (d1.toNat:Int),.int .u8 (d2.toNat:Int)] 5)):=(Below.refl _ _).alloc hs0 _
    have hone:(a0.alloc (.cells #[.int .u8 92,.int .u8 (d1.toNat:Int),.int .u8 (d2.toNat:Int)] 5)).ownsRow a0.heap.size 5 1 (.slice (some ⟨a0.heap.size,0,none⟩) 3 3) 3 (bys [92,d1,d2]):=lit3 a0 92 d1 d2
    have hH:=Has.own hone
    have hor1:=hor0.alloc (.cells #[.int .u8 92,.int .u8 (d1.toNat:Int),.int .u8 (d2.toNat:Int)] 5)
    have hba:=hbr0.trans hb1
    have hs1:=hba.size
    clear hone hor0 hbr0
    refine hK.out _ _ hb1 ?_
    clear hK K hb1
    try simp only[Act.put,List.setIfInBounds_toArray,List.set_cons_zero,List.set_cons_succ]
    refine grow_only 8 rfl (by kernel_rfl) (fun K hK=>?_)
    refine step8 _ (some 45) rfl rfl (.tmp 37) (.tmp 44) rfl w.heap.size _ _ o rfl hor1 _ _ 3 3 [92,d1,d2] rfl hH (by have:=hlen.out;omega) hs1 ?_
    intro v' w3 hown3 hb3 _ _
    have hb4:=hba.trans hb3
    refine hK.out _ _ hb3 ?_
    clear hK K hor1 hba hs1 hH hb3
    try simp only[Act.put,List.setIfInBounds_toArray,List.set_cons_zero,List.set_cons_succ]
    refine grow_take 9 (some 3) (v:=?ve9) rfl rfl (by kernel_rfl) (by kernel_rfl) (by kernel_rfl) (fun _ _ _ h=>h) (by rfl) (fun W hW=>?ye9) ?_
    case ye9=>
     go_simp<;>with_reducible rfl
    simp only[Act.put,List.setIfInBounds_toArray,List.set_cons_zero,List.set_cons_succ]
    refine grow_done (by kernel_rfl) ?_ _
    go_wp2
    go_roundg k
    case measure=>omega
    case rel=>exact⟨i+1,o++[92,d1,d2],by omega,by go_num,hnext,by simpa using hown3,hb4⟩
   | stroke h e=>
    have hn:c.toNat=92:=by rw[h];rfl
    have hnext:=hide (hnx.out _ e)
    have hq:=hex_at (c.toNat/16) (by omega)
    have hr:=hex_at (c.toNat % 16) (by omega)
    have sh:=shr_at c
    have an:=and_at c
    have c1:¬((c.toNat:Int)<32):=by omega
    have c2:¬((126:Int)<(c.toNat:Int)):=by omega
    have c3:((c.toNat:Int)==42)=false:=beq_false_of_ne (by omega)
    have c4:((c.toNat:Int)==40)=false:=beq_false_of_ne (by omega)
    have c5:((c.toNat:Int)==41)=false:=beq_false_of_ne (by omega)
    have c6:((c.toNat:Int)==92)=true:=by rw[hn];rfl
    generalize hexD (c.toNat/16)=d1 at *
    generalize hexD (c.toNat % 16)=d2 at *
    generalize c.toNat/16=q at *
    generalize c.toNat % 16=r at *
    have HB:=hbr.size
    clear hnx e hlt h hn
    go_wp2_with fail
    refine grow_begin_at w.heap.size (by kernel_rfl) ?_
    have hbr0:Below w.heap.size w wr.drew:=hbr.trans ((Below.refl _ _).drew)
    have hor0:=own_below hor (Below.refl wr.heap.size wr).drew
    have hs0:=hbr0.size
    clear hor hbr HB
    generalize wr.drew=a0 at *
    refine grow_take 0 (some 37) (v:=?vf0) rfl rfl (by kernel_rfl) (by kernel_rfl) (by kernel_rfl) (fun _ _ _ h=>h) (by rfl) (fun W hW=>?yf0) ?_
    case yf0=>
     go_simp<;>with_reducible rfl
    simp only[Act.put,List.setIfInBounds_toArray,List.set_cons_zero,List.set_cons_succ]
    refine grow_take 1 (some 38) (v:=?vf1) rfl rfl (by kernel_rfl) (by kernel_rfl) (by kernel_rfl) (fun _ _ _ h=>h) (by rfl) (fun W hW=>?yf1) ?_
    case yf1=>
     go_simp<;>with_reducible rfl
    simp only[Act.put,List.setIfInBounds_toArray,List.set_cons_zero,List.set_cons_succ]
    refine grow_take 2 (some 39) (v:=?vf2) rfl rfl (by kernel_rfl) (by kernel_rfl) (by kernel_rfl) (fun _ _ _ h=>h) (by rfl) (fun W hW=>?yf2) ?_
    case yf2=>
     go_simp<;>with_reducible rfl
    simp only[Act.put,List.setIfInBounds_toArray,List.set_cons_zero,List.set_cons_succ]
    refine grow_take 3 (some 40) (v:=?vf3) rfl rfl (by kernel_rfl) (by kernel_rfl) (by kernel_rfl) (fun _ _ _ h=>h) (by rfl) (fun W hW=>?yf3) ?_
    case yf3=>
     have h1:=hq W
     go_simp<;>with_reducible rfl
    simp only[Act.put,List.setIfInBounds_toArray,List.set_cons_zero,List.set_cons_succ]
    refine grow_take 4 (some 41) (v:=?vf4) rfl rfl (by kernel_rfl) (by kernel_rfl) (by kernel_rfl) (fun _ _ _ h=>h) (by rfl) (fun W hW=>?yf4) ?_
    case yf4=>
     go_simp<;>with_reducible rfl
    simp only[Act.put,List.setIfInBounds_toArray,List.set_cons_zero,List.set_cons_succ]
    refine grow_take 5 (some 42) (v:=?vf5) rfl rfl (by kernel_rfl) (by kernel_rfl) (by kernel_rfl) (fun _ _ _ h=>h) (by rfl) (fun W hW=>?yf5) ?_
    case yf5=>
     go_simp<;>with_reducible rfl
    simp only[Act.put,List.setIfInBounds_toArray,List.set_cons_zero,List.set_cons_succ]
    refine grow_take 6 (some 43) (v:=?vf6) rfl rfl (by kernel_rfl) (by kernel_rfl) (by kernel_rfl) (fun _ _ _ h=>h) (by rfl) (fun W hW=>?yf6) ?_
    case yf6=>
     have h1:=hr W
     go_simp<;>with_reducible rfl
    simp only[Act.put,List.setIfInBounds_toArray,List.set_cons_zero,List.set_cons_succ]
    refine grow_only 7 rfl (by kernel_rfl) (fun K hK=>?_)
    go_simp
    have hb1:Below w.heap.size a0 (a0.alloc (.cells #[.int .u8 92,.int .u8 (d1.toNat:Int),.int .u8 (d2.toNat:Int)] 5)):=(Below.refl _ _).alloc hs0 _
    have hone:(a0.alloc (.cells #[.int .u8 92,.int .u8 (d1.toNat:Int),.int .u8 (d2.toNat:Int)] 5)).ownsRow a0.heap.size 5 1 (.slice (some ⟨a0.heap.size,0,none⟩) 3 3) 3 (bys [92,d1,d2]):=lit3 a0 92 d1 d2
    have hH:=Has.own hone
    have hor1:=hor0.alloc (.cells #[.int .u8 92,.int .u8 (d1.toNat:Int),.int .u8 (d2.toNat:Int)] 5)
    have hba:=hbr0.trans hb1
    have hs1:=hba.size
    clear hone hor0 hbr0
    refine hK.out _ _ hb1 ?_
    clear hK K hb1
    try simp only[Act.put,List.setIfInBounds_toArray,List.set_cons_zero,List.set_cons_succ]
    refine grow_only 8 rfl (by kernel_rfl) (fun K hK=>?_)
    refine step8 _ (some 45) rfl rfl (.tmp 37) (.tmp 44) rfl w.heap.size _ _ o rfl hor1 _ _ 3 3 [92,d1,d2] rfl hH (by have:=hlen.out;omega) hs1 ?_
    intro v' w3 hown3 hb3 _ _
    have hb4:=hba.trans hb3
    refine hK.out _ _ hb3 ?_
    clear hK K hor1 hba hs1 hH hb3
    try simp only[Act.put,List.setIfInBounds_toArray,List.set_cons_zero,List.set_cons_succ]
    refine grow_take 9 (some 3) (v:=?vf9) rfl rfl (by kernel_rfl) (by kernel_rfl) (by kernel_rfl) (fun _ _ _ h=>h) (by rfl) (fun W hW=>?yf9) ?_
    case yf9=>
     go_simp<;>with_reducible rfl
    simp only[Act.put,List.setIfInBounds_toArray,List.set_cons_zero,List.set_cons_succ]
    refine grow_done (by kernel_rfl) ?_ _
    go_wp2
    go_roundg k
    case measure=>omega
    case rel=>exact⟨i+1,o++[92,d1,d2],by omega,by go_num,hnext,by simpa using hown3,hb4⟩
   | plain h n1 n2 n3 n4 e=>
    have hnext:=hide (hnx.out _ e)
    have c1:¬((c.toNat:Int)<32):=by omega
    have c2:¬((126:Int)<(c.toNat:Int)):=by omega
    have c3:((c.toNat:Int)==42)=false:=beq_false_of_ne (by omega)
    have c4:((c.toNat:Int)==40)=false:=beq_false_of_ne (by omega)
    have c5:((c.toNat:Int)==41)=false:=beq_false_of_ne (by omega)
    have c6:((c.toNat:Int)==92)=false:=beq_false_of_ne (by omega)
    clear hnx e hlt h n1 n2 n3 n4
    have hone:(wr.alloc (.cells #[.int .u8 (c.toNat:Int)] 5)).ownsRow wr.heap.size 5 1 (.slice (some ⟨wr.heap.size,0,none⟩) 1 1) 1 (bys [c]):=one8 wr c
    have hH:=Has.own hone
    have hor1:=hor.alloc (.cells #[.int .u8 (c.toNat:Int)] 5)
    have hbr1:=hbr.alloc (hbr.size) (.cells #[.int .u8 (c.toNat:Int)] 5)
    have hs1:=hbr1.size
    clear hone hor hbr
    go_wp2_with (first
     |(at_builtin;go_must (refine app8 _ rfl (.tmp 46) (.tmp 48) rfl w.heap.size _ _ o rfl hor1 _ _ 1 1 [c] rfl hH (by have:=hlen.out;omega) hs1 ?_)))
    intro v' w3 hown3 hb3 _
    have hb4:=hbr1.trans hb3
    clear hor1 hbr1 hs1 hH hb3
    go_wp2
    go_roundg k
    case measure=>omega
    case rel=>exact⟨i+1,o++[c],by omega,by go_num,hnext,by simpa using hown3,hb4⟩
theorem rsign_any (k:Int) (w:World):Calls Tryz.prog 40 #[.int .i64 k] w fun e w'=>e=.returned (.string (txt (FT.sign k)))∧w'=w:=by
 by_cases h5:k=5
 ·subst h5
  go_enter Tryz.func40,Tryz.ntmps40
  go_wp2
  go_ret
  exact⟨rfl,rfl⟩
 by_cases h6:k=6
 ·subst h6
  go_enter Tryz.func40,Tryz.ntmps40
  go_wp2
  go_ret
  exact⟨rfl,rfl⟩
 by_cases h8:k=8
 ·subst h8
  go_enter Tryz.func40,Tryz.ntmps40
  go_wp2
  go_ret
  exact⟨rfl,rfl⟩
 have hs:txt (FT.sign k)=⟨#[61]⟩:=by unfold FT.sign;rw[if_neg h5,if_neg h6,if_neg h8];rfl
 rw[hs]
 have y5:(k==5)=false:=beq_false_of_ne h5
 have y6:(k==6)=false:=beq_false_of_ne h6
 have y8:(k==8)=false:=beq_false_of_ne h8
 clear hs
 go_enter Tryz.func40,Tryz.ntmps40
 go_wp2
 go_ret
 exact⟨rfl,rfl⟩
end Go.Proofs.YtaolhefllfnmiaaGreatDoor
namespace Go.Proofs.YtaolhefllfnmiaaGreatDoor
open Go.RowKit
set_option linter.unusedVariables false
namespace FT
structure BareIs (k:Int) (a v f l:List UInt8) (any:List (List UInt8)):Prop where
 kind:k=0∨k=1∨k=2∨k=3∨k=4∨k=5∨k=6∨k=7∨k=8
 la:a.length≤200
 lv:v.length≤200
 lf:f.length≤200
 ll:l.length≤200
 lx:∀x∈any,x.length≤200
theorem attr_len {a:List UInt8} (h:attrOk a=true):a.length≤40:=by
 unfold attrOk at h
 simp only[Bool.and_eq_true,decide_eq_true_eq] at h
 exact h.1.1.2
theorem fits_len {a:List UInt8} (h:fits a=true):1≤a.length∧a.length≤200:=by
 unfold fits at h
 simpa using h
theorem plain_nil {f l:List UInt8} {any:List (List UInt8)} (h:plain0 f l any=true):f=[]∧l=[]∧any=[]:=by
 unfold plain0 at h
 simpa[and_assoc] using h
theorem bare_is {k:Int} {a v f l:List UInt8} {any:List (List UInt8)} {ps:List FT} (h:bare (.mk k a v f l any ps)=true):BareIs k a v f l any:=by
 have nil:∀{f l:List UInt8} {any:List (List UInt8)},plain0 f l any=true→f.length≤200∧l.length≤200∧∀x∈any,x.length≤200:=fun h=>by
  obtain⟨rfl,rfl,rfl⟩:=plain_nil h
  exact⟨by simp,by simp,fun x hx=>by cases hx⟩
 by_cases h01:k=0∨k=1
 ·rw [bare_and _ _ _ _ _ _ _ h01] at h
  simp only[Bool.and_eq_true,beq_iff_eq] at h
  obtain⟨⟨rfl,rfl⟩,h3⟩:=h
  obtain⟨q1,q2,q3⟩:=nil h3
  exact⟨by omega,by simp,by simp,q1,q2,q3⟩
 by_cases h2:k=2
 ·subst h2
  rw[bare_not] at h
  simp only[Bool.and_eq_true,beq_iff_eq] at h
  obtain⟨⟨⟨rfl,rfl⟩,h3⟩,_⟩:=h
  obtain⟨q1,q2,q3⟩:=nil h3
  exact⟨by omega,by simp,by simp,q1,q2,q3⟩
 by_cases h3:k=3∨k=5∨k=6∨k=8
 ·rw [bare_val _ _ _ _ _ _ _ h3] at h
  simp only[Bool.and_eq_true] at h
  obtain⟨⟨⟨h4,h5⟩,h6⟩,_⟩:=h
  obtain⟨q1,q2,q3⟩:=nil h6
  have:=attr_len h4
  have:=fits_len h5
  exact⟨by omega,by omega,by omega,q1,q2,q3⟩
 by_cases h7:k=7
 ·subst h7
  rw[bare_has] at h
  simp only[Bool.and_eq_true,beq_iff_eq] at h
  obtain⟨⟨⟨h4,rfl⟩,h6⟩,_⟩:=h
  obtain⟨q1,q2,q3⟩:=nil h6
  have:=attr_len h4
  exact⟨by omega,by omega,by simp,q1,q2,q3⟩
 by_cases h4:k=4
 ·subst h4
  rw[bare_sub] at h
  simp only[Bool.and_eq_true,beq_iff_eq,decide_eq_true_eq] at h
  obtain⟨⟨⟨⟨⟨⟨h5,h6⟩,rfl⟩,_⟩,_⟩,h7⟩,h8⟩:=h
  have:=attr_len h6
  exact⟨by omega,by omega,by simp,h7,h8,fun x hx=>(fits_len (List.all_eq_true.1 h5 x hx)).2⟩
 rw[bare_else _ _ _ _ _ _ _ ⟨fun h=>h01 (.inl h),fun h=>h01 (.inr h),h2,fun h=>h3 (.inl h),h4,fun h=>h3 (.inr (.inl h)),fun h=>h3 (.inr (.inr (.inl h))),h7,fun h=>h3 (.inr (.inr (.inr h)))⟩] at h
 cases h
section
variable (k:Int) (a v f l:List UInt8) (any:List (List UInt8)) (ps:List FT)
theorem text_parts (h:k=0∨k=1∨k=2):text (.mk k a v f l any ps)=40::((head8 k::ps.flatMap text)++[41]):=by
 rw[text,if_pos h,textL_flat]
theorem text_has:text (.mk 7 a v f l any ps)=40::(a++[61,42]++[41]):=by
 rw[text,if_neg (by omega),if_pos rfl]
theorem text_sub:text (.mk 4 a v f l any ps)=40::(a++[61]++esc f++[42]++any.flatMap (fun x=>esc x++[42])++esc l++[41]):=by
 rw[text,if_neg (by omega),if_neg (by omega),if_pos rfl]
theorem text_val (h:k=3∨k=5∨k=6∨k=8):text (.mk k a v f l any ps)=40::(a++sign k++esc v++[41]):=by
 rw[text,if_neg (by omega),if_neg (by omega),if_neg (by omega)]
end
theorem flat_take {α:Type} {L:List α} {i:Nat} {x:α} (g:α→List UInt8) (h:L[i]?=some x):(L.take (i+1)).flatMap g=(L.take i).flatMap g++g x:=by
 rw[List.take_add_one,h]
 simp
theorem flat_le {α:Type} (g:α→List UInt8):∀(L:List α) (i:Nat),((L.take i).flatMap g).length≤(L.flatMap g).length
 | [],i=>by simp
 | p::r,0=>by simp
 | p::r,i+1=>by
  have:=flat_le g r i
  simp only[List.take_succ_cons,List.flatMap_cons,List.length_append]
  omega
end FT
theorem rtext_any (t:FT):t.all=true→t.text.length≤10000000→∀(w:World) (u0 u1 u2 u3 u4 u5 u6:Value),FIn w w.heap.size t [u0,u1,u2,u3,u4,u5,u6]→
  Calls Tryz.prog 25 #[.agg #[u0,u1,u2,u3,u4,u5,u6]] w fun e w'=>e=.returned (.string (txt t.text))∧Below w.heap.size w w':=by
 induction t using FT.induct
 rename_i k a v f l any ps ih
 intro hall hlen w u0 u1 u2 u3 u4 u5 u6 hF
 simp only[FIn] at hF
 obtain⟨A,c,D,dd,xs,hcs,⟨hml,hnl⟩,hA,hD,hP⟩:=hF
 cases hcs
 unfold maxLen at hml hnl
 obtain⟨m,hm⟩:∃m,any.length=m:=⟨_,rfl⟩
 obtain⟨np,hnp⟩:∃np,ps.length=np:=⟨_,rfl⟩
 have hnl1:(np:Int)≤9223372036854775807:=by omega
 have hX:=Box7.new w k (txt a) (txt v) (txt f) (txt l) A any.length c D ps.length dd 25
 have hb0:=below1 w (.cells #[.int .i64 k,.string (txt a),.string (txt v),.string (txt f),.string (txt l),.slice A any.length c,.slice D ps.length dd] 25)
 rw[hm,hnp] at hX hb0 ⊢
 obtain⟨t0,ht0⟩:∃t0,FT.mk k a v f l any ps=t0:=⟨_,rfl⟩
 have htp:t0.parts=ps:=by rw[←ht0];rfl
 rw[FT.all_mk,Bool.and_eq_true] at hall
 obtain⟨hbr,hpa⟩:=hall
 have hB:=FT.bare_is hbr
 have hEf:=fun w=>rescaped_any f (by have:=hB.lf;omega) w
 have hEl:=fun w=>rescaped_any l (by have:=hB.ll;omega) w
 have hEv:=fun w=>rescaped_any v (by have:=hB.lv;omega) w
 have hmi:m≤9223372036854775807:=by omega
 obtain⟨RV,hRV⟩:∃RV,txt t0.text=RV:=⟨_,rfl⟩
 rw[ht0] at hlen
 rw[ht0,hRV]
 rw[←ht0] at hRV
 have htx:t0.text=FT.text (.mk k a v f l any ps):=by rw[ht0]
 rw[htx] at hlen
 have HPa:=hide (fun p hp=>List.all_eq_true.1 hpa p hp)
 have HD:=hide hD
 have HP:=hide hP
 have HA:=hide hA
 have Hih:=hide ih
 have Hnp:=hide hnp
 have Hm:=hide hm
 have HX:=hide hX
 have hk:=hB.kind
 have HB:=hide hB
 have hla:(txt a).size≤200:=by rw[txt_size];exact hB.la
 have hzf:(txt (FT.esc f)).size≤600:=by rw[txt_size];have:=FT.esc_len f;have:=hB.lf;omega
 have hzl:(txt (FT.esc l)).size≤600:=by rw[txt_size];have:=FT.esc_len l;have:=hB.ll;omega
 have hzv:(txt (FT.esc v)).size≤600:=by rw[txt_size];have:=FT.esc_len v;have:=hB.lv;omega
 clear ih hA hD hP hm hnp hml hnl ht0 htp hX hbr hpa hB htx
 obtain⟨_,c0,c1,c2,c3,c4,c5,c6⟩:=HX.out
 rcases hk with rfl | rfl | rfl | rfl | rfl | rfl | rfl | rfl | rfl
 ·have hT:=FT.text_parts 0 a v f l any ps (by omega)
  rw[hT] at hRV hlen
  have hle:(ps.flatMap FT.text).length≤10000000:=by simp only[List.length_cons,List.length_append] at hlen;omega
  have hst:∀i,(txt (FT.head8 0::(ps.take i).flatMap FT.text)).size≤10000001:=fun i=>by rw[txt_size,List.length_cons];have:=FT.flat_le FT.text ps i;omega
  have HS:=hide hst
  have HR:Hid (⟨#[40]⟩++txt (FT.head8 0::ps.flatMap FT.text)++⟨#[41]⟩=RV):=hide (by
   rw[←hRV,show (⟨#[40]⟩:ByteArray)=txt [40] from rfl,show (⟨#[41]⟩:ByteArray)=txt [41] from rfl,txt_app,txt_app]
   rfl)
  have hpl:∀p∈ps,p.text.length≤10000000:=fun p hp=>by
   obtain⟨i,hi⟩:=List.mem_iff_getElem?.1 hp
   have h1:=FT.flat_le FT.text ps (i+1)
   rw[FT.flat_take FT.text hi,List.length_append] at h1
   omega
  have HPl:=hide hpl
  clear hT hRV hlen hle hst hpl hEf hEl hEv hzf hzl hzv HA Hm HB
  generalize txt a=sa at *
  generalize txt v=sv at *
  generalize txt f=sf at *
  generalize txt l=sl at *
  go_enter Tryz.func25,Tryz.ntmps25
  go_wp2
  go_loopg [3,31] np (fun r s3 s31 wx=>∃(j:Nat) (S:ByteArray),j+r=np∧s3=.string S∧s31=.int .i64 (j:Int)∧Hid (S=txt (FT.head8 0::(ps.take j).flatMap FT.text))∧S.size≤10000001∧Hid (Below w.heap.size w wx∧Box7 wx w.heap.size 0 sa sv sf sl A m c D np dd))
  case atStart=>exact⟨0,⟨#[38]⟩,by omega,rfl,rfl,hide rfl,by decide,hide ⟨hb0,HX.out⟩⟩
  case round=>
   obtain⟨j,S,hjg,rfl,rfl,hpre,hSz,hbr⟩:=hrel
   obtain⟨hb2,hX2⟩:=hbr.out
   clear HX hb0 c0 c1 c2 c3 c4 c5 c6
   obtain⟨_,c0,c1,c2,c3,c4,c5,c6⟩:=hX2
   cases gk with
   | zero=>
    obtain rfl:j=np:=by omega
    have hjz:¬((j:Int)<(j:Int)):=by omega
    have hq:Hid (⟨#[40]⟩++S++⟨#[41]⟩=RV):=hide (by
     rw[hpre.out,List.take_of_length_le (by rw[Hnp.out];exact Nat.le_refl _)]
     exact HR.out)
    clear HD HP Hih Hnp hpre HR HS HPl HPa
    go_wp2
    go_ret
    exact⟨by rw[←hq.out];rfl,hb2⟩
   | succ r=>
    have hj:j<np:=by omega
    have hjz:(j:Int)<(np:Int):=by omega
    obtain⟨p,hp⟩:∃p,ps[j]?=some p:=⟨_,List.getElem?_eq_getElem (by rw[Hnp.out];exact hj)⟩
    have HD1:=HD.out
    rw[Hnp.out] at HD1
    have HP1:=HP.out
    obtain⟨g,o,hDe,hg,hparts⟩:=HD.out.part HP1 (fun h=>by rw[h] at hp;simp at hp)
    subst hDe
    obtain⟨u0,u1,u2,u3,u4,u5,u6,hpart⟩:=hparts j p hp
    obtain⟨hcp2,_,x0,x1,x2,x3,x4,x5,x6⟩:=hpart.below hb2
    replace hcp2:=hcp2.upto hb2.size
    have hpm:=List.mem_of_getElem? hp
    have hcall:=Hih.out p hpm (HPa.out p hpm) (HPl.out p hpm) wr _ _ _ _ _ _ _ hcp2
    have hnx:Hid (S++txt p.text=txt (FT.head8 0::(ps.take (j+1)).flatMap FT.text)):=hide (by rw[FT.flat_take FT.text hp,hpre.out,txt_app];rfl)
    have hxs:(S++txt p.text).size≤10000001:=by rw[hnx.out];exact HS.out (j+1)
    have hps:(txt p.text).size≤10000000:=by rw[txt_size];exact HPl.out p hpm
    have HX2:=hide hbr.out.2
    generalize txt p.text=Y at *
    clear HD HP Hih Hnp hpre HR HS HPl HPa hp HD1 HP1 hparts hpart hcp2 hpm
    go_wp2_with (go_at_call 25;fail)
    refine hcall.mono ?_
    rintro e w3 ⟨rfl,hb3⟩
    have hb4:=hb2.trans (hb3.mono hb2.size)
    have hX3:Hid (Below w.heap.size w w3∧Box7 w3 w.heap.size 0 sa sv sf sl A m c (some ⟨g,o,none⟩) np dd):=hide ⟨hb4,HX2.out.below HX2.out.lt hb3⟩
    clear hcall hb3 hb4 hbr hb2 c0 c1 c2 c3 c4 c5 c6
    go_wp2
    go_roundg r
    case measure=>omega
    case rel=>exact⟨j+1,S++Y,by omega,rfl,by go_num,hnx,hxs,hX3⟩
 ·have hT:=FT.text_parts 1 a v f l any ps (by omega)
  rw[hT] at hRV hlen
  have hle:(ps.flatMap FT.text).length≤10000000:=by simp only[List.length_cons,List.length_append] at hlen;omega
  have hst:∀i,(txt (FT.head8 1::(ps.take i).flatMap FT.text)).size≤10000001:=fun i=>by rw[txt_size,List.length_cons];have:=FT.flat_le FT.text ps i;omega
  have HS:=hide hst
  have HR:Hid (⟨#[40]⟩++txt (FT.head8 1::ps.flatMap FT.text)++⟨#[41]⟩=RV):=hide (by
   rw[←hRV,show (⟨#[40]⟩:ByteArray)=txt [40] from rfl,show (⟨#[41]⟩:ByteArray)=txt [41] from rfl,txt_app,txt_app]
   rfl)
  have hpl:∀p∈ps,p.text.length≤10000000:=fun p hp=>by
   obtain⟨i,hi⟩:=List.mem_iff_getElem?.1 hp
   have h1:=FT.flat_le FT.text ps (i+1)
   rw[FT.flat_take FT.text hi,List.length_append] at h1
   omega
  have HPl:=hide hpl
  clear hT hRV hlen hle hst hpl hEf hEl hEv hzf hzl hzv HA Hm HB
  generalize txt a=sa at *
  generalize txt v=sv at *
  generalize txt f=sf at *
  generalize txt l=sl at *
  go_enter Tryz.func25,Tryz.ntmps25
  go_wp2
  go_loopg [3,31] np (fun r s3 s31 wx=>∃(j:Nat) (S:ByteArray),j+r=np∧s3=.string S∧s31=.int .i64 (j:Int)∧Hid (S=txt (FT.head8 1::(ps.take j).flatMap FT.text))∧S.size≤10000001∧Hid (Below w.heap.size w wx∧Box7 wx w.heap.size 1 sa sv sf sl A m c D np dd))
  case atStart=>exact⟨0,⟨#[124]⟩,by omega,rfl,rfl,hide rfl,by decide,hide ⟨hb0,HX.out⟩⟩
  case round=>
   obtain⟨j,S,hjg,rfl,rfl,hpre,hSz,hbr⟩:=hrel
   obtain⟨hb2,hX2⟩:=hbr.out
   clear HX hb0 c0 c1 c2 c3 c4 c5 c6
   obtain⟨_,c0,c1,c2,c3,c4,c5,c6⟩:=hX2
   cases gk with
   | zero=>
    obtain rfl:j=np:=by omega
    have hjz:¬((j:Int)<(j:Int)):=by omega
    have hq:Hid (⟨#[40]⟩++S++⟨#[41]⟩=RV):=hide (by
     rw[hpre.out,List.take_of_length_le (by rw[Hnp.out];exact Nat.le_refl _)]
     exact HR.out)
    clear HD HP Hih Hnp hpre HR HS HPl HPa
    go_wp2
    go_ret
    exact⟨by rw[←hq.out];rfl,hb2⟩
   | succ r=>
    have hj:j<np:=by omega
    have hjz:(j:Int)<(np:Int):=by omega
    obtain⟨p,hp⟩:∃p,ps[j]?=some p:=⟨_,List.getElem?_eq_getElem (by rw[Hnp.out];exact hj)⟩
    have HD1:=HD.out
    rw[Hnp.out] at HD1
    have HP1:=HP.out
    obtain⟨g,o,hDe,hg,hparts⟩:=HD.out.part HP1 (fun h=>by rw[h] at hp;simp at hp)
    subst hDe
    obtain⟨u0,u1,u2,u3,u4,u5,u6,hpart⟩:=hparts j p hp
    obtain⟨hcp2,_,x0,x1,x2,x3,x4,x5,x6⟩:=hpart.below hb2
    replace hcp2:=hcp2.upto hb2.size
    have hpm:=List.mem_of_getElem? hp
    have hcall:=Hih.out p hpm (HPa.out p hpm) (HPl.out p hpm) wr _ _ _ _ _ _ _ hcp2
    have hnx:Hid (S++txt p.text=txt (FT.head8 1::(ps.take (j+1)).flatMap FT.text)):=hide (by rw[FT.flat_take FT.text hp,hpre.out,txt_app];rfl)
    have hxs:(S++txt p.text).size≤10000001:=by rw[hnx.out];exact HS.out (j+1)
    have hps:(txt p.text).size≤10000000:=by rw[txt_size];exact HPl.out p hpm
    have HX2:=hide hbr.out.2
    generalize txt p.text=Y at *
    clear HD HP Hih Hnp hpre HR HS HPl HPa hp HD1 HP1 hparts hpart hcp2 hpm
    go_wp2_with (go_at_call 25;fail)
    refine hcall.mono ?_
    rintro e w3 ⟨rfl,hb3⟩
    have hb4:=hb2.trans (hb3.mono hb2.size)
    have hX3:Hid (Below w.heap.size w w3∧Box7 w3 w.heap.size 1 sa sv sf sl A m c (some ⟨g,o,none⟩) np dd):=hide ⟨hb4,HX2.out.below HX2.out.lt hb3⟩
    clear hcall hb3 hb4 hbr hb2 c0 c1 c2 c3 c4 c5 c6
    go_wp2
    go_roundg r
    case measure=>omega
    case rel=>exact⟨j+1,S++Y,by omega,rfl,by go_num,hnx,hxs,hX3⟩
 ·have hT:=FT.text_parts 2 a v f l any ps (by omega)
  rw[hT] at hRV hlen
  have hle:(ps.flatMap FT.text).length≤10000000:=by simp only[List.length_cons,List.length_append] at hlen;omega
  have hst:∀i,(txt (FT.head8 2::(ps.take i).flatMap FT.text)).size≤10000001:=fun i=>by rw[txt_size,List.length_cons];have:=FT.flat_le FT.text ps i;omega
  have HS:=hide hst
  have HR:Hid (⟨#[40]⟩++txt (FT.head8 2::ps.flatMap FT.text)++⟨#[41]⟩=RV):=hide (by
   rw[←hRV,show (⟨#[40]⟩:ByteArray)=txt [40] from rfl,show (⟨#[41]⟩:ByteArray)=txt [41] from rfl,txt_app,txt_app]
   rfl)
  have hpl:∀p∈ps,p.text.length≤10000000:=fun p hp=>by
   obtain⟨i,hi⟩:=List.mem_iff_getElem?.1 hp
   have h1:=FT.flat_le FT.text ps (i+1)
   rw[FT.flat_take FT.text hi,List.length_append] at h1
   omega
  have HPl:=hide hpl
  clear hT hRV hlen hle hst hpl hEf hEl hEv hzf hzl hzv HA Hm HB
  generalize txt a=sa at *
  generalize txt v=sv at *
  generalize txt f=sf at *
  generalize txt l=sl at *
  go_enter Tryz.func25,Tryz.ntmps25
  go_wp2
  go_loopg [3,31] np (fun r s3 s31 wx=>∃(j:Nat) (S:ByteArray),j+r=np∧s3=.string S∧s31=.int .i64 (j:Int)∧Hid (S=txt (FT.head8 2::(ps.take j).flatMap FT.text))∧S.size≤10000001∧Hid (Below w.heap.size w wx∧Box7 wx w.heap.size 2 sa sv sf sl A m c D np dd))
  case atStart=>exact⟨0,⟨#[33]⟩,by omega,rfl,rfl,hide rfl,by decide,hide ⟨hb0,HX.out⟩⟩
  case round=>
   obtain⟨j,S,hjg,rfl,rfl,hpre,hSz,hbr⟩:=hrel
   obtain⟨hb2,hX2⟩:=hbr.out
   clear HX hb0 c0 c1 c2 c3 c4 c5 c6
   obtain⟨_,c0,c1,c2,c3,c4,c5,c6⟩:=hX2
   cases gk with
   | zero=>
    obtain rfl:j=np:=by omega
    have hjz:¬((j:Int)<(j:Int)):=by omega
    have hq:Hid (⟨#[40]⟩++S++⟨#[41]⟩=RV):=hide (by
     rw[hpre.out,List.take_of_length_le (by rw[Hnp.out];exact Nat.le_refl _)]
     exact HR.out)
    clear HD HP Hih Hnp hpre HR HS HPl HPa
    go_wp2
    go_ret
    exact⟨by rw[←hq.out];rfl,hb2⟩
   | succ r=>
    have hj:j<np:=by omega
    have hjz:(j:Int)<(np:Int):=by omega
    obtain⟨p,hp⟩:∃p,ps[j]?=some p:=⟨_,List.getElem?_eq_getElem (by rw[Hnp.out];exact hj)⟩
    have HD1:=HD.out
    rw[Hnp.out] at HD1
    have HP1:=HP.out
    obtain⟨g,o,hDe,hg,hparts⟩:=HD.out.part HP1 (fun h=>by rw[h] at hp;simp at hp)
    subst hDe
    obtain⟨u0,u1,u2,u3,u4,u5,u6,hpart⟩:=hparts j p hp
    obtain⟨hcp2,_,x0,x1,x2,x3,x4,x5,x6⟩:=hpart.below hb2
    replace hcp2:=hcp2.upto hb2.size
    have hpm:=List.mem_of_getElem? hp
    have hcall:=Hih.out p hpm (HPa.out p hpm) (HPl.out p hpm) wr _ _ _ _ _ _ _ hcp2
    have hnx:Hid (S++txt p.text=txt (FT.head8 2::(ps.take (j+1)).flatMap FT.text)):=hide (by rw[FT.flat_take FT.text hp,hpre.out,txt_app];rfl)
    have hxs:(S++txt p.text).size≤10000001:=by rw[hnx.out];exact HS.out (j+1)
    have hps:(txt p.text).size≤10000000:=by rw[txt_size];exact HPl.out p hpm
    have HX2:=hide hbr.out.2
    generalize txt p.text=Y at *
    clear HD HP Hih Hnp hpre HR HS HPl HPa hp HD1 HP1 hparts hpart hcp2 hpm
    go_wp2_with (go_at_call 25;fail)
    refine hcall.mono ?_
    rintro e w3 ⟨rfl,hb3⟩
    have hb4:=hb2.trans (hb3.mono hb2.size)
    have hX3:Hid (Below w.heap.size w w3∧Box7 w3 w.heap.size 2 sa sv sf sl A m c (some ⟨g,o,none⟩) np dd):=hide ⟨hb4,HX2.out.below HX2.out.lt hb3⟩
    clear hcall hb3 hb4 hbr hb2 c0 c1 c2 c3 c4 c5 c6
    go_wp2
    go_roundg r
    case measure=>omega
    case rel=>exact⟨j+1,S++Y,by omega,rfl,by go_num,hnx,hxs,hX3⟩
 ·have hT:=FT.text_val 3 a v f l any ps (by omega)
  rw[hT] at hRV hlen
  have hzg:(txt (FT.sign 3)).size≤2:=by decide
  have HR:Hid (⟨#[40]⟩++(txt a++txt (FT.sign 3)++txt (FT.esc v))++⟨#[41]⟩=RV):=hide (by
   rw[←hRV,show (⟨#[40]⟩:ByteArray)=txt [40] from rfl,show (⟨#[41]⟩:ByteArray)=txt [41] from rfl,txt_app,txt_app,txt_app,txt_app]
   rfl)
  have hSg:=fun w=>rsign_any 3 w
  have hz2:(txt a++txt (FT.sign 3)).size≤202:=by rw[ByteArray.size_append];omega
  have hz3:(txt a++txt (FT.sign 3)++txt (FT.esc v)).size≤802:=by rw[ByteArray.size_append];omega
  clear hT hRV hlen hEf hEl hzf hzl HA Hm HB HD HP Hih Hnp HPa
  generalize txt (FT.esc v)=ev at *
  generalize txt (FT.sign 3)=sg at *
  generalize txt a=sa at *
  generalize txt v=sv at *
  generalize txt f=sf at *
  generalize txt l=sl at *
  go_enter Tryz.func25,Tryz.ntmps25
  go_wp2_with fail
  refine grow_begin (by kernel_rfl) ?_
  obtain⟨w1,hw1⟩:∃w1,(w.alloc (.cells #[.int .i64 3,.string sa,.string sv,.string sf,.string sl,.slice A m c,.slice D np dd] 25))=w1:=⟨_,rfl⟩
  rw[hw1] at hb0 HX ⊢
  have hdr:Below w1.heap.size w1 w1.drew:=(Below.refl _ _).drew
  have HXd:=hide (HX.out.below HX.out.lt hdr)
  have HBd:=hide (hb0.trans (hdr.mono hb0.size))
  clear HX hb0 hdr hw1 c0 c1 c2 c3 c4 c5 c6
  generalize w1.drew=w3 at *
  refine grow_take 0 (some 8) (v:=?vv30) rfl rfl (by kernel_rfl) (by kernel_rfl) (by kernel_rfl) (fun _ _ _ h=>h) (by rfl) (fun W hW=>?yv30) ?_
  case yv30=>
   go_simp<;>with_reducible rfl
  simp only[Act.put,List.setIfInBounds_toArray,List.set_cons_zero,List.set_cons_succ]
  refine grow_take 1 (some 9) (v:=?vv31) rfl rfl (by kernel_rfl) (by kernel_rfl) (by kernel_rfl) (fun _ _ _ h=>h) (by rfl) (fun W hW=>?yv31) ?_
  case yv31=>
   have h1:=(HXd.out.below HXd.out.lt hW).c1
   go_simp<;>with_reducible rfl
  simp only[Act.put,List.setIfInBounds_toArray,List.set_cons_zero,List.set_cons_succ]
  refine grow_take 2 (some 10) (v:=?vv32) rfl rfl (by kernel_rfl) (by kernel_rfl) (by kernel_rfl) (fun _ _ _ h=>h) (by rfl) (fun W hW=>?yv32) ?_
  case yv32=>
   go_simp<;>with_reducible rfl
  simp only[Act.put,List.setIfInBounds_toArray,List.set_cons_zero,List.set_cons_succ]
  refine grow_take 3 (some 11) (v:=?vv33) rfl rfl (by kernel_rfl) (by kernel_rfl) (by kernel_rfl) (fun _ _ _ h=>h) (by rfl) (fun W hW=>?yv33) ?_
  case yv33=>
   have h0:=(HXd.out.below HXd.out.lt hW).c0
   go_simp<;>with_reducible rfl
  simp only[Act.put,List.setIfInBounds_toArray,List.set_cons_zero,List.set_cons_succ]
  refine grow_take 6 (some 14) (v:=?vv36) rfl rfl (by kernel_rfl) (by kernel_rfl) (by kernel_rfl) (fun _ _ _ h=>h) (by rfl) (fun W hW=>?yv36) ?_
  case yv36=>
   go_simp<;>with_reducible rfl
  simp only[Act.put,List.setIfInBounds_toArray,List.set_cons_zero,List.set_cons_succ]
  refine grow_take 7 (some 15) (v:=?vv37) rfl rfl (by kernel_rfl) (by kernel_rfl) (by kernel_rfl) (fun _ _ _ h=>h) (by rfl) (fun W hW=>?yv37) ?_
  case yv37=>
   have h2:=(HXd.out.below HXd.out.lt hW).c2
   go_simp<;>with_reducible rfl
  simp only[Act.put,List.setIfInBounds_toArray,List.set_cons_zero,List.set_cons_succ]
  refine grow_only 4 rfl (by kernel_rfl) (fun K hK=>?_)
  go_simp
  refine (hSg _).mono ?_
  rintro e w4 ⟨rfl,hw4⟩
  obtain rfl:=hw4.symm
  refine hK.out _ _ (Below.refl _ _) ?_
  clear hK K hw4
  try simp only[Act.put,List.setIfInBounds_toArray,List.set_cons_zero,List.set_cons_succ]
  refine grow_take 5 (some 13) (v:=?vv35) rfl rfl (by kernel_rfl) (by kernel_rfl) (by kernel_rfl) (fun _ _ _ h=>h) (by rfl) (fun W hW=>?yv35) ?_
  case yv35=>
   go_simp
   rw[if_neg (by omega)]
   (try rfl)
  simp only[Act.put,List.setIfInBounds_toArray,List.set_cons_zero,List.set_cons_succ]
  refine grow_only 8 rfl (by kernel_rfl) (fun K hK=>?_)
  go_simp
  refine (hEv _).mono ?_
  rintro e w5 ⟨rfl,hb5⟩
  have HB5:=hide (HBd.out.trans (hb5.mono HBd.out.size))
  refine hK.out _ _ hb5 ?_
  clear hK K hb5
  try simp only[Act.put,List.setIfInBounds_toArray,List.set_cons_zero,List.set_cons_succ]
  refine grow_take 9 (some 17) (v:=?vv39) rfl rfl (by kernel_rfl) (by kernel_rfl) (by kernel_rfl) (fun _ _ _ h=>h) (by rfl) (fun W hW=>?yv39) ?_
  case yv39=>
   go_simp
   rw[if_neg (by omega)]
   (try rfl)
  simp only[Act.put,List.setIfInBounds_toArray,List.set_cons_zero,List.set_cons_succ]
  refine grow_take 10 (some 3) (v:=?vv310) rfl rfl (by kernel_rfl) (by kernel_rfl) (by kernel_rfl) (fun _ _ _ h=>h) (by rfl) (fun W hW=>?yv310) ?_
  case yv310=>
   go_simp<;>with_reducible rfl
  simp only[Act.put,List.setIfInBounds_toArray,List.set_cons_zero,List.set_cons_succ]
  refine grow_done (by kernel_rfl) ?_ _
  go_wp2
  go_ret
  exact⟨by rw[←HR.out];rfl,HB5.out⟩
 ·have hT:=FT.text_sub a v f l any ps
  rw[hT] at hRV hlen
  have hle:(any.flatMap (fun x=>FT.esc x++[42])).length≤10000000:=by simp only[List.length_cons,List.length_append] at hlen;omega
  have hstart:(txt (a++[61]++FT.esc f++[42])).size≤802:=by
   rw[txt_size] at hla hzf ⊢
   simp only[List.length_append,List.length_cons,List.length_nil]
   omega
  have hst:∀i,(txt (a++[61]++FT.esc f++[42]++(any.take i).flatMap (fun x=>FT.esc x++[42]))).size≤10000802:=fun i=>by
   rw[txt_size] at hstart ⊢
   have:=FT.flat_le (fun x=>FT.esc x++[42]) any i
   rw[List.length_append]
   omega
  have HS:=hide hst
  have HR:Hid (⟨#[40]⟩++(txt (a++[61]++FT.esc f++[42]++any.flatMap (fun x=>FT.esc x++[42]))++txt (FT.esc l))++⟨#[41]⟩=RV):=hide (by
   rw[←hRV,show (⟨#[40]⟩:ByteArray)=txt [40] from rfl,show (⟨#[41]⟩:ByteArray)=txt [41] from rfl,txt_app,txt_app,txt_app]
   rfl)
  have H0:Hid (txt a++⟨#[61]⟩++txt (FT.esc f)++⟨#[42]⟩=txt (a++[61]++FT.esc f++[42]++(any.take 0).flatMap (fun x=>FT.esc x++[42]))):=hide (by
   rw[show (⟨#[61]⟩:ByteArray)=txt [61] from rfl,show (⟨#[42]⟩:ByteArray)=txt [42] from rfl,txt_app,txt_app,txt_app]
   simp)
  have hz1:(txt a++⟨#[61]⟩).size≤201:=by rw[ByteArray.size_append];have:(⟨#[61]⟩:ByteArray).size=1:=rfl;omega
  have hz2:(txt a++⟨#[61]⟩++txt (FT.esc f)).size≤801:=by rw[ByteArray.size_append];omega
  have hz3:(txt a++⟨#[61]⟩++txt (FT.esc f)++⟨#[42]⟩).size≤10000802:=by rw[H0.out];exact HS.out 0
  have HEx:=hide (fun x (hx:x∈any) w=>rescaped_any x (by have:=HB.out.lx x hx;omega) w)
  have HLx:=hide (fun x (hx:x∈any)=>(show (txt (FT.esc x)).size≤600 by rw[txt_size];have:=FT.esc_len x;have:=HB.out.lx x hx;omega))
  clear hT hRV hlen hle hstart hst hEv hzv HB HD HP Hih Hnp HPa
  generalize txt (FT.esc f)=ef at *
  generalize hel:txt (FT.esc l)=el at *
  generalize txt a=sa at *
  generalize txt v=sv at *
  generalize txt f=sf at *
  generalize txt l=sl at *
  clear hel
  go_enter Tryz.func25,Tryz.ntmps25
  go_wp2_with fail
  refine grow_begin (by kernel_rfl) ?_
  obtain⟨w1,hw1⟩:∃w1,(w.alloc (.cells #[.int .i64 4,.string sa,.string sv,.string sf,.string sl,.slice A m c,.slice D np dd] 25))=w1:=⟨_,rfl⟩
  rw[hw1] at hb0 HX ⊢
  have hdr:Below w1.heap.size w1 w1.drew:=(Below.refl _ _).drew
  have HXd:=hide (HX.out.below HX.out.lt hdr)
  have HBd:=hide (hb0.trans (hdr.mono hb0.size))
  clear HX hb0 hdr hw1 c0 c1 c2 c3 c4 c5 c6
  generalize w1.drew=w3 at *
  refine grow_take 0 (some 50) (v:=?vw0) rfl rfl (by kernel_rfl) (by kernel_rfl) (by kernel_rfl) (fun _ _ _ h=>h) (by rfl) (fun W hW=>?yw0) ?_
  case yw0=>
   go_simp<;>with_reducible rfl
  simp only[Act.put,List.setIfInBounds_toArray,List.set_cons_zero,List.set_cons_succ]
  refine grow_take 1 (some 51) (v:=?vw1) rfl rfl (by kernel_rfl) (by kernel_rfl) (by kernel_rfl) (fun _ _ _ h=>h) (by rfl) (fun W hW=>?yw1) ?_
  case yw1=>
   have h1:=(HXd.out.below HXd.out.lt hW).c1
   go_simp<;>with_reducible rfl
  simp only[Act.put,List.setIfInBounds_toArray,List.set_cons_zero,List.set_cons_succ]
  refine grow_take 2 (some 52) (v:=?vw2) rfl rfl (by kernel_rfl) (by kernel_rfl) (by kernel_rfl) (fun _ _ _ h=>h) (by rfl) (fun W hW=>?yw2) ?_
  case yw2=>
   go_simp
   rw[if_neg (by omega)]
   (try rfl)
  simp only[Act.put,List.setIfInBounds_toArray,List.set_cons_zero,List.set_cons_succ]
  refine grow_take 3 (some 53) (v:=?vw3) rfl rfl (by kernel_rfl) (by kernel_rfl) (by kernel_rfl) (fun _ _ _ h=>h) (by rfl) (fun W hW=>?yw3) ?_
  case yw3=>
   go_simp<;>with_reducible rfl
  simp only[Act.put,List.setIfInBounds_toArray,List.set_cons_zero,List.set_cons_succ]
  refine grow_take 4 (some 54) (v:=?vw4) rfl rfl (by kernel_rfl) (by kernel_rfl) (by kernel_rfl) (fun _ _ _ h=>h) (by rfl) (fun W hW=>?yw4) ?_
  case yw4=>
   have h3:=(HXd.out.below HXd.out.lt hW).c3
   go_simp<;>with_reducible rfl
  simp only[Act.put,List.setIfInBounds_toArray,List.set_cons_zero,List.set_cons_succ]
  refine grow_only 5 rfl (by kernel_rfl) (fun K hK=>?_)
  go_simp
  refine (hEf _).mono ?_
  rintro e w5 ⟨rfl,hb5⟩
  have HX5:=hide (HXd.out.below HXd.out.lt hb5)
  have HB5:=hide (HBd.out.trans (hb5.mono HBd.out.size))
  refine hK.out _ _ hb5 ?_
  clear hK K hb5 HXd HBd
  try simp only[Act.put,List.setIfInBounds_toArray,List.set_cons_zero,List.set_cons_succ]
  refine grow_take 6 (some 56) (v:=?vw6) rfl rfl (by kernel_rfl) (by kernel_rfl) (by kernel_rfl) (fun _ _ _ h=>h) (by rfl) (fun W hW=>?yw6) ?_
  case yw6=>
   go_simp
   rw[if_neg (by omega)]
   (try rfl)
  simp only[Act.put,List.setIfInBounds_toArray,List.set_cons_zero,List.set_cons_succ]
  refine grow_take 7 (some 57) (v:=?vw7) rfl rfl (by kernel_rfl) (by kernel_rfl) (by kernel_rfl) (fun _ _ _ h=>h) (by rfl) (fun W hW=>?yw7) ?_
  case yw7=>
   go_simp
   rw[if_neg (by omega)]
   (try rfl)
  simp only[Act.put,List.setIfInBounds_toArray,List.set_cons_zero,List.set_cons_succ]
  refine grow_take 8 (some 3) (v:=?vw8) rfl rfl (by kernel_rfl) (by kernel_rfl) (by kernel_rfl) (fun _ _ _ h=>h) (by rfl) (fun W hW=>?yw8) ?_
  case yw8=>
   go_simp<;>with_reducible rfl
  simp only[Act.put,List.setIfInBounds_toArray,List.set_cons_zero,List.set_cons_succ]
  refine grow_done (by kernel_rfl) ?_ _
  obtain⟨_,c0,c1,c2,c3,c4,c5,c6⟩:=HX5.out
  go_wp2
  go_loopg [3,61] m (fun r s3 s61 wx=>∃(j:Nat) (S:ByteArray),j+r=m∧s3=.string S∧s61=.int .i64 (j:Int)∧Hid (S=txt (a++[61]++FT.esc f++[42]++(any.take j).flatMap (fun x=>FT.esc x++[42])))∧S.size≤10000802∧Hid (Below w.heap.size w wx∧Box7 wx w.heap.size 4 sa sv sf sl A m c D np dd))
  case atStart=>exact⟨0,sa++⟨#[61]⟩++ef++⟨#[42]⟩,by omega,rfl,rfl,H0,hz3,hide ⟨HB5.out,HX5.out⟩⟩
  case round=>
   obtain⟨j,S,hjg,rfl,rfl,hpre,hSz,hbr⟩:=hrel
   obtain⟨hb2,hX2⟩:=hbr.out
   clear HX5 HB5 c0 c1 c2 c3 c4 c5 c6 H0 hz3 hz1 hz2
   obtain⟨_,c0,c1,c2,c3,c4,c5,c6⟩:=hX2
   cases gk with
   | zero=>
    obtain rfl:j=m:=by omega
    have hjz:¬((j:Int)<(j:Int)):=by omega
    have hq:Hid (⟨#[40]⟩++(S++el)++⟨#[41]⟩=RV):=hide (by
     rw[hpre.out,List.take_of_length_le (by rw[Hm.out];exact Nat.le_refl _)]
     exact HR.out)
    have hz4:(S++el).size≤10001402:=by rw[ByteArray.size_append];omega
    have hcall:=hEl wr
    clear HA Hm hpre HR HS HEx HLx hEl hEf
    go_wp2_with (go_at_call 39;fail)
    refine hcall.mono ?_
    rintro e w3 ⟨rfl,hb3⟩
    have hb4:=hb2.trans (hb3.mono hb2.size)
    clear hcall hb3 hbr hb2 c0 c1 c2 c3 c4 c5 c6
    go_wp2
    go_ret
    exact⟨by rw[←hq.out];rfl,hb4⟩
   | succ r=>
    have hj:j<m:=by omega
    have hjz:(j:Int)<(m:Int):=by omega
    obtain⟨x,hx⟩:∃x,any[j]?=some x:=⟨_,List.getElem?_eq_getElem (by rw[Hm.out];exact hj)⟩
    have HA1:=HA.out
    rw[Hm.out] at HA1
    obtain⟨g,o,hAe,hg,hc⟩:=HA1.texts (fun h=>by rw[h] at hx;simp at hx)
    subst hAe
    have x0:=(hb2.cell (p:=⟨g,o+j,none⟩) hg).trans (hc j x hx)
    have hxm:=List.mem_of_getElem? hx
    have hcall:=HEx.out x hxm wr
    have hnx:Hid (S++txt (FT.esc x)++⟨#[42]⟩=txt (a++[61]++FT.esc f++[42]++(any.take (j+1)).flatMap (fun x=>FT.esc x++[42]))):=hide (by
     rw[FT.flat_take _ hx,hpre.out,show (⟨#[42]⟩:ByteArray)=txt [42] from rfl,txt_app,txt_app]
     simp)
    have hxs:(S++txt (FT.esc x)++⟨#[42]⟩).size≤10000802:=by rw[hnx.out];exact HS.out (j+1)
    have hps:=HLx.out x hxm
    have hxs1:(S++txt (FT.esc x)).size≤10001402:=by rw[ByteArray.size_append];omega
    have HX2:=hide hbr.out.2
    generalize txt (FT.esc x)=Y at *
    generalize txt x=X at *
    clear HA Hm hpre HR HS HEx HLx hEl hEf hx HA1 hc hxm
    go_wp2_with (go_at_call 39;fail)
    refine hcall.mono ?_
    rintro e w3 ⟨rfl,hb3⟩
    have hb4:=hb2.trans (hb3.mono hb2.size)
    have hX3:Hid (Below w.heap.size w w3∧Box7 w3 w.heap.size 4 sa sv sf sl (some ⟨g,o,none⟩) m c D np dd):=hide ⟨hb4,HX2.out.below HX2.out.lt hb3⟩
    clear hcall hb3 hb4 hbr hb2 c0 c1 c2 c3 c4 c5 c6
    go_wp2
    go_roundg r
    case measure=>omega
    case rel=>exact⟨j+1,S++Y++⟨#[42]⟩,by omega,rfl,by go_num,hnx,hxs,hX3⟩
 ·have hT:=FT.text_val 5 a v f l any ps (by omega)
  rw[hT] at hRV hlen
  have hzg:(txt (FT.sign 5)).size≤2:=by decide
  have HR:Hid (⟨#[40]⟩++(txt a++txt (FT.sign 5)++txt (FT.esc v))++⟨#[41]⟩=RV):=hide (by
   rw[←hRV,show (⟨#[40]⟩:ByteArray)=txt [40] from rfl,show (⟨#[41]⟩:ByteArray)=txt [41] from rfl,txt_app,txt_app,txt_app,txt_app]
   rfl)
  have hSg:=fun w=>rsign_any 5 w
  have hz2:(txt a++txt (FT.sign 5)).size≤202:=by rw[ByteArray.size_append];omega
  have hz3:(txt a++txt (FT.sign 5)++txt (FT.esc v)).size≤802:=by rw[ByteArray.size_append];omega
  clear hT hRV hlen hEf hEl hzf hzl HA Hm HB HD HP Hih Hnp HPa
  generalize txt (FT.esc v)=ev at *
  generalize txt (FT.sign 5)=sg at *
  generalize txt a=sa at *
  generalize txt v=sv at *
  generalize txt f=sf at *
  generalize txt l=sl at *
  go_enter Tryz.func25,Tryz.ntmps25
  go_wp2_with fail
  refine grow_begin (by kernel_rfl) ?_
  obtain⟨w1,hw1⟩:∃w1,(w.alloc (.cells #[.int .i64 5,.string sa,.string sv,.string sf,.string sl,.slice A m c,.slice D np dd] 25))=w1:=⟨_,rfl⟩
  rw[hw1] at hb0 HX ⊢
  have hdr:Below w1.heap.size w1 w1.drew:=(Below.refl _ _).drew
  have HXd:=hide (HX.out.below HX.out.lt hdr)
  have HBd:=hide (hb0.trans (hdr.mono hb0.size))
  clear HX hb0 hdr hw1 c0 c1 c2 c3 c4 c5 c6
  generalize w1.drew=w3 at *
  refine grow_take 0 (some 8) (v:=?vv50) rfl rfl (by kernel_rfl) (by kernel_rfl) (by kernel_rfl) (fun _ _ _ h=>h) (by rfl) (fun W hW=>?yv50) ?_
  case yv50=>
   go_simp<;>with_reducible rfl
  simp only[Act.put,List.setIfInBounds_toArray,List.set_cons_zero,List.set_cons_succ]
  refine grow_take 1 (some 9) (v:=?vv51) rfl rfl (by kernel_rfl) (by kernel_rfl) (by kernel_rfl) (fun _ _ _ h=>h) (by rfl) (fun W hW=>?yv51) ?_
  case yv51=>
   have h1:=(HXd.out.below HXd.out.lt hW).c1
   go_simp<;>with_reducible rfl
  simp only[Act.put,List.setIfInBounds_toArray,List.set_cons_zero,List.set_cons_succ]
  refine grow_take 2 (some 10) (v:=?vv52) rfl rfl (by kernel_rfl) (by kernel_rfl) (by kernel_rfl) (fun _ _ _ h=>h) (by rfl) (fun W hW=>?yv52) ?_
  case yv52=>
   go_simp<;>with_reducible rfl
  simp only[Act.put,List.setIfInBounds_toArray,List.set_cons_zero,List.set_cons_succ]
  refine grow_take 3 (some 11) (v:=?vv53) rfl rfl (by kernel_rfl) (by kernel_rfl) (by kernel_rfl) (fun _ _ _ h=>h) (by rfl) (fun W hW=>?yv53) ?_
  case yv53=>
   have h0:=(HXd.out.below HXd.out.lt hW).c0
   go_simp<;>with_reducible rfl
  simp only[Act.put,List.setIfInBounds_toArray,List.set_cons_zero,List.set_cons_succ]
  refine grow_take 6 (some 14) (v:=?vv56) rfl rfl (by kernel_rfl) (by kernel_rfl) (by kernel_rfl) (fun _ _ _ h=>h) (by rfl) (fun W hW=>?yv56) ?_
  case yv56=>
   go_simp<;>with_reducible rfl
  simp only[Act.put,List.setIfInBounds_toArray,List.set_cons_zero,List.set_cons_succ]
  refine grow_take 7 (some 15) (v:=?vv57) rfl rfl (by kernel_rfl) (by kernel_rfl) (by kernel_rfl) (fun _ _ _ h=>h) (by rfl) (fun W hW=>?yv57) ?_
  case yv57=>
   have h2:=(HXd.out.below HXd.out.lt hW).c2
   go_simp<;>with_reducible rfl
  simp only[Act.put,List.setIfInBounds_toArray,List.set_cons_zero,List.set_cons_succ]
  refine grow_only 4 rfl (by kernel_rfl) (fun K hK=>?_)
  go_simp
  refine (hSg _).mono ?_
  rintro e w4 ⟨rfl,hw4⟩
  obtain rfl:=hw4.symm
  refine hK.out _ _ (Below.refl _ _) ?_
  clear hK K hw4
  try simp only[Act.put,List.setIfInBounds_toArray,List.set_cons_zero,List.set_cons_succ]
  refine grow_take 5 (some 13) (v:=?vv55) rfl rfl (by kernel_rfl) (by kernel_rfl) (by kernel_rfl) (fun _ _ _ h=>h) (by rfl) (fun W hW=>?yv55) ?_
  case yv55=>
   go_simp
   rw[if_neg (by omega)]
   (try rfl)
  simp only[Act.put,List.setIfInBounds_toArray,List.set_cons_zero,List.set_cons_succ]
  refine grow_only 8 rfl (by kernel_rfl) (fun K hK=>?_)
  go_simp
  refine (hEv _).mono ?_
  rintro e w5 ⟨rfl,hb5⟩
  have HB5:=hide (HBd.out.trans (hb5.mono HBd.out.size))
  refine hK.out _ _ hb5 ?_
  clear hK K hb5
  try simp only[Act.put,List.setIfInBounds_toArray,List.set_cons_zero,List.set_cons_succ]
  refine grow_take 9 (some 17) (v:=?vv59) rfl rfl (by kernel_rfl) (by kernel_rfl) (by kernel_rfl) (fun _ _ _ h=>h) (by rfl) (fun W hW=>?yv59) ?_
  case yv59=>
   go_simp
   rw[if_neg (by omega)]
   (try rfl)
  simp only[Act.put,List.setIfInBounds_toArray,List.set_cons_zero,List.set_cons_succ]
  refine grow_take 10 (some 3) (v:=?vv510) rfl rfl (by kernel_rfl) (by kernel_rfl) (by kernel_rfl) (fun _ _ _ h=>h) (by rfl) (fun W hW=>?yv510) ?_
  case yv510=>
   go_simp<;>with_reducible rfl
  simp only[Act.put,List.setIfInBounds_toArray,List.set_cons_zero,List.set_cons_succ]
  refine grow_done (by kernel_rfl) ?_ _
  go_wp2
  go_ret
  exact⟨by rw[←HR.out];rfl,HB5.out⟩
 ·have hT:=FT.text_val 6 a v f l any ps (by omega)
  rw[hT] at hRV hlen
  have hzg:(txt (FT.sign 6)).size≤2:=by decide
  have HR:Hid (⟨#[40]⟩++(txt a++txt (FT.sign 6)++txt (FT.esc v))++⟨#[41]⟩=RV):=hide (by
   rw[←hRV,show (⟨#[40]⟩:ByteArray)=txt [40] from rfl,show (⟨#[41]⟩:ByteArray)=txt [41] from rfl,txt_app,txt_app,txt_app,txt_app]
   rfl)
  have hSg:=fun w=>rsign_any 6 w
  have hz2:(txt a++txt (FT.sign 6)).size≤202:=by rw[ByteArray.size_append];omega
  have hz3:(txt a++txt (FT.sign 6)++txt (FT.esc v)).size≤802:=by rw[ByteArray.size_append];omega
  clear hT hRV hlen hEf hEl hzf hzl HA Hm HB HD HP Hih Hnp HPa
  generalize txt (FT.esc v)=ev at *
  generalize txt (FT.sign 6)=sg at *
  generalize txt a=sa at *
  generalize txt v=sv at *
  generalize txt f=sf at *
  generalize txt l=sl at *
  go_enter Tryz.func25,Tryz.ntmps25
  go_wp2_with fail
  refine grow_begin (by kernel_rfl) ?_
  obtain⟨w1,hw1⟩:∃w1,(w.alloc (.cells #[.int .i64 6,.string sa,.string sv,.string sf,.string sl,.slice A m c,.slice D np dd] 25))=w1:=⟨_,rfl⟩
  rw[hw1] at hb0 HX ⊢
  have hdr:Below w1.heap.size w1 w1.drew:=(Below.refl _ _).drew
  have HXd:=hide (HX.out.below HX.out.lt hdr)
  have HBd:=hide (hb0.trans (hdr.mono hb0.size))
  clear HX hb0 hdr hw1 c0 c1 c2 c3 c4 c5 c6
  generalize w1.drew=w3 at *
  refine grow_take 0 (some 8) (v:=?vv60) rfl rfl (by kernel_rfl) (by kernel_rfl) (by kernel_rfl) (fun _ _ _ h=>h) (by rfl) (fun W hW=>?yv60) ?_
  case yv60=>
   go_simp<;>with_reducible rfl
  simp only[Act.put,List.setIfInBounds_toArray,List.set_cons_zero,List.set_cons_succ]
  refine grow_take 1 (some 9) (v:=?vv61) rfl rfl (by kernel_rfl) (by kernel_rfl) (by kernel_rfl) (fun _ _ _ h=>h) (by rfl) (fun W hW=>?yv61) ?_
  case yv61=>
   have h1:=(HXd.out.below HXd.out.lt hW).c1
   go_simp<;>with_reducible rfl
  simp only[Act.put,List.setIfInBounds_toArray,List.set_cons_zero,List.set_cons_succ]
  refine grow_take 2 (some 10) (v:=?vv62) rfl rfl (by kernel_rfl) (by kernel_rfl) (by kernel_rfl) (fun _ _ _ h=>h) (by rfl) (fun W hW=>?yv62) ?_
  case yv62=>
   go_simp<;>with_reducible rfl
  simp only[Act.put,List.setIfInBounds_toArray,List.set_cons_zero,List.set_cons_succ]
  refine grow_take 3 (some 11) (v:=?vv63) rfl rfl (by kernel_rfl) (by kernel_rfl) (by kernel_rfl) (fun _ _ _ h=>h) (by rfl) (fun W hW=>?yv63) ?_
  case yv63=>
   have h0:=(HXd.out.below HXd.out.lt hW).c0
   go_simp<;>with_reducible rfl
  simp only[Act.put,List.setIfInBounds_toArray,List.set_cons_zero,List.set_cons_succ]
  refine grow_take 6 (some 14) (v:=?vv66) rfl rfl (by kernel_rfl) (by kernel_rfl) (by kernel_rfl) (fun _ _ _ h=>h) (by rfl) (fun W hW=>?yv66) ?_
  case yv66=>
   go_simp<;>with_reducible rfl
  simp only[Act.put,List.setIfInBounds_toArray,List.set_cons_zero,List.set_cons_succ]
  refine grow_take 7 (some 15) (v:=?vv67) rfl rfl (by kernel_rfl) (by kernel_rfl) (by kernel_rfl) (fun _ _ _ h=>h) (by rfl) (fun W hW=>?yv67) ?_
  case yv67=>
   have h2:=(HXd.out.below HXd.out.lt hW).c2
   go_simp<;>with_reducible rfl
  simp only[Act.put,List.setIfInBounds_toArray,List.set_cons_zero,List.set_cons_succ]
  refine grow_only 4 rfl (by kernel_rfl) (fun K hK=>?_)
  go_simp
  refine (hSg _).mono ?_
  rintro e w4 ⟨rfl,hw4⟩
  obtain rfl:=hw4.symm
  refine hK.out _ _ (Below.refl _ _) ?_
  clear hK K hw4
  try simp only[Act.put,List.setIfInBounds_toArray,List.set_cons_zero,List.set_cons_succ]
  refine grow_take 5 (some 13) (v:=?vv65) rfl rfl (by kernel_rfl) (by kernel_rfl) (by kernel_rfl) (fun _ _ _ h=>h) (by rfl) (fun W hW=>?yv65) ?_
  case yv65=>
   go_simp
   rw[if_neg (by omega)]
   (try rfl)
  simp only[Act.put,List.setIfInBounds_toArray,List.set_cons_zero,List.set_cons_succ]
  refine grow_only 8 rfl (by kernel_rfl) (fun K hK=>?_)
  go_simp
  refine (hEv _).mono ?_
  rintro e w5 ⟨rfl,hb5⟩
  have HB5:=hide (HBd.out.trans (hb5.mono HBd.out.size))
  refine hK.out _ _ hb5 ?_
  clear hK K hb5
  try simp only[Act.put,List.setIfInBounds_toArray,List.set_cons_zero,List.set_cons_succ]
  refine grow_take 9 (some 17) (v:=?vv69) rfl rfl (by kernel_rfl) (by kernel_rfl) (by kernel_rfl) (fun _ _ _ h=>h) (by rfl) (fun W hW=>?yv69) ?_
  case yv69=>
   go_simp
   rw[if_neg (by omega)]
   (try rfl)
  simp only[Act.put,List.setIfInBounds_toArray,List.set_cons_zero,List.set_cons_succ]
  refine grow_take 10 (some 3) (v:=?vv610) rfl rfl (by kernel_rfl) (by kernel_rfl) (by kernel_rfl) (fun _ _ _ h=>h) (by rfl) (fun W hW=>?yv610) ?_
  case yv610=>
   go_simp<;>with_reducible rfl
  simp only[Act.put,List.setIfInBounds_toArray,List.set_cons_zero,List.set_cons_succ]
  refine grow_done (by kernel_rfl) ?_ _
  go_wp2
  go_ret
  exact⟨by rw[←HR.out];rfl,HB5.out⟩
 ·have hT:=FT.text_has a v f l any ps
  rw[hT] at hRV hlen
  have HR:Hid (⟨#[40]⟩++(txt a++⟨#[61,42]⟩)++⟨#[41]⟩=RV):=hide (by
   rw[←hRV,show (⟨#[40]⟩:ByteArray)=txt [40] from rfl,show (⟨#[41]⟩:ByteArray)=txt [41] from rfl,show (⟨#[61,42]⟩:ByteArray)=txt [61,42] from rfl,txt_app,txt_app,txt_app]
   rfl)
  have hz2:(txt a++⟨#[61,42]⟩).size≤202:=by rw[ByteArray.size_append];have:(⟨#[61,42]⟩:ByteArray).size=2:=rfl;omega
  clear hT hRV hlen hEf hEl hEv hzf hzl hzv HA Hm HB HD HP Hih Hnp HPa
  generalize txt a=sa at *
  generalize txt v=sv at *
  generalize txt f=sf at *
  generalize txt l=sl at *
  go_enter Tryz.func25,Tryz.ntmps25
  go_wp2
  go_ret
  exact⟨by rw[←HR.out];rfl,hb0⟩
 ·have hT:=FT.text_val 8 a v f l any ps (by omega)
  rw[hT] at hRV hlen
  have hzg:(txt (FT.sign 8)).size≤2:=by decide
  have HR:Hid (⟨#[40]⟩++(txt a++txt (FT.sign 8)++txt (FT.esc v))++⟨#[41]⟩=RV):=hide (by
   rw[←hRV,show (⟨#[40]⟩:ByteArray)=txt [40] from rfl,show (⟨#[41]⟩:ByteArray)=txt [41] from rfl,txt_app,txt_app,txt_app,txt_app]
   rfl)
  have hSg:=fun w=>rsign_any 8 w
  have hz2:(txt a++txt (FT.sign 8)).size≤202:=by rw[ByteArray.size_append];omega
  have hz3:(txt a++txt (FT.sign 8)++txt (FT.esc v)).size≤802:=by rw[ByteArray.size_append];omega
  clear hT hRV hlen hEf hEl hzf hzl HA Hm HB HD HP Hih Hnp HPa
  generalize txt (FT.esc v)=ev at *
  generalize txt (FT.sign 8)=sg at *
  generalize txt a=sa at *
  generalize txt v=sv at *
  generalize txt f=sf at *
  generalize txt l=sl at *
  go_enter Tryz.func25,Tryz.ntmps25
  go_wp2_with fail
  refine grow_begin (by kernel_rfl) ?_
  obtain⟨w1,hw1⟩:∃w1,(w.alloc (.cells #[.int .i64 8,.string sa,.string sv,.string sf,.string sl,.slice A m c,.slice D np dd] 25))=w1:=⟨_,rfl⟩
  rw[hw1] at hb0 HX ⊢
  have hdr:Below w1.heap.size w1 w1.drew:=(Below.refl _ _).drew
  have HXd:=hide (HX.out.below HX.out.lt hdr)
  have HBd:=hide (hb0.trans (hdr.mono hb0.size))
  clear HX hb0 hdr hw1 c0 c1 c2 c3 c4 c5 c6
  generalize w1.drew=w3 at *
  refine grow_take 0 (some 8) (v:=?vv80) rfl rfl (by kernel_rfl) (by kernel_rfl) (by kernel_rfl) (fun _ _ _ h=>h) (by rfl) (fun W hW=>?yv80) ?_
  case yv80=>
   go_simp<;>with_reducible rfl
  simp only[Act.put,List.setIfInBounds_toArray,List.set_cons_zero,List.set_cons_succ]
  refine grow_take 1 (some 9) (v:=?vv81) rfl rfl (by kernel_rfl) (by kernel_rfl) (by kernel_rfl) (fun _ _ _ h=>h) (by rfl) (fun W hW=>?yv81) ?_
  case yv81=>
   have h1:=(HXd.out.below HXd.out.lt hW).c1
   go_simp<;>with_reducible rfl
  simp only[Act.put,List.setIfInBounds_toArray,List.set_cons_zero,List.set_cons_succ]
  refine grow_take 2 (some 10) (v:=?vv82) rfl rfl (by kernel_rfl) (by kernel_rfl) (by kernel_rfl) (fun _ _ _ h=>h) (by rfl) (fun W hW=>?yv82) ?_
  case yv82=>
   go_simp<;>with_reducible rfl
  simp only[Act.put,List.setIfInBounds_toArray,List.set_cons_zero,List.set_cons_succ]
  refine grow_take 3 (some 11) (v:=?vv83) rfl rfl (by kernel_rfl) (by kernel_rfl) (by kernel_rfl) (fun _ _ _ h=>h) (by rfl) (fun W hW=>?yv83) ?_
  case yv83=>
   have h0:=(HXd.out.below HXd.out.lt hW).c0
   go_simp<;>with_reducible rfl
  simp only[Act.put,List.setIfInBounds_toArray,List.set_cons_zero,List.set_cons_succ]
  refine grow_take 6 (some 14) (v:=?vv86) rfl rfl (by kernel_rfl) (by kernel_rfl) (by kernel_rfl) (fun _ _ _ h=>h) (by rfl) (fun W hW=>?yv86) ?_
  case yv86=>
   go_simp<;>with_reducible rfl
  simp only[Act.put,List.setIfInBounds_toArray,List.set_cons_zero,List.set_cons_succ]
  refine grow_take 7 (some 15) (v:=?vv87) rfl rfl (by kernel_rfl) (by kernel_rfl) (by kernel_rfl) (fun _ _ _ h=>h) (by rfl) (fun W hW=>?yv87) ?_
  case yv87=>
   have h2:=(HXd.out.below HXd.out.lt hW).c2
   go_simp<;>with_reducible rfl
  simp only[Act.put,List.setIfInBounds_toArray,List.set_cons_zero,List.set_cons_succ]
  refine grow_only 4 rfl (by kernel_rfl) (fun K hK=>?_)
  go_simp
  refine (hSg _).mono ?_
  rintro e w4 ⟨rfl,hw4⟩
  obtain rfl:=hw4.symm
  refine hK.out _ _ (Below.refl _ _) ?_
  clear hK K hw4
  try simp only[Act.put,List.setIfInBounds_toArray,List.set_cons_zero,List.set_cons_succ]
  refine grow_take 5 (some 13) (v:=?vv85) rfl rfl (by kernel_rfl) (by kernel_rfl) (by kernel_rfl) (fun _ _ _ h=>h) (by rfl) (fun W hW=>?yv85) ?_
  case yv85=>
   go_simp
   rw[if_neg (by omega)]
   (try rfl)
  simp only[Act.put,List.setIfInBounds_toArray,List.set_cons_zero,List.set_cons_succ]
  refine grow_only 8 rfl (by kernel_rfl) (fun K hK=>?_)
  go_simp
  refine (hEv _).mono ?_
  rintro e w5 ⟨rfl,hb5⟩
  have HB5:=hide (HBd.out.trans (hb5.mono HBd.out.size))
  refine hK.out _ _ hb5 ?_
  clear hK K hb5
  try simp only[Act.put,List.setIfInBounds_toArray,List.set_cons_zero,List.set_cons_succ]
  refine grow_take 9 (some 17) (v:=?vv89) rfl rfl (by kernel_rfl) (by kernel_rfl) (by kernel_rfl) (fun _ _ _ h=>h) (by rfl) (fun W hW=>?yv89) ?_
  case yv89=>
   go_simp
   rw[if_neg (by omega)]
   (try rfl)
  simp only[Act.put,List.setIfInBounds_toArray,List.set_cons_zero,List.set_cons_succ]
  refine grow_take 10 (some 3) (v:=?vv810) rfl rfl (by kernel_rfl) (by kernel_rfl) (by kernel_rfl) (fun _ _ _ h=>h) (by rfl) (fun W hW=>?yv810) ?_
  case yv810=>
   go_simp<;>with_reducible rfl
  simp only[Act.put,List.setIfInBounds_toArray,List.set_cons_zero,List.set_cons_succ]
  refine grow_done (by kernel_rfl) ?_ _
  go_wp2
  go_ret
  exact⟨by rw[←HR.out];rfl,HB5.out⟩
noncomputable def FT.printV (t:FT):List UInt8 × Int:=if t.formed then (t.text,0) else ([],1)
theorem rfprint_any (t:FT) (hlen:t.formed=true→t.text.length≤10000000) (w:World) (u0 u1 u2 u3 u4 u5 u6:Value) (hF:FIn w w.heap.size t [u0,u1,u2,u3,u4,u5,u6]):
  Calls Tryz.prog 11 #[.agg #[u0,u1,u2,u3,u4,u5,u6]] w fun e w'=>e=.returned (.tuple #[.string (txt t.printV.1),.int .i64 t.printV.2])∧Below w.heap.size w w':=by
 have hF0:=hF
 cases t with
 | mk k a v f l any ps=>
 simp only[FIn] at hF
 obtain⟨A,c,D,dd,xs,hcs,_⟩:=hF
 cases hcs
 obtain⟨m,hm⟩:∃m,any.length=m:=⟨_,rfl⟩
 obtain⟨np,hnp⟩:∃np,ps.length=np:=⟨_,rfl⟩
 have hX:=Box7.new w k (txt a) (txt v) (txt f) (txt l) A any.length c D ps.length dd 25
 have hb0:=below1 w (.cells #[.int .i64 k,.string (txt a),.string (txt v),.string (txt f),.string (txt l),.slice A any.length c,.slice D ps.length dd] 25)
 rw[hm,hnp] at hX hb0 hF0 ⊢
 obtain⟨t0,ht0⟩:∃t0,FT.mk k a v f l any ps=t0:=⟨_,rfl⟩
 rw[ht0] at hF0 hlen ⊢
 have hF1:=hF0.grow hb0
 have hFo:=rfformed_any t0 _ _ _ _ _ _ _ _ hF1
 have HX:=hide hX
 have Hb0:=hide hb0
 have hTx:=fun h1 h2 w h=>rtext_any t0 h1 h2 w (.int .i64 k) (.string (txt a)) (.string (txt v)) (.string (txt f)) (.string (txt l)) (.slice A m c) (.slice D np dd) h
 clear hF0 hm hnp ht0
 generalize txt a=sa at *
 generalize txt v=sv at *
 generalize txt f=sf at *
 generalize txt l=sl at *
 obtain⟨_,c0,c1,c2,c3,c4,c5,c6⟩:=hX
 cases hfo:t0.formed with
 | false=>
  have hv:t0.printV=([],1):=by unfold FT.printV;rw[hfo];rfl
  rw[hv]
  rw[hfo] at hFo
  clear hTx hv hfo hlen hF1
  go_enter Tryz.func11,Tryz.ntmps11
  go_wp2_with (go_at_call 13;fail)
  refine hFo.mono ?_
  rintro e w2 ⟨rfl,hb2⟩
  have hb3:=Hb0.out.trans (hb2.mono Hb0.out.size)
  clear hFo hb2 hb0 c0 c1 c2 c3 c4 c5 c6
  go_wp2
  go_ret2
  exact⟨rfl,hb3⟩
 | true=>
  have hv:t0.printV=(t0.text,0):=by unfold FT.printV;rw[hfo];rfl
  have hall:t0.all=true:=by unfold FT.formed at hfo;simp only[Bool.and_eq_true] at hfo;exact hfo.2
  rw[hv]
  rw[hfo] at hFo
  have hl:=hlen hfo
  clear hv hfo hlen
  simp only
  have hTx2:=fun w h=>hTx hall hl w h
  generalize txt t0.text=Y at *
  clear hTx
  go_enter Tryz.func11,Tryz.ntmps11
  go_wp2_with (go_at_call 13;fail)
  refine hFo.mono ?_
  rintro e w2 ⟨rfl,hb2⟩
  have hX2:=HX.out.below HX.out.lt hb2
  have hT2:=hTx2 w2 (hF1.grow hb2)
  have hb3:=Hb0.out.trans (hb2.mono Hb0.out.size)
  clear hFo hb2 hb0 c0 c1 c2 c3 c4 c5 c6 hTx2 hF1 HX Hb0
  obtain⟨_,c0,c1,c2,c3,c4,c5,c6⟩:=hX2
  go_wp2_with (go_at_call 25;fail)
  refine hT2.mono ?_
  rintro e w4 ⟨rfl,hb4⟩
  have hb5:=hb3.trans (hb4.mono hb3.size)
  clear hT2 hb4 hb3 c0 c1 c2 c3 c4 c5 c6
  go_wp2
  go_ret2
  exact⟨rfl,hb5⟩
end Go.Proofs.YtaolhefllfnmiaaGreatDoor
