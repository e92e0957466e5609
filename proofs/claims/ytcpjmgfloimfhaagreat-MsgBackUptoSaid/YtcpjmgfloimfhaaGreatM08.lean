/- Several texts in one: JAlone, JForm. By an AI agent. -/
import Derived.Test.YtcpjmgfloimfhaaGreatM07
set_option linter.unusedSimpArgs false
set_option linter.unusedVariables false
set_option maxRecDepth 100000
set_option maxHeartbeats 64000000
namespace Go.Proofs.YtcpjmgfloimfhaaGreat
open Go.RowKit
theorem jletter_any (c:UInt8) (w:World):Calls Tryz.prog 164 #[.int .u8 (c.toNat:Int)] w fun e w'=>e=.returned (.bool (FT.letter c))/\w'=w:=by
 have hlt:c.toNat<256:=c.toNat_lt
 obtain⟨b,hb⟩:∃b,FT.letter c=b:=⟨_,rfl⟩
 rw[hb]
 unfold FT.letter at hb
 generalize c.toNat=n at *
 by_cases h1:97<=n
 ·have z1:(97:Int)<=(n:Int):=by omega
  by_cases h2:n<=122
  ·have z2:(n:Int)<=122:=by omega
   obtain rfl:b=true:=by rw[<-hb];simp;omega
   clear hb h1 h2
   go_enter Tryz.func164,Tryz.ntmps164
   go_wp2
   go_ret
   exact⟨rfl,rfl⟩
  ·have z2:¬((n:Int)<=122):=by omega
   have z3:(65:Int)<=(n:Int):=by omega
   have z4:¬((n:Int)<=90):=by omega
   obtain rfl:b=false:=by rw[<-hb];simp;omega
   clear hb h1 h2
   go_enter Tryz.func164,Tryz.ntmps164
   go_wp2
   go_ret
   exact⟨rfl,rfl⟩
 ·have z1:¬((97:Int)<=(n:Int)):=by omega
  by_cases h3:65<=n
  ·have z3:(65:Int)<=(n:Int):=by omega
   by_cases h4:n<=90
   ·have z4:(n:Int)<=90:=by omega
    obtain rfl:b=true:=by rw[<-hb];simp;omega
    clear hb h1 h3 h4
    go_enter Tryz.func164,Tryz.ntmps164
    go_wp2
    go_ret
    exact⟨rfl,rfl⟩
   ·have z4:¬((n:Int)<=90):=by omega
    obtain rfl:b=false:=by rw[<-hb];simp;omega
    clear hb h1 h3 h4
    go_enter Tryz.func164,Tryz.ntmps164
    go_wp2
    go_ret
    exact⟨rfl,rfl⟩
  ·have z3:¬((65:Int)<=(n:Int)):=by omega
   obtain rfl:b=false:=by rw[<-hb];simp;omega
   clear hb h1 h3
   go_enter Tryz.func164,Tryz.ntmps164
   go_wp2
   go_ret
   exact⟨rfl,rfl⟩
theorem jdigit_any (c:UInt8) (w:World):Calls Tryz.prog 165 #[.int .u8 (c.toNat:Int)] w fun e w'=>e=.returned (.bool (48<=c.toNat&&c.toNat<=57))/\w'=w:=by
 have hlt:c.toNat<256:=c.toNat_lt
 obtain⟨b,hb⟩:∃b,(decide (48<=c.toNat)&&decide (c.toNat<=57))=b:=⟨_,rfl⟩
 rw[hb]
 generalize c.toNat=n at *
 by_cases h1:48<=n
 ·have z1:(48:Int)<=(n:Int):=by omega
  by_cases h2:n<=57
  ·have z2:(n:Int)<=57:=by omega
   obtain rfl:b=true:=by rw[<-hb];simp;omega
   clear hb h1 h2
   go_enter Tryz.func165,Tryz.ntmps165
   go_wp2
   go_ret
   exact⟨rfl,rfl⟩
  ·have z2:¬((n:Int)<=57):=by omega
   obtain rfl:b=false:=by rw[<-hb];simp;omega
   clear hb h1 h2
   go_enter Tryz.func165,Tryz.ntmps165
   go_wp2
   go_ret
   exact⟨rfl,rfl⟩
 ·have z1:¬((48:Int)<=(n:Int)):=by omega
  obtain rfl:b=false:=by rw[<-hb];simp;omega
  clear hb h1
  go_enter Tryz.func165,Tryz.ntmps165
  go_wp2
  go_ret
  exact⟨rfl,rfl⟩
theorem jfits_any (t:List UInt8) (w:World):Calls Tryz.prog 142 #[.string (txt t)] w fun e w'=>e=.returned (.bool (FT.fits t))/\w'=w:=by
 have hsz:=zBt t
 obtain⟨b,hb⟩:∃b,FT.fits t=b:=⟨_,rfl⟩
 rw[hb]
 unfold FT.fits at hb
 generalize t.length=n at *
 generalize txt t=X at *
 by_cases h1:1<=n
 ·have z1:(1:Int)<=(X.size:Int):=by omega
  by_cases h2:n<=200
  ·have z2:(X.size:Int)<=200:=by omega
   obtain rfl:b=true:=by rw[<-hb];simp;omega
   clear hb h1 h2 hsz
   go_enter Tryz.func142,Tryz.ntmps142
   go_wp2
   go_ret
   exact⟨rfl,rfl⟩
  ·have z2:¬((X.size:Int)<=200):=by omega
   obtain rfl:b=false:=by rw[<-hb];simp;omega
   clear hb h1 h2 hsz
   go_enter Tryz.func142,Tryz.ntmps142
   go_wp2
   go_ret
   exact⟨rfl,rfl⟩
 ·have z1:¬((1:Int)<=(X.size:Int)):=by omega
  obtain rfl:b=false:=by rw[<-hb];simp;omega
  clear hb h1 hsz
  go_enter Tryz.func142,Tryz.ntmps142
  go_wp2
  go_ret
  exact⟨rfl,rfl⟩
theorem jattr_any (t:List UInt8) (w:World):Calls Tryz.prog 139 #[.string (txt t)] w fun e w'=>e=.returned (.bool (FT.attrOk t))/\w'=w:=by
 have hsz:=zBt t
 have htb:=zBo t
 have HL:=hide (fun c w=>jletter_any c w)
 have HDg:=hide (fun c w=>jdigit_any c w)
 obtain⟨b,hb⟩:∃b,FT.attrOk t=b:=⟨_,rfl⟩
 rw[hb]
 have hat:=txt_at t
 have Hb:=hide hb
 by_cases h1:t.length<1
 ·have z1:((txt t).toList==[])=true:=by rw[htb];cases t with | nil=>rfl | cons x r=>simp at h1
  obtain rfl:b=false:=by rw[<-hb];unfold FT.attrOk;simp;omega
  clear hb hat HL htb
  generalize txt t=X at *
  go_enter Tryz.func139,Tryz.ntmps139
  go_wp2
  go_ret
  exact⟨rfl,rfl⟩
 have z1:((txt t).toList==[])=false:=by rw[htb];cases t with | nil=>simp at h1 | cons x r=>rfl
 by_cases h2:40<t.length
 ·have z2:(40:Int)<((txt t).size:Int):=by omega
  obtain rfl:b=false:=by rw[<-hb];unfold FT.attrOk;simp;omega
  clear hb hat HL htb
  generalize txt t=X at *
  go_enter Tryz.func139,Tryz.ntmps139
  go_wp2
  go_ret
  exact⟨rfl,rfl⟩
 have z2:¬((40:Int)<((txt t).size:Int)):=by omega
 have z0:(0:Int)<((txt t).size:Int):=by omega
 have n0:0<(txt t).size:=by omega
 obtain⟨x0,hx0⟩:∃x0,t[0]?=some x0:=⟨_,List.getElem?_eq_getElem (by omega)⟩
 have ha0:=hat 0 n0 x0 hx0
 have hok:FT.attrOk t=(FT.letter x0&&t.all FT.sign8):=by
  unfold FT.attrOk
  have e1:t.headD 0=x0:=by cases t with | nil=>simp at hx0 | cons a r=>simpa using hx0
  rw[e1]
  have e2:decide (1<=t.length)=true:=by simp;omega
  have e3:decide (t.length<=40)=true:=by simp;omega
  rw[e2,e3]
  simp
 rw[hok] at Hb
 have hlen:t.length<=40:=by omega
 obtain⟨n,hn⟩:∃n,t.length=n:=⟨_,rfl⟩
 have Hn:=hide hn
 have hX:(txt t).size=n:=by omega
 have hn40:n<=40:=by omega
 have Hat:=hide hat
 clear hb hok h1 h2 hlen hx0 hn hat htb
 generalize txt t=X at *
 clear hsz
 cases hl0:FT.letter x0 with
 | false=>
  rw[hl0] at Hb
  obtain rfl:b=false:=by rw[<-Hb.out];rfl
  have hcall:=HL.out x0 w
  rw[hl0] at hcall
  rw[<-ha0] at hcall
  clear HL Hat Hn hl0 ha0
  go_enter Tryz.func139,Tryz.ntmps139
  go_wp2_with (go_at_call 164;fail)
  refine hcall.mono ?_
  rintro e w1 ⟨rfl,hw1⟩
  obtain rfl:=hw1.symm
  clear hcall hw1
  go_wp2
  go_ret
  exact⟨rfl,rfl⟩
 | true=>
  rw[hl0,Bool.true_and] at Hb
  have hcall:=HL.out x0 w
  rw[hl0] at hcall
  rw[<-ha0] at hcall
  clear hl0 ha0
  go_enter Tryz.func139,Tryz.ntmps139
  go_wp2_with (go_at_call 164;fail)
  refine hcall.mono ?_
  rintro e w1 ⟨rfl,hw1⟩
  obtain rfl:=hw1.symm
  clear hcall hw1
  go_wp2
  go_loopg [20] n (fun r s20 wx=>∃i:Nat,i+r=n/\s20=.int .i64 (i:Int)/\wx=w/\Hid (∀x∈t.take i,FT.sign8 x=true))
  case atStart=>exact⟨0,by omega,rfl,rfl,hide (fun x hx=>by simp at hx)⟩
  case round=>
   obtain⟨i,hig,rfl,hw2,hpre⟩:=hrel
   obtain rfl:=hw2.symm
   clear hw2
   cases gk with
   | zero=>
    obtain rfl:i=n:=by omega
    have hiz:¬((i:Int)<(X.size:Int)):=by omega
    have hbt:Hid (b=true):=hide (by
     rw[<-Hb.out]
     have:=hpre.out
     rw[List.take_of_length_le (by rw[Hn.out];exact Nat.le_refl _)] at this
     rwa [List.all_eq_true])
    clear HL HDg Hat Hn hpre Hb
    go_wp2
    go_ret
    exact⟨by rw[hbt.out];rfl,rfl⟩
   | succ r=>
    have hi:i<n:=by omega
    have hiX:i<X.size:=by omega
    have hiz:(i:Int)<(X.size:Int):=by omega
    obtain⟨x,hx⟩:∃x,t[i]?=some x:=⟨_,List.getElem?_eq_getElem (by rw[Hn.out];exact hi)⟩
    have hax:=Hat.out i hiX x hx
    have hcall:=HL.out x w
    have hcall2:=HDg.out x w
    have hyes:FT.sign8 x=true->Hid (∀y∈t.take (i+1),FT.sign8 y=true):=fun h=>hide (fun y hy=>by
     rw[List.take_add_one,hx] at hy
     simp only[Option.toList_some,List.mem_append,List.mem_singleton] at hy
     rcases hy with hy | rfl
     ·exact hpre.out y hy
     ·exact h)
    have hno:FT.sign8 x=false->Hid (b=false):=fun h=>hide (by
     rw[<-Hb.out,List.all_eq_false]
     exact⟨x,List.mem_of_getElem? hx,by rw[h];exact Bool.false_ne_true⟩)
    have hs8:FT.sign8 x=(FT.letter x||(decide (48<=x.toNat)&&decide (x.toNat<=57))||x.toNat==45):=rfl
    obtain⟨lt,hlt⟩:∃lt,FT.letter x=lt:=⟨_,rfl⟩
    obtain⟨dg,hdg⟩:∃dg,(decide (48<=x.toNat)&&decide (x.toNat<=57))=dg:=⟨_,rfl⟩
    obtain⟨mi,hmi⟩:∃mi,((x.toNat:Int)==45)=mi:=⟨_,rfl⟩
    have hmi2:(x.toNat==45)=mi:=by
     rw[<-hmi]
     by_cases h:x.toNat=45
     ·rw [h];rfl
     ·rw [beq_false_of_ne h,beq_false_of_ne (by omega)]
    rw[hlt,hdg,hmi2] at hs8
    rw[hs8] at hyes hno
    have hmn:((x.toNat:Int)!=45)= !mi:=by unfold bne;rw[hmi]
    have HY:=hide hyes
    have HN:=hide hno
    rw[hlt] at hcall
    rw[hdg] at hcall2
    rw[<-hax] at hcall hcall2 hmi hmn
    clear hyes hno HL HDg Hat Hn hpre Hb hx hs8 hlt hdg hmi2 hax
    cases lt with
    | true=>
     have hst:=HY.out (by rfl)
     clear HY HN hcall2
     go_wp2_with (go_at_call 164;fail)
     refine hcall.mono ?_
     rintro e w1 ⟨rfl,hw1⟩
     obtain rfl:=hw1.symm
     clear hcall hw1
     go_wp2
     go_roundg r
     case measure=>omega
     case rel=>exact⟨i+1,by omega,by go_num,rfl,hst⟩
    | false=>
     go_wp2_with (go_at_call 164;fail)
     refine hcall.mono ?_
     rintro e w1 ⟨rfl,hw1⟩
     obtain rfl:=hw1.symm
     clear hcall hw1
     go_wp2_with (go_at_call 165;fail)
     refine hcall2.mono ?_
     rintro e w1 ⟨rfl,hw1⟩
     obtain rfl:=hw1.symm
     clear hcall2 hw1
     cases dg with
     | true=>
      have hst:=HY.out (by rfl)
      clear HY HN
      go_wp2
      go_roundg r
      case measure=>omega
      case rel=>exact⟨i+1,by omega,by go_num,rfl,hst⟩
     | false=>
      cases mi with
      | true=>
       have hst:=HY.out (by rfl)
       clear HY HN
       go_wp2
       go_roundg r
       case measure=>omega
       case rel=>exact⟨i+1,by omega,by go_num,rfl,hst⟩
      | false=>
       have hst:=HN.out (by rfl)
       clear HY HN
       go_wp2
       go_ret
       exact⟨by rw[hst.out];rfl,rfl⟩
structure IdxPost (b:Bool) (w:World) (e:Ending) (w':World):Prop where
 out:∃r:Int,e=.returned (.int .i64 r)/\ -1<=r/\decide (0<=r)=b/\Below w.heap.size w w'
theorem jindex_any (g:Nat) (lb:Array Value) (eg:∀args w,(callFunc g args).run Tryz.prog w=.ok (.enter g args) w) (p:List UInt8->Bool) (L:List (List UInt8)) (w:World) (B:Nat) (hB:B<=w.heap.size) (A:Option Addr) (n c:Nat) (hA:Has w B 1 A n (strs L)) (hn:n<=9223372036854775807)
  (hp:∀(W:World) (x:List UInt8),x∈L->Below w.heap.size w W->Calls Tryz.prog g (#[.string (txt x)]++lb) W fun e w'=>e=.returned (.bool (p x))/\Below W.heap.size W w'):
  Calls Tryz.prog 178 #[.slice A n c,.func (.func g) #[] lb] w (IdxPost (L.any p) w):=by
 have h1:=hA.strs_n
 have hn1:(n:Int)<=9223372036854775807:=by omega
 obtain⟨R,hR⟩:∃R,L.any p=R:=⟨_,rfl⟩
 rw[hR]
 have HR:=hide hR
 have HA:=hide hA
 have HN:=hide h1
 have HP:=hide hp
 have HBB:=hide hB
 clear hA h1 hp hn hB hR
 go_enter Tryz.func178,Tryz.ntmps178
 go_wp2
 go_loopg [8] n (fun r s8 wx=>∃i:Nat,i+r=n/\s8=.int .i64 (i:Int)/\Hid (Below w.heap.size w wx)/\Hid (∀x∈L.take i,p x=false))
 case atStart=>exact⟨0,by omega,rfl,hide (Below.refl _ _),hide (fun x hx=>by simp at hx)⟩
 case round=>
  obtain⟨i,hig,rfl,hbr,hpre⟩:=hrel
  cases gk with
  | zero=>
   obtain rfl:i=n:=by omega
   have hiz:¬((i:Int)<(i:Int)):=by omega
   have hbt:Hid (R=false):=hide (by
    rw[<-HR.out]
    have:=hpre.out
    rw[List.take_of_length_le (by rw[<-HN.out];exact Nat.le_refl _)] at this
    rw[List.any_eq_false]
    exact fun x hx=>by rw[this x hx];exact Bool.false_ne_true)
   clear HA HN HP hpre HR
   go_wp2
   go_ret
   exact⟨⟨-1,rfl,by omega,by rw[hbt.out];rfl,hbr.out⟩⟩
  | succ r=>
   have hi:i<n:=by omega
   have hiz:(i:Int)<(n:Int):=by omega
   obtain⟨x,hx⟩:∃x,L[i]?=some x:=⟨_,List.getElem?_eq_getElem (by rw[<-HN.out];exact hi)⟩
   obtain⟨gg,o,hAe,hg,hc⟩:=HA.out.texts (fun h=>by rw[h] at hx;simp at hx)
   subst hAe
   have x0:=(hbr.out.cell (p:=⟨gg,o+i,none⟩) (Nat.lt_of_lt_of_le hg HBB.out)).trans (hc i x hx)
   have hcall:=HP.out wr x (List.mem_of_getElem? hx) hbr.out
   cases hpx:p x with
   | true=>
    have hst:Hid (R=true):=hide (by rw[<-HR.out,List.any_eq_true];exact⟨x,List.mem_of_getElem? hx,hpx⟩)
    rw[hpx] at hcall
    generalize txt x=X at *
    clear HA HN HP hpre HR hpx hx hc
    go_wp2_with (go_at_fn g;fail)
    refine hcall.mono ?_
    rintro e w2 ⟨rfl,hb2⟩
    have hb3:=hbr.out.trans (hb2.mono hbr.out.size)
    clear hcall hb2
    go_wp2
    go_ret
    exact⟨⟨i,rfl,by omega,by rw[hst.out];simp,hb3⟩⟩
   | false=>
    have hst:Hid (∀y∈L.take (i+1),p y=false):=hide (fun y hy=>by
     rw[List.take_add_one,hx] at hy
     simp only[Option.toList_some,List.mem_append,List.mem_singleton] at hy
     rcases hy with hy | rfl
     ·exact hpre.out y hy
     ·exact hpx)
    rw[hpx] at hcall
    generalize txt x=X at *
    clear HA HN HP hpre HR hpx hx hc
    go_wp2_with (go_at_fn g;fail)
    refine hcall.mono ?_
    rintro e w2 ⟨rfl,hb2⟩
    have hb3:=hT hbr hb2
    clear hcall hb2 hbr
    go_wp2
    go_roundg r
    case measure=>omega
    case rel=>exact⟨i+1,by omega,by go_num,hb3,hst⟩
theorem jcontains_any (g:Nat) (lb:Array Value) (eg:∀args w,(callFunc g args).run Tryz.prog w=.ok (.enter g args) w) (p:List UInt8->Bool) (L:List (List UInt8)) (w:World) (B:Nat) (hB:B<=w.heap.size) (A:Option Addr) (n c:Nat) (hA:Has w B 1 A n (strs L)) (hn:n<=9223372036854775807)
  (hp:∀(W:World) (x:List UInt8),x∈L->Below w.heap.size w W->Calls Tryz.prog g (#[.string (txt x)]++lb) W fun e w'=>e=.returned (.bool (p x))/\Below W.heap.size W w'):
  Calls Tryz.prog 166 #[.slice A n c,.func (.func g) #[] lb] w fun e w'=>e=.returned (.bool (L.any p))/\Below w.heap.size w w':=by
 have hcall:=jindex_any g lb eg p L w B hB A n c hA hn hp
 obtain⟨R,hR⟩:∃R,L.any p=R:=⟨_,rfl⟩
 rw[hR] at hcall ⊢
 clear hA hp hR hn hB
 go_enter Tryz.func166,Tryz.ntmps166
 go_wp2_with (go_at_call 178;fail)
 refine hcall.mono ?_
 rintro e w2 hpost
 obtain⟨r,rfl,h1,h2,hb⟩:=hpost.out
 have H2:=hide h2
 clear hcall hpost h2
 cases R with
 | true=>
  have z:(0:Int)<=r:=by have:=H2.out;simpa using this
  go_wp2
  go_ret
  exact⟨by rfl,hb⟩
 | false=>
  have z:¬((0:Int)<=r):=by have:=H2.out;simpa using this
  have z2:decide ((0:Int)<=r)=false:=decide_eq_false z
  go_wp2
  go_ret
  exact⟨by rfl,hb⟩
namespace FT
def hasP:FT->Bool | .mk k a v f l any ps=> !plain0 f l any
def justP:FT->Bool | .mk k a v f l any ps=>a==[]&&v==[]&&plain0 f l any
def okP:FT->Bool | .mk k a v f l any ps=>decide (f.length<=200)&&decide (l.length<=200)&&any.all fits
end FT
theorem jhas_any (t:FT) (w:World) (u0 u1 u2 u3 u4 u5 u6:Value) (hF:FIn w w.heap.size t [u0,u1,u2,u3,u4,u5,u6]):
  Calls Tryz.prog 140 #[.agg #[u0,u1,u2,u3,u4,u5,u6]] w fun e w'=>e=.returned (.bool t.hasP)/\Below w.heap.size w w':=by
 cases t with
 | mk k a v f l any ps=>
 have hF0:=hF
 simp only[FIn] at hF
 obtain⟨A,c,D,dd,xs,hcs,⟨hml,hnl⟩,hA,hD,hP⟩:=hF
 cases hcs
 unfold maxLen at hml hnl
 obtain⟨m,hm⟩:∃m,any.length=m:=⟨_,rfl⟩
 obtain⟨np,hnp⟩:∃np,ps.length=np:=⟨_,rfl⟩
 have hml1:(m:Int)<=9223372036854775807:=by omega
 have hnl1:(np:Int)<=9223372036854775807:=by omega
 have hX:=Box7.new w k (txt a) (txt v) (txt f) (txt l) A any.length c D ps.length dd 39
 have hb0:=below1 w (.cells #[.int .i64 k,.string (txt a),.string (txt v),.string (txt f),.string (txt l),.slice A any.length c,.slice D ps.length dd] 39)
 obtain⟨w1,hw1⟩:∃w1,(w.alloc (.cells #[.int .i64 k,.string (txt a),.string (txt v),.string (txt f),.string (txt l),.slice A any.length c,.slice D ps.length dd] 39))=w1:=⟨_,rfl⟩
 rw[hw1] at hX hb0
 have hF1:=hF0.grow hb0
 have hA1:=(hA.below hb0).upto hb0.size
 rw[hm,hnp] at hX hw1 hF1 ⊢
 rw[hm] at hA1
 have Hw1:=hide hw1
 have hpb:FT.hasP (.mk k a v f l any ps)= !FT.plain0 f l any:=rfl
 rw[hpb]
 obtain⟨pb,hpb⟩:∃pb,FT.plain0 f l any=pb:=⟨_,rfl⟩
 rw[hpb]
 have Hpb:=hide hpb
 have Hef:=hide (zBo f)
 have Hel:=hide (zBo l)
 have Hm:=hide hm
 clear hF0 hF1 hA1 hA hD hP hpb hm hnp hw1 hml hnl
 generalize txt a=sa at *
 generalize txt v=sv at *
 generalize txt f=sf at *
 generalize txt l=sl at *
 obtain⟨_,c0,c1,c2,c3,c4,c5,c6⟩:=hX
 go_enter Tryz.func140,Tryz.ntmps140
 go_upto_region 1 with fail
 rw[Hw1.out]
 have hpb:=Hpb.out
 by_cases h1:f=[]
 ·subst h1
  have e1:(sf.toList==[])=true:=by rw[Hef.out];rfl
  have e1':(sf.toList !=[])=false:=by unfold bne;rw[e1];rfl
  by_cases h2:l=[]
  ·subst h2
   have e2:(sl.toList==[])=true:=by rw[Hel.out];rfl
   have e2':(sl.toList !=[])=false:=by unfold bne;rw[e2];rfl
   by_cases h3:any=[]
   ·subst h3
    obtain rfl:m=0:=by rw[<-Hm.out];rfl
    obtain rfl:pb=true:=by rw[<-hpb];rfl
    clear hpb Hpb Hef Hel Hm Hw1
    go_wp2
    go_ret
    exact⟨rfl,hb0⟩
   ·have z3:(0:Int)<(m:Int):=by have:=List.length_pos_iff.2 h3;have:=Hm.out;omega
    obtain rfl:pb=false:=by rw[<-hpb];unfold FT.plain0;simp[h3]
    have z4:0<m:=by omega
    clear hpb Hpb Hef Hel Hm Hw1 h3
    go_wp2
    go_ret
    exact⟨rfl,hb0⟩
  ·have e2:(sl.toList==[])=false:=by rw[Hel.out];simpa using h2
   have e2':(sl.toList !=[])=true:=by unfold bne;rw[e2];rfl
   obtain rfl:pb=false:=by rw[<-hpb];unfold FT.plain0;simp[h2]
   clear hpb Hpb Hef Hel Hm Hw1 h2
   go_wp2
   go_ret
   exact⟨rfl,hb0⟩
 ·have e1:(sf.toList==[])=false:=by rw[Hef.out];simpa using h1
  have e1':(sf.toList !=[])=true:=by unfold bne;rw[e1];rfl
  obtain rfl:pb=false:=by rw[<-hpb];unfold FT.plain0;simp[h1]
  clear hpb Hpb Hef Hel Hm Hw1 h1
  go_wp2
  go_ret
  exact⟨rfl,hb0⟩
theorem jjust_any (t:FT) (w:World) (u0 u1 u2 u3 u4 u5 u6:Value) (hF:FIn w w.heap.size t [u0,u1,u2,u3,u4,u5,u6]):
  Calls Tryz.prog 138 #[.agg #[u0,u1,u2,u3,u4,u5,u6]] w fun e w'=>e=.returned (.bool t.justP)/\Below w.heap.size w w':=by
 cases t with
 | mk k a v f l any ps=>
 have hF0:=hF
 simp only[FIn] at hF
 obtain⟨A,c,D,dd,xs,hcs,⟨hml,hnl⟩,hA,hD,hP⟩:=hF
 cases hcs
 unfold maxLen at hml hnl
 obtain⟨m,hm⟩:∃m,any.length=m:=⟨_,rfl⟩
 obtain⟨np,hnp⟩:∃np,ps.length=np:=⟨_,rfl⟩
 have hml1:(m:Int)<=9223372036854775807:=by omega
 have hnl1:(np:Int)<=9223372036854775807:=by omega
 have hX:=Box7.new w k (txt a) (txt v) (txt f) (txt l) A any.length c D ps.length dd 39
 have hb0:=below1 w (.cells #[.int .i64 k,.string (txt a),.string (txt v),.string (txt f),.string (txt l),.slice A any.length c,.slice D ps.length dd] 39)
 obtain⟨w1,hw1⟩:∃w1,(w.alloc (.cells #[.int .i64 k,.string (txt a),.string (txt v),.string (txt f),.string (txt l),.slice A any.length c,.slice D ps.length dd] 39))=w1:=⟨_,rfl⟩
 rw[hw1] at hX hb0
 have hF1:=hF0.grow hb0
 have hA1:=(hA.below hb0).upto hb0.size
 rw[hm,hnp] at hX hw1 hF1 ⊢
 rw[hm] at hA1
 have Hw1:=hide hw1
 have hcall:=jhas_any _ w1 _ _ _ _ _ _ _ hF1
 have hpb:FT.hasP (.mk k a v f l any ps)= !FT.plain0 f l any:=rfl
 have hjb:FT.justP (.mk k a v f l any ps)=(a==[]&&v==[]&&FT.plain0 f l any):=rfl
 rw[hpb] at hcall
 rw[hjb]
 obtain⟨pb,hpb⟩:∃pb,FT.plain0 f l any=pb:=⟨_,rfl⟩
 obtain⟨a0,ha0⟩:∃a0,(a==[])=a0:=⟨_,rfl⟩
 obtain⟨v0,hv0⟩:∃v0,(v==[])=v0:=⟨_,rfl⟩
 rw[hpb] at hcall
 rw[hpb,ha0,hv0]
 have ea:((txt a).toList==[])=a0:=by rw[zBo];exact ha0
 have ev:((txt v).toList==[])=v0:=by rw[zBo];exact hv0
 clear hF0 hF1 hA1 hA hD hP hpb hjb hm hnp hw1 hml hnl ha0 hv0
 generalize txt a=sa at *
 generalize txt v=sv at *
 generalize txt f=sf at *
 generalize txt l=sl at *
 obtain⟨_,c0,c1,c2,c3,c4,c5,c6⟩:=hX
 go_enter Tryz.func138,Tryz.ntmps138
 go_upto_region 1 with fail
 rw[Hw1.out]
 clear Hw1
 cases a0 with
 | false=>
  go_wp2
  go_ret
  exact⟨rfl,hb0⟩
 | true=>
  cases v0 with
  | false=>
   go_wp2
   go_ret
   exact⟨rfl,hb0⟩
  | true=>
   go_wp2_with (go_at_call 140;fail)
   refine hcall.mono ?_
   rintro e w2 ⟨rfl,hb2⟩
   have hb3:=hb0.trans (hb2.mono hb0.size)
   clear hcall hb2 hb0 c0 c1 c2 c3 c4 c5 c6
   cases pb<;>(go_wp2;go_ret;exact⟨rfl,hb3⟩)
theorem jlong_any (t:List UInt8) (w:World):Calls Tryz.prog 167 #[.string (txt t)] w fun e w'=>e=.returned (.bool (!FT.fits t))/\w'=w:=by
 have hcall:=jfits_any t w
 obtain⟨b,hb⟩:∃b,FT.fits t=b:=⟨_,rfl⟩
 rw[hb] at hcall ⊢
 clear hb
 generalize txt t=X at *
 go_enter Tryz.func167,Tryz.ntmps167
 go_wp2_with (go_at_call 142;fail)
 refine hcall.mono ?_
 rintro e w1 ⟨rfl,hw1⟩
 obtain rfl:=hw1.symm
 clear hcall hw1
 go_wp2
 go_ret
 exact⟨rfl,rfl⟩
theorem jokp_any (t:FT) (w:World) (u0 u1 u2 u3 u4 u5 u6:Value) (hF:FIn w w.heap.size t [u0,u1,u2,u3,u4,u5,u6]):
  Calls Tryz.prog 141 #[.agg #[u0,u1,u2,u3,u4,u5,u6]] w fun e w'=>e=.returned (.bool t.okP)/\Below w.heap.size w w':=by
 cases t with
 | mk k a v f l any ps=>
 have hF0:=hF
 simp only[FIn] at hF
 obtain⟨A,c,D,dd,xs,hcs,⟨hml,hnl⟩,hA,hD,hP⟩:=hF
 cases hcs
 unfold maxLen at hml hnl
 obtain⟨m,hm⟩:∃m,any.length=m:=⟨_,rfl⟩
 obtain⟨np,hnp⟩:∃np,ps.length=np:=⟨_,rfl⟩
 have hml1:(m:Int)<=9223372036854775807:=by omega
 have hnl1:(np:Int)<=9223372036854775807:=by omega
 have hX:=Box7.new w k (txt a) (txt v) (txt f) (txt l) A any.length c D ps.length dd 39
 have hb0:=below1 w (.cells #[.int .i64 k,.string (txt a),.string (txt v),.string (txt f),.string (txt l),.slice A any.length c,.slice D ps.length dd] 39)
 obtain⟨w1,hw1⟩:∃w1,(w.alloc (.cells #[.int .i64 k,.string (txt a),.string (txt v),.string (txt f),.string (txt l),.slice A any.length c,.slice D ps.length dd] 39))=w1:=⟨_,rfl⟩
 rw[hw1] at hX hb0
 have hF1:=hF0.grow hb0
 have hA1:=(hA.below hb0).upto hb0.size
 rw[hm,hnp] at hX hw1 hF1 ⊢
 rw[hm] at hA1
 have Hw1:=hide hw1
 have hcall:=jcontains_any 167 #[] (fun _ _=>rfl) (fun x=> !FT.fits x) any w1 w1.heap.size (Nat.le_refl _) A m c hA1 (by omega) (fun W x _ hb=>((jlong_any x W).mono (fun e w' h=>⟨h.1,by rw[h.2];exact Below.refl _ _⟩)))
 have hpb:FT.okP (.mk k a v f l any ps)=(decide (f.length<=200)&&decide (l.length<=200)&&any.all FT.fits):=rfl
 rw[hpb]
 obtain⟨xo,hxo⟩:∃xo,any.any (fun x=> !FT.fits x)=xo:=⟨_,rfl⟩
 have hao:any.all FT.fits= !xo:=by rw[<-hxo,List.not_any_eq_all_not];simp
 rw[hxo] at hcall
 rw[hao]
 have hlf:=zBt f
 have hll:=zBt l
 generalize hfb:decide (f.length<=200)=fb
 generalize hlb:decide (l.length<=200)=lb
 have hf2:fb=true->((txt f).size:Int)<=200:=fun h=>by subst h;have:=of_decide_eq_true hfb;omega
 have hf3:fb=false->¬((txt f).size:Int)<=200:=fun h=>by subst h;have:=of_decide_eq_false hfb;omega
 have hl2:lb=true->((txt l).size:Int)<=200:=fun h=>by subst h;have:=of_decide_eq_true hlb;omega
 have hl3:lb=false->¬((txt l).size:Int)<=200:=fun h=>by subst h;have:=of_decide_eq_false hlb;omega
 have HF2:=hide hf2
 have HF3:=hide hf3
 have HL2:=hide hl2
 have HL3:=hide hl3
 clear hF0 hF1 hA1 hA hD hP hpb hm hnp hw1 hml hnl hxo hao hlf hll hfb hlb hf2 hf3 hl2 hl3
 generalize txt a=sa at *
 generalize txt v=sv at *
 generalize txt f=sf at *
 generalize txt l=sl at *
 obtain⟨_,c0,c1,c2,c3,c4,c5,c6⟩:=hX
 go_enter Tryz.func141,Tryz.ntmps141
 go_upto_region 1 with fail
 rw[Hw1.out]
 clear Hw1
 cases fb with
 | false=>
  have z:=HF3.out rfl
  clear HF2 HF3 HL2 HL3
  go_wp2
  go_ret
  exact⟨rfl,hb0⟩
 | true=>
  have z:=HF2.out rfl
  cases lb with
  | false=>
   have z:=HL3.out rfl
   clear HF2 HF3 HL2 HL3
   go_wp2
   go_ret
   exact⟨rfl,hb0⟩
  | true=>
   have z:=HL2.out rfl
   clear HF2 HF3 HL2 HL3
   go_wp2_with (go_at_call 166;fail)
   refine hcall.mono ?_
   rintro e w2 ⟨rfl,hb2⟩
   have hb3:=hb0.trans (hb2.mono hb0.size)
   clear hcall hb2 hb0 c0 c1 c2 c3 c4 c5 c6
   cases xo<;>(go_wp2;go_ret;exact⟨rfl,hb3⟩)
theorem jalone_any (t:FT) (w:World) (u0 u1 u2 u3 u4 u5 u6:Value) (hF:FIn w w.heap.size t [u0,u1,u2,u3,u4,u5,u6]):
  Calls Tryz.prog 97 #[.agg #[u0,u1,u2,u3,u4,u5,u6]] w fun e w'=>e=.returned (.bool t.bare)/\Below w.heap.size w w':=by
 cases t with
 | mk k a v f l any ps=>
 have hF0:=hF
 simp only[FIn] at hF
 obtain⟨A,c,D,dd,xs,hcs,⟨hml,hnl⟩,hA,hD,hP⟩:=hF
 cases hcs
 unfold maxLen at hml hnl
 obtain⟨m,hm⟩:∃m,any.length=m:=⟨_,rfl⟩
 obtain⟨np,hnp⟩:∃np,ps.length=np:=⟨_,rfl⟩
 have hml1:(m:Int)<=9223372036854775807:=by omega
 have hnl1:(np:Int)<=9223372036854775807:=by omega
 have hX:=Box7.new w k (txt a) (txt v) (txt f) (txt l) A any.length c D ps.length dd 39
 have hb0:=below1 w (.cells #[.int .i64 k,.string (txt a),.string (txt v),.string (txt f),.string (txt l),.slice A any.length c,.slice D ps.length dd] 39)
 obtain⟨w1,hw1⟩:∃w1,(w.alloc (.cells #[.int .i64 k,.string (txt a),.string (txt v),.string (txt f),.string (txt l),.slice A any.length c,.slice D ps.length dd] 39))=w1:=⟨_,rfl⟩
 rw[hw1] at hX hb0
 have hF1:=hF0.grow hb0
 have hA1:=(hA.below hb0).upto hb0.size
 rw[hm,hnp] at hX hw1 hF1 ⊢
 rw[hm] at hA1
 have Hw1:=hide hw1
 obtain⟨R,hR⟩:∃R,FT.bare (.mk k a v f l any ps)=R:=⟨_,rfl⟩
 rw[hR]
 have hHas:=jhas_any _ w1 _ _ _ _ _ _ _ hF1
 have hJust:=jjust_any _ w1 _ _ _ _ _ _ _ hF1
 have hOk:=fun w2 (hb:Below w1.heap.size w1 w2)=>jokp_any _ w2 _ _ _ _ _ _ _ (hF1.grow hb)
 have e1:FT.hasP (.mk k a v f l any ps)= !FT.plain0 f l any:=rfl
 have e2:FT.justP (.mk k a v f l any ps)=(a==[]&&v==[]&&FT.plain0 f l any):=rfl
 have e3:FT.okP (.mk k a v f l any ps)=(decide (f.length<=200)&&decide (l.length<=200)&&any.all FT.fits):=rfl
 rw[e1] at hHas
 rw[e2] at hJust
 rw[e3] at hOk
 have hAt:=fun w=>jattr_any a w
 have hFv:=fun w=>jfits_any v w
 obtain⟨pb,hpb⟩:∃pb,FT.plain0 f l any=pb:=⟨_,rfl⟩
 obtain⟨ao,hao⟩:∃ao,FT.attrOk a=ao:=⟨_,rfl⟩
 obtain⟨fv,hfv⟩:∃fv,FT.fits v=fv:=⟨_,rfl⟩
 obtain⟨a0,ha0⟩:∃a0,(a==[])=a0:=⟨_,rfl⟩
 obtain⟨v0,hv0⟩:∃v0,(v==[])=v0:=⟨_,rfl⟩
 obtain⟨p0,hp0⟩:∃p0,ps.isEmpty=p0:=⟨_,rfl⟩
 obtain⟨p1,hp1⟩:∃p1,(ps.length==1)=p1:=⟨_,rfl⟩
 obtain⟨ok,hok⟩:∃ok,(decide (f.length<=200)&&decide (l.length<=200)&&any.all FT.fits)=ok:=⟨_,rfl⟩
 obtain⟨ju,hju⟩:∃ju,(a0&&v0&&pb)=ju:=⟨_,rfl⟩
 have h01:(k=0\/k=1)->R=ju:=fun h=>by rw[<-hR,FT.bare_and _ _ _ _ _ _ _ h,ha0,hv0,hpb,hju]
 have h2:k=2->R=(ju&&p1):=fun h=>by rw[<-hR,h,FT.bare_not,ha0,hv0,hpb,hp1,hju]
 have h3:(k=3\/k=5\/k=6\/k=8)->R=(ao&&fv&& !(!pb)&&p0):=fun h=>by rw[<-hR,FT.bare_val _ _ _ _ _ _ _ h,hao,hfv,hpb,hp0,Bool.not_not]
 have h7:k=7->R=(ao&&v0&& !(!pb)&&p0):=fun h=>by rw[<-hR,h,FT.bare_has,hao,hv0,hpb,hp0,Bool.not_not]
 have h4:k=4->R=(ao&&v0&& !pb&&ok&&p0):=fun h=>by
  rw[<-hR,h,FT.bare_sub,hao,hv0,hpb,hp0,<-hok]
  generalize any.all FT.fits=q
  generalize decide (f.length<=200)=q1
  generalize decide (l.length<=200)=q2
  revert q q1 q2
  clear hju
  cases ao<;>cases v0<;>cases pb<;>cases p0<;>decide
 have h9:=fun h=>hR.symm.trans (FT.bare_else k a v f l any ps h)
 have ea:((txt a).toList==[])=a0:=by rw[zBo];exact ha0
 have ev:((txt v).toList==[])=v0:=by rw[zBo];exact hv0
 have ep0:((np:Int)==0)=p0:=by rw[<-hp0,isEmpty_len,hnp]
 have ep1:((np:Int)==1)=p1:=by rw[<-hp1,len_one,hnp]
 rw[hao] at hAt
 rw[hfv] at hFv
 rw[hpb] at hHas
 rw[ha0,hv0,hpb,hju] at hJust
 rw[hok] at hOk
 have H01:=hide h01
 have H2:=hide h2
 have H3:=hide h3
 have H7:=hide h7
 have H4:=hide h4
 have H9:=hide h9
 have HAt:=hide hAt
 have HFv:=hide hFv
 have HHas:=hide hHas
 have HJust:=hide hJust
 have HOk:=hide hOk
 have Hea:=hide ea
 have Hev:=hide ev
 have Hp0:=hide ep0
 have Hp1:=hide ep1
 have HX1:=hide hX
 have HB1:=hide hb0
 obtain⟨_,c0,c1,c2,c3,c4,c5,c6⟩:=hX
 clear hR h01 h2 h3 h7 h4 h9 hAt hFv hHas hJust hOk e1 e2 e3 hF0 hF1 hA1 hA hD hP hm hnp hw1 hml hnl hpb ea ev ep0 ep1 ha0 hv0 hp0 hp1 hao hfv hok hju hb0
 generalize txt a=sa at *
 generalize txt v=sv at *
 generalize txt f=sf at *
 generalize txt l=sl at *
 go_enter Tryz.func97,Tryz.ntmps97
 go_upto_region 1 with fail
 rw[Hw1.out]
 clear Hw1
 by_cases k0:k=0\/k=1
 ·have hr:=hide (H01.out k0)
  have hJ:=HJust.out
  clear H01 H2 H3 H7 H4 H9 HAt HFv HHas HJust HOk Hea Hev Hp0 Hp1
  rcases k0 with rfl | rfl
  ·go_wp2_with (go_at_call 138;fail)
   refine hJ.mono ?_
   rintro e w2 ⟨rfl,hbn⟩
   have HXw2:=hide (HX1.out.below HX1.out.lt hbn)
   have HBw2:=hT HB1 hbn
   clear hJ hbn c0 c1 c2 c3 c4 c5 c6
   obtain⟨_,c0,c1,c2,c3,c4,c5,c6⟩:=HXw2.out
   (go_wp2;go_ret;exact⟨by rw[hr.out];rfl,HBw2.out⟩)
  ·go_wp2_with (go_at_call 138;fail)
   refine hJ.mono ?_
   rintro e w2 ⟨rfl,hbn⟩
   have HXw2:=hide (HX1.out.below HX1.out.lt hbn)
   have HBw2:=hT HB1 hbn
   clear hJ hbn c0 c1 c2 c3 c4 c5 c6
   obtain⟨_,c0,c1,c2,c3,c4,c5,c6⟩:=HXw2.out
   (go_wp2;go_ret;exact⟨by rw[hr.out];rfl,HBw2.out⟩)
 by_cases k2:k=2
 ·have hr:=hide (H2.out k2)
  have hJ:=HJust.out
  have ep:=Hp1.out
  subst k2
  clear H01 H2 H3 H7 H4 H9 HAt HFv HHas HJust HOk Hea Hev Hp0 Hp1
  go_wp2_with (go_at_call 138;fail)
  refine hJ.mono ?_
  rintro e w2 ⟨rfl,hbn⟩
  have HXw2:=hide (HX1.out.below HX1.out.lt hbn)
  have HBw2:=hT HB1 hbn
  clear hJ hbn c0 c1 c2 c3 c4 c5 c6
  obtain⟨_,c0,c1,c2,c3,c4,c5,c6⟩:=HXw2.out
  cases ju<;>cases p1<;>(go_wp2;go_ret;exact⟨by rw[hr.out];rfl,HBw2.out⟩)
 by_cases k3:k=3\/k=5\/k=6\/k=8
 ·have hr:=hide (H3.out k3)
  rcases k3 with rfl | rfl | rfl | rfl
  ·have hAt:=HAt.out w1
   have hFv:=HFv.out w1
   have hHas:=HHas.out
   have ep:=Hp0.out
   clear H01 H2 H3 H7 H4 H9 HAt HFv HHas HJust HOk Hea Hev Hp0 Hp1
   go_wp2_with (go_at_call 139;fail)
   refine hAt.mono ?_
   rintro e w9 ⟨rfl,hw9⟩
   obtain rfl:=hw9.symm
   clear hAt hw9
   cases ao with
   | false=>(go_wp2;go_ret;exact⟨by rw[hr.out];rfl,HB1.out⟩)
   | true=>
    go_wp2_with (go_at_call 142;fail)
    refine hFv.mono ?_
    rintro e w9 ⟨rfl,hw9⟩
    obtain rfl:=hw9.symm
    clear hFv hw9
    cases fv with
    | false=>(go_wp2;go_ret;exact⟨by rw[hr.out];rfl,HB1.out⟩)
    | true=>
     go_wp2_with (go_at_call 140;fail)
     refine hHas.mono ?_
     rintro e w2 ⟨rfl,hbn⟩
     have HXw2:=hide (HX1.out.below HX1.out.lt hbn)
     have HBw2:=hT HB1 hbn
     clear hHas hbn c0 c1 c2 c3 c4 c5 c6
     obtain⟨_,c0,c1,c2,c3,c4,c5,c6⟩:=HXw2.out
     cases pb<;>cases p0<;>(go_wp2;go_ret;exact⟨by rw[hr.out];rfl,HBw2.out⟩)
  ·have hAt:=HAt.out w1
   have hFv:=HFv.out w1
   have hHas:=HHas.out
   have ep:=Hp0.out
   clear H01 H2 H3 H7 H4 H9 HAt HFv HHas HJust HOk Hea Hev Hp0 Hp1
   go_wp2_with (go_at_call 139;fail)
   refine hAt.mono ?_
   rintro e w9 ⟨rfl,hw9⟩
   obtain rfl:=hw9.symm
   clear hAt hw9
   cases ao with
   | false=>(go_wp2;go_ret;exact⟨by rw[hr.out];rfl,HB1.out⟩)
   | true=>
    go_wp2_with (go_at_call 142;fail)
    refine hFv.mono ?_
    rintro e w9 ⟨rfl,hw9⟩
    obtain rfl:=hw9.symm
    clear hFv hw9
    cases fv with
    | false=>(go_wp2;go_ret;exact⟨by rw[hr.out];rfl,HB1.out⟩)
    | true=>
     go_wp2_with (go_at_call 140;fail)
     refine hHas.mono ?_
     rintro e w2 ⟨rfl,hbn⟩
     have HXw2:=hide (HX1.out.below HX1.out.lt hbn)
     have HBw2:=hT HB1 hbn
     clear hHas hbn c0 c1 c2 c3 c4 c5 c6
     obtain⟨_,c0,c1,c2,c3,c4,c5,c6⟩:=HXw2.out
     cases pb<;>cases p0<;>(go_wp2;go_ret;exact⟨by rw[hr.out];rfl,HBw2.out⟩)
  ·have hAt:=HAt.out w1
   have hFv:=HFv.out w1
   have hHas:=HHas.out
   have ep:=Hp0.out
   clear H01 H2 H3 H7 H4 H9 HAt HFv HHas HJust HOk Hea Hev Hp0 Hp1
   go_wp2_with (go_at_call 139;fail)
   refine hAt.mono ?_
   rintro e w9 ⟨rfl,hw9⟩
   obtain rfl:=hw9.symm
   clear hAt hw9
   cases ao with
   | false=>(go_wp2;go_ret;exact⟨by rw[hr.out];rfl,HB1.out⟩)
   | true=>
    go_wp2_with (go_at_call 142;fail)
    refine hFv.mono ?_
    rintro e w9 ⟨rfl,hw9⟩
    obtain rfl:=hw9.symm
    clear hFv hw9
    cases fv with
    | false=>(go_wp2;go_ret;exact⟨by rw[hr.out];rfl,HB1.out⟩)
    | true=>
     go_wp2_with (go_at_call 140;fail)
     refine hHas.mono ?_
     rintro e w2 ⟨rfl,hbn⟩
     have HXw2:=hide (HX1.out.below HX1.out.lt hbn)
     have HBw2:=hT HB1 hbn
     clear hHas hbn c0 c1 c2 c3 c4 c5 c6
     obtain⟨_,c0,c1,c2,c3,c4,c5,c6⟩:=HXw2.out
     cases pb<;>cases p0<;>(go_wp2;go_ret;exact⟨by rw[hr.out];rfl,HBw2.out⟩)
  ·have hAt:=HAt.out w1
   have hFv:=HFv.out w1
   have hHas:=HHas.out
   have ep:=Hp0.out
   clear H01 H2 H3 H7 H4 H9 HAt HFv HHas HJust HOk Hea Hev Hp0 Hp1
   go_wp2_with (go_at_call 139;fail)
   refine hAt.mono ?_
   rintro e w9 ⟨rfl,hw9⟩
   obtain rfl:=hw9.symm
   clear hAt hw9
   cases ao with
   | false=>(go_wp2;go_ret;exact⟨by rw[hr.out];rfl,HB1.out⟩)
   | true=>
    go_wp2_with (go_at_call 142;fail)
    refine hFv.mono ?_
    rintro e w9 ⟨rfl,hw9⟩
    obtain rfl:=hw9.symm
    clear hFv hw9
    cases fv with
    | false=>(go_wp2;go_ret;exact⟨by rw[hr.out];rfl,HB1.out⟩)
    | true=>
     go_wp2_with (go_at_call 140;fail)
     refine hHas.mono ?_
     rintro e w2 ⟨rfl,hbn⟩
     have HXw2:=hide (HX1.out.below HX1.out.lt hbn)
     have HBw2:=hT HB1 hbn
     clear hHas hbn c0 c1 c2 c3 c4 c5 c6
     obtain⟨_,c0,c1,c2,c3,c4,c5,c6⟩:=HXw2.out
     cases pb<;>cases p0<;>(go_wp2;go_ret;exact⟨by rw[hr.out];rfl,HBw2.out⟩)
 by_cases k7:k=7
 ·have hr:=hide (H7.out k7)
  subst k7
  have hAt:=HAt.out w1
  have hHas:=HHas.out
  have ev:=Hev.out
  have ep:=Hp0.out
  clear H01 H2 H3 H7 H4 H9 HAt HFv HHas HJust HOk Hea Hev Hp0 Hp1
  go_wp2_with (go_at_call 139;fail)
  refine hAt.mono ?_
  rintro e w9 ⟨rfl,hw9⟩
  obtain rfl:=hw9.symm
  clear hAt hw9
  cases ao with
  | false=>(go_wp2;go_ret;exact⟨by rw[hr.out];rfl,HB1.out⟩)
  | true=>
   cases v0 with
   | false=>(go_wp2;go_ret;exact⟨by rw[hr.out];rfl,HB1.out⟩)
   | true=>
    go_wp2_with (go_at_call 140;fail)
    refine hHas.mono ?_
    rintro e w2 ⟨rfl,hbn⟩
    have HXw2:=hide (HX1.out.below HX1.out.lt hbn)
    have HBw2:=hT HB1 hbn
    clear hHas hbn c0 c1 c2 c3 c4 c5 c6
    obtain⟨_,c0,c1,c2,c3,c4,c5,c6⟩:=HXw2.out
    cases pb<;>cases p0<;>(go_wp2;go_ret;exact⟨by rw[hr.out];rfl,HBw2.out⟩)
 by_cases k4:k=4
 ·have hr:=hide (H4.out k4)
  subst k4
  have hAt:=HAt.out w1
  have hHas:=HHas.out
  have ev:=Hev.out
  have ep:=Hp0.out
  clear H01 H2 H3 H7 H4 H9 HAt HFv HHas HJust Hea Hev Hp0 Hp1
  go_wp2_with (go_at_call 139;fail)
  refine hAt.mono ?_
  rintro e w9 ⟨rfl,hw9⟩
  obtain rfl:=hw9.symm
  clear hAt hw9
  cases ao with
  | false=>(go_wp2;go_ret;exact⟨by rw[hr.out];rfl,HB1.out⟩)
  | true=>
   cases v0 with
   | false=>(go_wp2;go_ret;exact⟨by rw[hr.out];rfl,HB1.out⟩)
   | true=>
    go_wp2_with (go_at_call 140;fail)
    refine hHas.mono ?_
    rintro e w2 ⟨rfl,hbn⟩
    have hOk:=HOk.out w2 hbn
    have HXw2:=hide (HX1.out.below HX1.out.lt hbn)
    have HBw2:=hT HB1 hbn
    clear hHas hbn c0 c1 c2 c3 c4 c5 c6
    obtain⟨_,c0,c1,c2,c3,c4,c5,c6⟩:=HXw2.out
    cases pb with
    | true=>(go_wp2;go_ret;exact⟨by rw[hr.out];rfl,HBw2.out⟩)
    | false=>
     go_wp2_with (go_at_call 141;fail)
     refine hOk.mono ?_
     rintro e w3 ⟨rfl,hbn⟩
     have HXw3:=hide (HXw2.out.below HXw2.out.lt hbn)
     have HBw3:=hT HBw2 hbn
     clear hOk hbn c0 c1 c2 c3 c4 c5 c6
     obtain⟨_,c0,c1,c2,c3,c4,c5,c6⟩:=HXw3.out
     cases ok<;>cases p0<;>(go_wp2;go_ret;exact⟨by rw[hr.out];rfl,HBw3.out⟩)
 have k9:k≠0/\k≠1/\k≠2/\k≠3/\k≠4/\k≠5/\k≠6/\k≠7/\k≠8:=by omega
 have hr:=hide (H9.out k9)
 have z0:(k==0)=false:=beq_false_of_ne (by omega)
 have z1:(k==1)=false:=beq_false_of_ne (by omega)
 have z2:(k==2)=false:=beq_false_of_ne (by omega)
 have z3:(k==3)=false:=beq_false_of_ne (by omega)
 have z4:(k==4)=false:=beq_false_of_ne (by omega)
 have z5:(k==5)=false:=beq_false_of_ne (by omega)
 have z6:(k==6)=false:=beq_false_of_ne (by omega)
 have z7:(k==7)=false:=beq_false_of_ne (by omega)
 have z8:(k==8)=false:=beq_false_of_ne (by omega)
 clear H01 H2 H3 H7 H4 H9 HAt HFv HHas HJust HOk Hea Hev Hp0 Hp1
 clear k0 k2 k3 k7 k4 k9
 go_wp2
 go_ret
 exact⟨by rw[hr.out];rfl,HB1.out⟩
theorem FIn.shape {w:World} {B:Nat}:∀{t:FT} {u0 u1 u2 u3 u4 u5 u6:Value},FIn w B t [u0,u1,u2,u3,u4,u5,u6]->∃(k:Int) (a v f l:ByteArray) (A:Option Addr) (m c:Nat) (D:Option Addr) (n d:Nat),u0=.int .i64 k/\u1=.string a/\u2=.string v/\u3=.string f/\u4=.string l/\u5=.slice A m c/\u6=.slice D n d
 | .mk ..,_,_,_,_,_,_,_,h=>by
  simp only[FIn] at h
  obtain⟨A,c,D,d,xs,hcs,_⟩:=h
  simp only[List.cons.injEq,and_true] at hcs
  obtain⟨rfl,rfl,rfl,rfl,rfl,rfl,rfl⟩:=hcs
  exact⟨_,_,_,_,_,_,_,_,_,_,_,rfl,rfl,rfl,rfl,rfl,rfl,rfl⟩
namespace FT
theorem nodesL_take {ps:List FT} {i:Nat} {p:FT} (h:ps[i]?=some p):nodesL (ps.take (i+1))=nodesL (ps.take i)+p.nodes:=by
 induction ps generalizing i with
 | nil=>simp at h
 | cons q r ih=>
  cases i with
  | zero=>simp at h;subst h;simp[nodesL]
  | succ i=>simp only[List.getElem?_cons_succ] at h;have:=ih h;simp only[List.take_succ_cons,nodesL] at this ⊢;omega
theorem nodesL_mono:∀(ps:List FT) (i:Nat),nodesL (ps.take i)<=nodesL ps
 | [],i=>by simp[nodesL]
 | p::r,0=>by simp[nodesL]
 | p::r,i+1=>by have:=nodesL_mono r i;simp only[nodesL,List.take_succ_cons] at this ⊢;omega
theorem depthL_all {d:Nat}:∀(ps:List FT),decide (depthL ps<=d)=ps.all (fun p=>decide (p.depth<=d))
 | []=>by simp[depthL]
 | p::r=>by
  have h:=depthL_all (d:=d) r
  rw[List.all_cons,<-h,depthL,Bool.eq_iff_iff]
  simp only[Bool.and_eq_true,decide_eq_true_eq]
  omega
theorem all_both (f g:FT->Bool):∀l:List FT,l.all (fun p=>f p&&g p)=(l.all f&&l.all g)
 | []=>rfl
 | p::r=>by
  have h:=all_both f g r
  simp only[List.all_cons,h]
  cases f p<;>cases g p<;>cases r.all f<;>rfl
def nest (t:FT) (d:Nat):Bool:=decide (t.depth<=d)&&t.all
theorem nest_zero (t:FT):t.nest 0=false:=by
 have:=t.depth_pos
 unfold nest
 rw[decide_eq_false (by omega)]
 rfl
theorem nest_succ (k:Int) (a v f l:List UInt8) (any:List (List UInt8)) (ps:List FT) (d:Nat):nest (.mk k a v f l any ps) (d+1)=(bare (.mk k a v f l any ps)&&ps.all (fun p=>p.nest d)):=by
 unfold nest
 rw[all_mk,depth]
 have h1:decide (depthL ps+1<=d+1)=ps.all (fun p=>decide (p.depth<=d)):=by rw[<-depthL_all];simp
 rw[h1]
 have h2:=all_both (fun p=>decide (p.depth<=d)) FT.all ps
 rw[h2]
 cases bare (.mk k a v f l any ps)<;>simp
theorem formed_nest (t:FT):t.formed=(decide (t.nodes<=40)&&t.nest 20):=by
 unfold formed nest
 rw[Bool.and_assoc]
end FT
theorem jcount_any (t:FT):∀(M:Nat),1<=M->M<=41->∀(w:World) (u0 u1 u2 u3 u4 u5 u6:Value),FIn w w.heap.size t [u0,u1,u2,u3,u4,u5,u6]->
  Calls Tryz.prog 96 #[.agg #[u0,u1,u2,u3,u4,u5,u6],.int .i64 (M:Int)] w fun e w'=>e=.returned (.int .i64 ((min t.nodes M:Nat):Int))/\Below w.heap.size w w':=by
 induction t using FT.induct
 rename_i k a v f l any ps ih
 intro M hM0 hM w u0 u1 u2 u3 u4 u5 u6 hF
 have hF0:=hF
 simp only[FIn] at hF
 obtain⟨A,c,D,dd,xs,hcs,⟨hml,hnl⟩,hA,hD,hP⟩:=hF
 cases hcs
 unfold maxLen at hml hnl
 obtain⟨m,hm⟩:∃m,any.length=m:=⟨_,rfl⟩
 obtain⟨np,hnp⟩:∃np,ps.length=np:=⟨_,rfl⟩
 have hml1:(m:Int)<=9223372036854775807:=by omega
 have hnl1:(np:Int)<=9223372036854775807:=by omega
 have hX:=Box7.new w k (txt a) (txt v) (txt f) (txt l) A any.length c D ps.length dd 39
 have hb0:=below1 w (.cells #[.int .i64 k,.string (txt a),.string (txt v),.string (txt f),.string (txt l),.slice A any.length c,.slice D ps.length dd] 39)
 obtain⟨w1,hw1⟩:∃w1,(w.alloc (.cells #[.int .i64 k,.string (txt a),.string (txt v),.string (txt f),.string (txt l),.slice A any.length c,.slice D ps.length dd] 39))=w1:=⟨_,rfl⟩
 rw[hw1] at hX hb0
 have hF1:=hF0.grow hb0
 have hA1:=(hA.below hb0).upto hb0.size
 rw[hm,hnp] at hX hw1 hF1 ⊢
 rw[hm] at hA1
 have Hw1:=hide hw1
 obtain⟨t0,ht0⟩:∃t0,FT.mk k a v f l any ps=t0:=⟨_,rfl⟩
 rw[ht0] at hF1 ⊢
 obtain⟨R,hR⟩:∃R:Nat,min t0.nodes M=R:=⟨_,rfl⟩
 rw[hR]
 have hRd:R=min (FT.nodesL ps+1) M:=by rw[<-hR,<-ht0,FT.nodes]
 have HR:=hide hRd
 have HD:=hide hD
 have HP:=hide hP
 have Hih:=hide ih
 have Hnp:=hide hnp
 clear ih hA hD hP hm hnp hml hnl hR hRd ht0 hF0 hF1 hA1 hw1
 generalize txt a=sa at *
 generalize txt v=sv at *
 generalize txt f=sf at *
 generalize txt l=sl at *
 obtain⟨_,c0,c1,c2,c3,c4,c5,c6⟩:=hX
 go_enter Tryz.func96,Tryz.ntmps96
 go_upto_region 1 with fail
 rw[Hw1.out]
 clear Hw1
 go_wp2
 go_loopg [5,11] np (fun r s5 s11 wx=>∃(j q:Nat),j+r=np/\s11=.int .i64 (j:Int)/\s5=.int .i64 (q:Int)/\1<=q/\q<=M/\Hid (q=min (FT.nodesL (ps.take j)+1) M)/\Hid (Below w.heap.size w wx))
 case atStart=>exact⟨0,1,by omega,rfl,rfl,by omega,hM0,hide (by simp[FT.nodesL];omega),hide hb0⟩
 case round=>
  obtain⟨j,q,hjg,rfl,rfl,hq1,hqM,hpre,hbr⟩:=hrel
  have hb2:=hbr.out
  clear c0 c1 c2 c3 c4 c5 c6 hb0
  cases gk with
  | zero=>
   obtain rfl:j=np:=by omega
   have hjz:¬((j:Int)<(j:Int)):=by omega
   have hq:Hid (q=R):=hide (by
    rw[hpre.out,List.take_of_length_le (by rw[Hnp.out];exact Nat.le_refl _),<-HR.out])
   clear HD HP Hih Hnp hpre HR
   go_wp2
   go_ret
   exact⟨by rw[<-hq.out];try rfl,hb2⟩
  | succ r=>
   have hj:j<np:=by omega
   have hjz:(j:Int)<(np:Int):=by omega
   obtain⟨p,hp⟩:∃p,ps[j]?=some p:=⟨_,List.getElem?_eq_getElem (by rw[Hnp.out];exact hj)⟩
   have HD1:=HD.out
   have HP1:=HP.out
   obtain⟨g,o,hDe,hg,hparts⟩:=HD.out.part HP1 (fun h=>by rw[h] at hp;simp at hp)
   subst hDe
   obtain⟨u0,u1,u2,u3,u4,u5,u6,hpart⟩:=hparts j p hp
   obtain⟨pk,pa,pv,pf,pl,pA,pm,pc,pD,pn,pd,rfl,rfl,rfl,rfl,rfl,rfl,rfl⟩:=hpart.fin.shape
   obtain⟨hcp2,_,x0,x1,x2,x3,x4,x5,x6⟩:=hpart.below hb2
   replace hcp2:=hcp2.upto hb2.size
   have hPX:=Box7.new wr pk pa pv pf pl pA pm pc pD pn pd 39
   have hbp:=below1 wr (.cells #[.int .i64 pk,.string pa,.string pv,.string pf,.string pl,.slice pA pm pc,.slice pD pn pd] 39)
   obtain⟨wp,hwp⟩:∃wp,wr.alloc (.cells #[.int .i64 pk,.string pa,.string pv,.string pf,.string pl,.slice pA pm pc,.slice pD pn pd] 39)=wp:=⟨_,rfl⟩
   rw[hwp] at hPX hbp
   have hcp3:=hcp2.grow hbp
   have hb5:=hb2.trans (hbp.mono hb2.size)
   obtain⟨_,p0,p1,p2,p3,p4,p5,p6⟩:=hPX
   by_cases hqn:q=M
   ·have zq:((q:Int)==(M:Int))=true:=by rw[hqn];simp
    have hq:Hid (q=R):=hide (by
     have h1:=FT.nodesL_mono ps j
     have h2:=HR.out
     have h3:=hpre.out
     omega)
    clear HD HP Hih Hnp hpre HR hp HD1 HP1 hparts hpart hcp2 hcp3
    go_wp2
    go_ret
    exact⟨by rw[<-hq.out];try rfl,hb5⟩
   ·have zq:((q:Int)==(M:Int))=false:=beq_false_of_ne (by omega)
    have hcall:=Hih.out p (List.mem_of_getElem? hp) (M-q) (by omega) (by omega) wp _ _ _ _ _ _ _ hcp3
    have hMq:((M-q:Nat):Int)=(M:Int)-(q:Int):=by omega
    obtain⟨y,hy⟩:∃y,min p.nodes (M-q)=y:=⟨_,rfl⟩
    have hyM:y<=M-q:=by omega
    have hst:Hid (q+y=min (FT.nodesL (ps.take (j+1))+1) M):=hide (by
     have h1:=FT.nodesL_take hp
     have h3:=hpre.out
     omega)
    rw[hy,hMq] at hcall
    have Hwp:=hide hwp
    have hqy:(q:Int)+(y:Int)<=41:=by omega
    clear HD HP Hih Hnp hpre HR hp HD1 HP1 hparts hpart hcp2 hcp3 hy hMq hwp
    go_wp2_with (go_at_call 96;fail)
    rw[Hwp.out]
    refine hcall.mono ?_
    rintro e w3 ⟨rfl,hb3⟩
    have hb4:=hide (hb5.trans (hb3.mono hb5.size))
    clear hcall hb3 hbr hb2 hb5 hbp x0 x1 x2 x3 x4 x5 x6 p0 p1 p2 p3 p4 p5 p6
    go_wp2
    go_roundg r
    case measure=>omega
    case rel=>exact⟨j+1,q+y,by omega,by go_num,by go_num,by omega,by omega,hst,hb4⟩
theorem jnodes_any (t:FT) (w:World) (u0 u1 u2 u3 u4 u5 u6:Value) (hF:FIn w w.heap.size t [u0,u1,u2,u3,u4,u5,u6]):
  Calls Tryz.prog 58 #[.agg #[u0,u1,u2,u3,u4,u5,u6]] w fun e w'=>e=.returned (.int .i64 ((min t.nodes 41:Nat):Int))/\Below w.heap.size w w':=by
 cases t with
 | mk k a v f l any ps=>
 have hF0:=hF
 simp only[FIn] at hF
 obtain⟨A,c,D,dd,xs,hcs,⟨hml,hnl⟩,hA,hD,hP⟩:=hF
 cases hcs
 unfold maxLen at hml hnl
 obtain⟨m,hm⟩:∃m,any.length=m:=⟨_,rfl⟩
 obtain⟨np,hnp⟩:∃np,ps.length=np:=⟨_,rfl⟩
 have hml1:(m:Int)<=9223372036854775807:=by omega
 have hnl1:(np:Int)<=9223372036854775807:=by omega
 have hX:=Box7.new w k (txt a) (txt v) (txt f) (txt l) A any.length c D ps.length dd 39
 have hb0:=below1 w (.cells #[.int .i64 k,.string (txt a),.string (txt v),.string (txt f),.string (txt l),.slice A any.length c,.slice D ps.length dd] 39)
 obtain⟨w1,hw1⟩:∃w1,(w.alloc (.cells #[.int .i64 k,.string (txt a),.string (txt v),.string (txt f),.string (txt l),.slice A any.length c,.slice D ps.length dd] 39))=w1:=⟨_,rfl⟩
 rw[hw1] at hX hb0
 have hF1:=hF0.grow hb0
 have hA1:=(hA.below hb0).upto hb0.size
 rw[hm,hnp] at hX hw1 hF1 ⊢
 rw[hm] at hA1
 have Hw1:=hide hw1
 obtain⟨t0,ht0⟩:∃t0,FT.mk k a v f l any ps=t0:=⟨_,rfl⟩
 rw[ht0] at hF1 ⊢
 have hcall:=jcount_any t0 41 (by omega) (by omega) w1 _ _ _ _ _ _ _ hF1
 obtain⟨R,hR⟩:∃R:Nat,min t0.nodes 41=R:=⟨_,rfl⟩
 rw[hR] at hcall ⊢
 clear hA hD hP hm hnp hml hnl hR ht0 hF0 hF1 hA1 hw1
 generalize txt a=sa at *
 generalize txt v=sv at *
 generalize txt f=sf at *
 generalize txt l=sl at *
 obtain⟨_,c0,c1,c2,c3,c4,c5,c6⟩:=hX
 go_enter Tryz.func58,Tryz.ntmps58
 go_upto_region 1 with fail
 rw[Hw1.out]
 clear Hw1
 go_wp2_with (go_at_call 96;fail)
 refine hcall.mono ?_
 rintro e w2 ⟨rfl,hb2⟩
 have hb3:=hb0.trans (hb2.mono hb0.size)
 clear hcall hb2 hb0 c0 c1 c2 c3 c4 c5 c6
 go_wp2
 go_ret
 exact⟨rfl,hb3⟩
theorem jformed_any (t:FT):∀(d:Nat),d<=20->∀(w:World) (u0 u1 u2 u3 u4 u5 u6:Value),FIn w w.heap.size t [u0,u1,u2,u3,u4,u5,u6]->
  Calls Tryz.prog 59 #[.agg #[u0,u1,u2,u3,u4,u5,u6],.int .i64 (d:Int)] w fun e w'=>e=.returned (.bool (t.nest d))/\Below w.heap.size w w':=by
 induction t using FT.induct
 rename_i k a v f l any ps ih
 intro d hd w u0 u1 u2 u3 u4 u5 u6 hF
 have hF0:=hF
 simp only[FIn] at hF
 obtain⟨A,c,D,dd,xs,hcs,⟨hml,hnl⟩,hA,hD,hP⟩:=hF
 cases hcs
 unfold maxLen at hml hnl
 obtain⟨m,hm⟩:∃m,any.length=m:=⟨_,rfl⟩
 obtain⟨np,hnp⟩:∃np,ps.length=np:=⟨_,rfl⟩
 have hml1:(m:Int)<=9223372036854775807:=by omega
 have hnl1:(np:Int)<=9223372036854775807:=by omega
 have hX:=Box7.new w k (txt a) (txt v) (txt f) (txt l) A any.length c D ps.length dd 39
 have hb0:=below1 w (.cells #[.int .i64 k,.string (txt a),.string (txt v),.string (txt f),.string (txt l),.slice A any.length c,.slice D ps.length dd] 39)
 obtain⟨w1,hw1⟩:∃w1,(w.alloc (.cells #[.int .i64 k,.string (txt a),.string (txt v),.string (txt f),.string (txt l),.slice A any.length c,.slice D ps.length dd] 39))=w1:=⟨_,rfl⟩
 rw[hw1] at hX hb0
 have hF1:=hF0.grow hb0
 have hA1:=(hA.below hb0).upto hb0.size
 rw[hm,hnp] at hX hw1 hF1 ⊢
 rw[hm] at hA1
 have Hw1:=hide hw1
 obtain⟨t0,ht0⟩:∃t0,FT.mk k a v f l any ps=t0:=⟨_,rfl⟩
 rw[ht0] at hF1 ⊢
 obtain⟨R,hR⟩:∃R:Bool,t0.nest d=R:=⟨_,rfl⟩
 rw[hR]
 have hAl:=jalone_any t0 w1 _ _ _ _ _ _ _ hF1
 obtain⟨bt,hbt⟩:∃bt:Bool,t0.bare=bt:=⟨_,rfl⟩
 rw[hbt] at hAl
 have hR0:d=0->R=false:=fun h=>by rw[<-hR,h,FT.nest_zero]
 have hR1:∀d',d=d'+1->R=(bt&&ps.all (fun p=>p.nest d')):=fun d' h=>by rw[<-hR,h,<-ht0,FT.nest_succ,ht0,hbt]
 have HR0:=hide hR0
 have HR1:=hide hR1
 have HD:=hide hD
 have HP:=hide hP
 have Hih:=hide ih
 have Hnp:=hide hnp
 have HX:=hide hX
 clear ih hA hD hP hm hnp hml hnl hR hR0 hR1 hbt ht0 hF0 hF1 hA1 hw1
 generalize txt a=sa at *
 generalize txt v=sv at *
 generalize txt f=sf at *
 generalize txt l=sl at *
 obtain⟨_,c0,c1,c2,c3,c4,c5,c6⟩:=hX
 cases d with
 | zero=>
  have hr:=hide (HR0.out rfl)
  clear HR0 HR1 HD HP Hih Hnp HX hAl
  go_enter Tryz.func59,Tryz.ntmps59
  go_upto_region 1 with fail
  rw[Hw1.out]
  go_wp2
  go_ret
  exact⟨by rw[hr.out];rfl,hb0⟩
 | succ d=>
  have z0:(((d+1:Nat):Int)==0)=false:=beq_false_of_ne (by omega)
  have hr:=hide (HR1.out d rfl)
  obtain⟨y0,hy0⟩:∃y0:Int,((d+1:Nat):Int)=y0:=⟨_,rfl⟩
  have hy1:1<=y0:=by omega
  have hy2:y0<=20:=by omega
  have HY:Hid ((d:Int)=y0-1):=hide (by omega)
  have hd1:d<=20:=by omega
  rw[hy0] at z0 ⊢
  clear hy0 HR0 HR1 hd
  go_enter Tryz.func59,Tryz.ntmps59
  go_upto_region 1 with fail
  rw[Hw1.out]
  clear Hw1
  go_wp2_with (go_at_call 97;fail)
  refine hAl.mono ?_
  rintro e w2 ⟨rfl,hb2⟩
  have hX2:=HX.out.below HX.out.lt hb2
  have hb3:=hb0.trans (hb2.mono hb0.size)
  clear hAl hb2 HX hb0 c0 c1 c2 c3 c4 c5 c6
  obtain⟨_,c0,c1,c2,c3,c4,c5,c6⟩:=hX2
  cases bt with
  | false=>
   clear HD HP Hih Hnp
   go_wp2
   go_ret
   exact⟨by rw[hr.out];rfl,hb3⟩
  | true=>
   go_wp2
   go_loopg [17] np (fun r s17 wx=>∃j:Nat,j+r=np/\s17=.int .i64 (j:Int)/\Hid (∀p∈ps.take j,p.nest d=true)/\Hid (Below w.heap.size w wx))
   case atStart=>exact⟨0,by omega,rfl,hide (fun x hx=>by simp at hx),hide hb3⟩
   case round=>
    obtain⟨j,hjg,rfl,hpre,hbr⟩:=hrel
    have hb2:=hbr.out
    clear hb3 c0 c1 c2 c3 c4 c5 c6
    cases gk with
    | zero=>
     obtain rfl:j=np:=by omega
     have hjz:¬((j:Int)<(j:Int)):=by omega
     have hq:Hid (R=true):=hide (by
      rw[hr.out]
      have:=hpre.out
      rw[List.take_of_length_le (by rw[Hnp.out];exact Nat.le_refl _)] at this
      rw[List.all_eq_true.2 this];rfl)
     clear HD HP Hih Hnp hpre hr
     go_wp2
     go_ret
     exact⟨by rw[hq.out];rfl,hb2⟩
    | succ r=>
     have hj:j<np:=by omega
     have hjz:(j:Int)<(np:Int):=by omega
     obtain⟨p,hp⟩:∃p,ps[j]?=some p:=⟨_,List.getElem?_eq_getElem (by rw[Hnp.out];exact hj)⟩
     have HD1:=HD.out
     have HP1:=HP.out
     obtain⟨g,o,hDe,hg,hparts⟩:=HD.out.part HP1 (fun h=>by rw[h] at hp;simp at hp)
     subst hDe
     obtain⟨u0,u1,u2,u3,u4,u5,u6,hpart⟩:=hparts j p hp
     obtain⟨pk,pa,pv,pf,pl,pA,pm,pc,pD,pn,pd,rfl,rfl,rfl,rfl,rfl,rfl,rfl⟩:=hpart.fin.shape
     obtain⟨hcp2,_,x0,x1,x2,x3,x4,x5,x6⟩:=hpart.below hb2
     replace hcp2:=hcp2.upto hb2.size
     have hPX:=Box7.new wr pk pa pv pf pl pA pm pc pD pn pd 39
     have hbp:=below1 wr (.cells #[.int .i64 pk,.string pa,.string pv,.string pf,.string pl,.slice pA pm pc,.slice pD pn pd] 39)
     obtain⟨wp,hwp⟩:∃wp,wr.alloc (.cells #[.int .i64 pk,.string pa,.string pv,.string pf,.string pl,.slice pA pm pc,.slice pD pn pd] 39)=wp:=⟨_,rfl⟩
     rw[hwp] at hPX hbp
     have hcp3:=hcp2.grow hbp
     have hb5:=hb2.trans (hbp.mono hb2.size)
     obtain⟨_,p0,p1,p2,p3,p4,p5,p6⟩:=hPX
     have hcall:=Hih.out p (List.mem_of_getElem? hp) d hd1 wp _ _ _ _ _ _ _ hcp3
     rw[HY.out] at hcall
     have Hwp:=hide hwp
     cases hpa:p.nest d with
     | false=>
      have hq:Hid (R=false):=hide (by
       rw[hr.out]
       have:ps.all (fun p=>p.nest d)=false:=by rw[List.all_eq_false];exact⟨p,List.mem_of_getElem? hp,by rw[hpa];exact Bool.false_ne_true⟩
       rw[this];rfl)
      rw[hpa] at hcall
      clear HD HP Hih Hnp hpre hr hp HD1 HP1 hparts hpart hcp2 hcp3 hpa hwp
      go_wp2_with (go_at_call 59;fail)
      rw[Hwp.out]
      refine hcall.mono ?_
      rintro e w3 ⟨rfl,hb3⟩
      have hb4:=hb5.trans (hb3.mono hb5.size)
      clear hcall hb3 hbr hb2 hb5 hbp x0 x1 x2 x3 x4 x5 x6 p0 p1 p2 p3 p4 p5 p6
      go_wp2
      go_ret
      exact⟨by rw[hq.out];rfl,hb4⟩
     | true=>
      have hst:Hid (∀y∈ps.take (j+1),y.nest d=true):=hide (fun y hy=>by
       rw[List.take_add_one,hp] at hy
       simp only[Option.toList_some,List.mem_append,List.mem_singleton] at hy
       rcases hy with hy | rfl
       ·exact hpre.out y hy
       ·exact hpa)
      rw[hpa] at hcall
      clear HD HP Hih Hnp hpre hr hp HD1 HP1 hparts hpart hcp2 hcp3 hpa hwp
      go_wp2_with (go_at_call 59;fail)
      rw[Hwp.out]
      refine hcall.mono ?_
      rintro e w3 ⟨rfl,hb3⟩
      have hb4:=hide (hb5.trans (hb3.mono hb5.size))
      clear hcall hb3 hbr hb2 hb5 hbp x0 x1 x2 x3 x4 x5 x6 p0 p1 p2 p3 p4 p5 p6
      go_wp2
      go_roundg r
      case measure=>omega
      case rel=>exact⟨j+1,by omega,by go_num,hst,hb4⟩
theorem jFormed_any (t:FT) (w:World) (u0 u1 u2 u3 u4 u5 u6:Value) (hF:FIn w w.heap.size t [u0,u1,u2,u3,u4,u5,u6]):
  Calls Tryz.prog 21 #[.agg #[u0,u1,u2,u3,u4,u5,u6]] w fun e w'=>e=.returned (.bool t.formed)/\Below w.heap.size w w':=by
 cases t with
 | mk k a v f l any ps=>
 have hF0:=hF
 simp only[FIn] at hF
 obtain⟨A,c,D,dd,xs,hcs,⟨hml,hnl⟩,hA,hD,hP⟩:=hF
 cases hcs
 unfold maxLen at hml hnl
 obtain⟨m,hm⟩:∃m,any.length=m:=⟨_,rfl⟩
 obtain⟨np,hnp⟩:∃np,ps.length=np:=⟨_,rfl⟩
 have hml1:(m:Int)<=9223372036854775807:=by omega
 have hnl1:(np:Int)<=9223372036854775807:=by omega
 have hX:=Box7.new w k (txt a) (txt v) (txt f) (txt l) A any.length c D ps.length dd 39
 have hb0:=below1 w (.cells #[.int .i64 k,.string (txt a),.string (txt v),.string (txt f),.string (txt l),.slice A any.length c,.slice D ps.length dd] 39)
 obtain⟨w1,hw1⟩:∃w1,(w.alloc (.cells #[.int .i64 k,.string (txt a),.string (txt v),.string (txt f),.string (txt l),.slice A any.length c,.slice D ps.length dd] 39))=w1:=⟨_,rfl⟩
 rw[hw1] at hX hb0
 have hF1:=hF0.grow hb0
 have hA1:=(hA.below hb0).upto hb0.size
 rw[hm,hnp] at hX hw1 hF1 ⊢
 rw[hm] at hA1
 have Hw1:=hide hw1
 obtain⟨t0,ht0⟩:∃t0,FT.mk k a v f l any ps=t0:=⟨_,rfl⟩
 rw[ht0] at hF1 ⊢
 have hN:=jnodes_any t0 w1 _ _ _ _ _ _ _ hF1
 have hFo:=fun w2 (hb:Below w1.heap.size w1 w2)=>jformed_any t0 20 (by omega) w2 _ _ _ _ _ _ _ (hF1.grow hb)
 obtain⟨y,hy⟩:∃y:Nat,min t0.nodes 41=y:=⟨_,rfl⟩
 obtain⟨R,hR⟩:∃R,t0.formed=R:=⟨_,rfl⟩
 obtain⟨ne,hne⟩:∃ne,t0.nest 20=ne:=⟨_,rfl⟩
 have hRd:R=(decide (t0.nodes<=40)&&ne):=by rw[<-hR,<-hne,FT.formed_nest]
 rw[hy] at hN
 rw[hne] at hFo
 rw[hR]
 have HFo:=hide hFo
 have HX:=hide hX
 clear hA hD hP hm hnp hml hnl hR hne ht0 hF0 hF1 hA1 hw1 hFo
 generalize txt a=sa at *
 generalize txt v=sv at *
 generalize txt f=sf at *
 generalize txt l=sl at *
 obtain⟨_,c0,c1,c2,c3,c4,c5,c6⟩:=hX
 by_cases h1:t0.nodes<=40
 ·have z1:(y:Int)<=40:=by omega
  rw[decide_eq_true h1,Bool.true_and] at hRd
  have hr:=hide hRd
  clear hRd hy h1
  go_enter Tryz.func21,Tryz.ntmps21
  go_upto_region 1 with fail
  rw[Hw1.out]
  clear Hw1
  go_wp2_with (go_at_call 58;fail)
  refine hN.mono ?_
  rintro e w2 ⟨rfl,hb2⟩
  have hFo:=HFo.out w2 hb2
  have hX2:=HX.out.below HX.out.lt hb2
  have hb3:=hb0.trans (hb2.mono hb0.size)
  clear hN hb2 HX hb0 HFo c0 c1 c2 c3 c4 c5 c6
  obtain⟨_,c0,c1,c2,c3,c4,c5,c6⟩:=hX2
  go_wp2_with (go_at_call 59;fail)
  refine hFo.mono ?_
  rintro e w3 ⟨rfl,hb4⟩
  have hb5:=hb3.trans (hb4.mono hb3.size)
  clear hFo hb4 hb3 c0 c1 c2 c3 c4 c5 c6
  go_wp2
  go_ret
  exact⟨by rw[hr.out];try rfl,hb5⟩
 ·have z1:¬((y:Int)<=40):=by omega
  rw[decide_eq_false h1,Bool.false_and] at hRd
  have hr:=hide hRd
  clear hRd hy h1 HFo HX
  go_enter Tryz.func21,Tryz.ntmps21
  go_upto_region 1 with fail
  rw[Hw1.out]
  clear Hw1
  go_wp2_with (go_at_call 58;fail)
  refine hN.mono ?_
  rintro e w2 ⟨rfl,hb2⟩
  have hb3:=hb0.trans (hb2.mono hb0.size)
  clear hN hb2 hb0 c0 c1 c2 c3 c4 c5 c6
  go_wp2
  go_ret
  exact⟨by rw[hr.out];rfl,hb3⟩
end Go.Proofs.YtcpjmgfloimfhaaGreat
