/- Several texts in one: ESmall, YSmall, YMem, YAlias, YAt. By an AI agent. -/
import Derived.Test.YtiobnllopliclaaGreatDoorEX
import Derived.Deep.CutRange
import Derived.Deep.CutBlock
import Derived.BigQuiet
set_option maxRecDepth 100000
set_option maxHeartbeats 64000000
namespace Go.Proofs.YtiobnllopliclaaGreatDoor
open Go.RowKit
set_option linter.unusedVariables false
set_option linter.unusedSimpArgs false
abbrev EN:=List UInt8 × List EA
structure ENs (w:World) (B:Nat) (xs:List Value) (L:List EN):Prop where
 len:xs.length=L.length*2
 each:∀(i:Nat) (e:EN),L[i]?=some e→∃A c ys,xs[i*2]?=some (.string (txt e.1))∧xs[i*2+1]?=some (.slice A e.2.length c)∧e.2.length≤c∧c≤maxLen∧Has w B 2 A e.2.length ys∧EAs w B ys e.2
theorem ENs.below {w w':World} {B:Nat} {xs:List Value} {L:List EN} (h:ENs w B xs L) (hb:Below B w w'):ENs w' B xs L:=
 ⟨h.len,fun i a ha=>by obtain⟨A,c,ys,h1,h2,k1,k2,h3,h4⟩:=h.each i a ha;exact⟨A,c,ys,h1,h2,k1,k2,h3.below hb,h4.below hb⟩⟩
theorem ENs.upto {w:World} {B B':Nat} {xs:List Value} {L:List EN} (h:ENs w B xs L) (hB:B≤B'):ENs w B' xs L:=
 ⟨h.len,fun i a ha=>by obtain⟨A,c,ys,h1,h2,k1,k2,h3,h4⟩:=h.each i a ha;exact⟨A,c,ys,h1,h2,k1,k2,h3.upto hB,h4.upto hB⟩⟩
theorem ENs.grow {w w':World} {xs:List Value} {L:List EN} (h:ENs w w.heap.size xs L) (hb:Below w.heap.size w w'):ENs w' w'.heap.size xs L:=(h.below hb).upto hb.size
structure EnAt (w:World) (B g o:Nat) (e:EN) (A:Option Addr) (c:Nat) (ys:List Value):Prop where
 e0:w.cell? ⟨g,o,none⟩=some (.string (txt e.1))
 e1:w.cell? ⟨g,o+1,none⟩=some (.slice A e.2.length c)
 cap:e.2.length≤c
 most:c≤maxLen
 has:Has w B 2 A e.2.length ys
 attrs:EAs w B ys e.2
theorem Has.en {w:World} {B n:Nat} {A:Option Addr} {xs:List Value} {L:List EN} (h:Has w B 2 A n xs) (hL:ENs w B xs L) (hn:L≠[]):
  ∃g o,A=some ⟨g,o,none⟩∧g<B∧∀(i:Nat) (e:EN),L[i]?=some e→∃V c ys,EnAt w B g (o+i*2) e V c ys:=by
 have hp:=List.length_pos_iff.2 hn
 obtain⟨g,o,rfl,hg,hc⟩:=h.lies (by rw[hL.len];omega)
 refine⟨g,o,rfl,hg,fun i a ha=>?_⟩
 obtain⟨V,c,ys,h1,h2,k1,k2,h3,h4⟩:=hL.each i a ha
 exact⟨V,c,ys,hc _ _ h1,by have:=hc _ _ h2;rwa [←Nat.add_assoc] at this,k1,k2,h3,h4⟩
theorem Has.ens_n {w:World} {B n:Nat} {A:Option Addr} {xs:List Value} {L:List EN} (h:Has w B 2 A n xs) (hL:ENs w B xs L):n=L.length:=by
 have h1:=h.1
 have h2:=hL.len
 omega
end Go.Proofs.YtiobnllopliclaaGreatDoor
namespace Go.Proofs.YtiobnllopliclaaGreatDoor
open Go.RowKit
set_option linter.unusedVariables false
set_option linter.unusedSimpArgs false
section
variable {α:Type} (f:α→Nat)
theorem sum_take {l:List α} {i:Nat} {x:α} (h:l[i]?=some x):((l.take (i+1)).map f).sum=((l.take i).map f).sum+f x:=by
 rw[List.take_add_one,h]
 simp
theorem sum_take_le (l:List α) (i:Nat):((l.take i).map f).sum≤(l.map f).sum:=by
 conv=>rhs;rw[←List.take_append_drop i l]
 rw[List.map_append,List.sum_append]
 omega
theorem sum_bound:∀(l:List α) (B:Nat),(∀x∈l,f x≤B)→(l.map f).sum≤l.length*B
 | [],B,_=>by simp
 | x::l,B,h=>by
  have h1:=h x (by simp)
  have h2:=sum_bound l B fun y hy=>h y (by simp[hy])
  simp only[List.map_cons,List.sum_cons,List.length_cons,Nat.succ_mul]
  omega
theorem sum_mem:∀{l:List α} {x:α},x∈l→f x≤(l.map f).sum
 | y::l,x,h=>by
  simp only[List.map_cons,List.sum_cons]
  rcases List.mem_cons.1 h with rfl | h
  ·omega
  ·have:=sum_mem h;omega
theorem sum_len:∀(l:List α),(∀x∈l,1≤f x)→l.length≤(l.map f).sum
 | [],_=>by simp
 | x::l,h=>by
  have h1:=h x (by simp)
  have h2:=sum_len l fun y hy=>h y (by simp[hy])
  simp only[List.map_cons,List.sum_cons,List.length_cons]
  omega
end
def vW (x:List UInt8):Nat:=x.length/100
def aW (a:EA):Nat:=1+a.2.length+(a.2.map vW).sum
def eW (e:EN):Nat:=1+e.1.length/100+(e.2.map aW).sum
def nW (L:List EN):Nat:=(L.map eW).sum
def BulkN (e:EN):Prop:=e.1.length≤1048576∧e.2.length≤1048576∧∀a∈e.2,a.2.length≤1048576∧∀u∈a.2,u.length≤1048576
theorem aW_bulk {a:EA} (h:a.2.length≤1048576∧∀u∈a.2,u.length≤1048576):aW a≤11000000000:=by
 have h1:=sum_bound vW a.2 10486 fun u hu=>by have:=h.2 u hu;unfold vW;omega
 have h2:a.2.length*10486≤1048576*10486:=Nat.mul_le_mul_right _ h.1
 unfold aW
 have:=h.1
 omega
theorem eW_bulk {e:EN} (h:BulkN e):eW e≤19000000000000000:=by
 have h1:=sum_bound aW e.2 11000000000 fun a ha=>aW_bulk (h.2.2 a ha)
 have h2:e.2.length*11000000000≤1048576*11000000000:=Nat.mul_le_mul_right _ h.2.1
 unfold eW
 have:=h.1
 omega
structure SmallN (L:List EN):Prop where
 len:L.length≤3000
 name:∀e∈L,e.1.length≤400000
 attrs:∀e∈L,e.2.length≤3000
 each:∀e∈L,∀a∈e.2,a.2.length≤3000∧∀u∈a.2,u.length≤400000
theorem small_ofN {L:List EN} (h:nW L≤3000):SmallN L:=by
 have he:∀e∈L,eW e≤3000:=fun e hm=>Nat.le_trans (sum_mem eW hm) h
 refine⟨Nat.le_trans (sum_len eW L fun e _=>by unfold eW;omega) h,fun e hm=>?_,fun e hm=>?_,fun e hm a ha=>?_⟩
 ·have:=he e hm
  unfold eW at this
  omega
 ·have:=he e hm
  have h2:=sum_len aW e.2 fun a _=>by unfold aW;omega
  unfold eW at this
  omega
 ·have:=he e hm
  have h2:=sum_mem aW ha
  unfold eW at this
  have h3:aW a≤3000:=by omega
  unfold aW at h3
  refine⟨by omega,fun u hu=>?_⟩
  have:=sum_mem vW hu
  unfold vW at this h3
  omega
theorem rsmallE_all (L:List EN) (w:World) (A:Option Addr) (n c:Nat) (xs:List Value) (hA:Has w w.heap.size 2 A n xs) (hL:ENs w w.heap.size xs L) (hn:n≤1048576) (hs:∀e∈L,BulkN e):
  Calls Tryz.prog 30 #[.slice A n c] w fun e w'=>e=.returned (.bool (decide (nW L≤3000)))∧w'=w:=by
 have hnl:=hA.ens_n hL
 obtain⟨b,hb⟩:∃b,decide (nW L≤3000)=b:=⟨_,rfl⟩
 rw[hb]
 have Hb:=hide hb
 have HA:=hide hA
 have HL:=hide hL
 have HN:=hide hnl
 have HS:=hide hs
 clear hA hL hnl hs hb
 go_enter Tryz.func30,Tryz.ntmps30
 go_wp2
 go_loopg [3,9] n (fun r s3 s9 wx=>∃i p:Nat,i+r=n∧s9=.int .i64 (i:Int)∧s3=.int .i64 (p:Int)∧p≤3000∧Hid (p=nW (L.take i))∧wx=w)
 case atStart=>exact⟨0,0,by omega,rfl,rfl,by omega,hide (by simp[nW]),rfl⟩
 case round=>
  obtain⟨i,p,hig,rfl,rfl,hp3,hpre,rfl⟩:=hrel
  cases gk with
  | zero=>
   obtain rfl:n=i:=by omega
   have hiz:¬((n:Int)<(n:Int)):=by omega
   have hbt:Hid (b=true):=hide (by
    rw[←Hb.out]
    have:=hpre.out
    rw[List.take_of_length_le (by rw[HN.out];exact Nat.le_refl _)] at this
    exact decide_eq_true (by omega))
   clear HA HL HN HS hpre Hb
   go_wp2
   go_ret
   exact⟨by rw[hbt.out];rfl,rfl⟩
  | succ r=>
   have hi:i<n:=by omega
   have hiz:(i:Int)<(n:Int):=by omega
   obtain⟨e,he⟩:∃e,L[i]?=some e:=⟨_,List.getElem?_eq_getElem (by rw[←HN.out];exact hi)⟩
   obtain⟨g,o,hAe,hg,hat⟩:=HA.out.en HL.out (fun h=>by rw[h] at he;simp at he)
   subst hAe
   obtain⟨V,cv,ys,hai⟩:=hat i e he
   have e0:=hai.e0
   have e1:=hai.e1
   have hbe:=HS.out e (List.mem_of_getElem? he)
   have hlim:=eW_bulk hbe
   obtain⟨dl,hdl⟩:∃dl,e.1.length/100=dl:=⟨_,rfl⟩
   have hnext:=sum_take eW he
   obtain⟨m,hm⟩:∃m,e.2.length=m:=⟨_,rfl⟩
   rw[hm] at e1
   have Hst:Hid (∀j,p+1+dl+((e.2.take j).map aW).sum≤20000000000000000):=hide fun j=>by
    have:=sum_take_le aW e.2 j
    unfold eW at hlim
    omega
   have Hnx:Hid (p+1+dl+(e.2.map aW).sum=nW (L.take (i+1))):=hide (by
    have:=hpre.out
    unfold nW at this ⊢
    rw[hnext]
    unfold eW at this ⊢
    omega)
   have Hle:Hid (nW (L.take (i+1))≤nW L):=hide (sum_take_le eW L (i+1))
   have hm6:m≤1048576:=by rw[←hm];exact hbe.2.1
   have hsz:=txt_size e.1
   have hl6:=hbe.1
   have hsz6:(txt e.1).size≤1048576:=by omega
   have d2:Int.tdiv ((txt e.1).size:Int) 100=(dl:Int):=by rw[Int.tdiv_eq_ediv_of_nonneg (by omega)];omega
   have hdl6:dl≤20000:=by omega
   have Hm:=hide hm
   have Ha:=hide hai.attrs
   have Hh:Hid (Has wr wr.heap.size 2 V m ys):=hide (by rw[←hm];exact hai.has)
   have Hbe:=hide hbe
   have hstart:Hid (p+1+dl=p+1+dl+((e.2.take 0).map aW).sum):=hide (by simp)
   clear hai hat hm he hbe hlim hnext hdl hl6 hsz hpre
   generalize txt e.1=T at *
   go_wp2
   go_loopg [3,28] m (fun r2 s3 s28 wx=>∃j q:Nat,j+r2=m∧s28=.int .i64 (j:Int)∧s3=.int .i64 (q:Int)∧q≤20000000000000000∧Hid (q=p+1+dl+((e.2.take j).map aW).sum)∧wx=wr)
   case atStart=>exact⟨0,p+1+dl,by omega,rfl,by go_num,by have:=Hst.out 0;simp at this;omega,hstart,rfl⟩
   case round=>
    obtain⟨j,q,hjg,rfl,rfl,hq9,hpre,hw⟩:=hrel
    obtain rfl:=hw.symm
    clear hw
    cases gk with
    | zero=>
     obtain rfl:m=j:=by omega
     have hjz:¬((m:Int)<(m:Int)):=by omega
     have hqe:Hid (q=nW (L.take (i+1))):=hide (by
      have:=hpre.out
      rw[List.take_of_length_le (by rw[Hm.out];exact Nat.le_refl _)] at this
      rw[this]
      exact Hnx.out)
     clear Ha Hh Hbe Hm Hst Hnx hpre hstart
     by_cases hy:3000<q
     ·have hyz:(3000:Int)<(q:Int):=by omega
      have hbf:Hid (b=false):=hide (by
       rw[←Hb.out]
       refine decide_eq_false ?_
       have h1:=hqe.out
       have h2:=Hle.out
       omega)
      clear hqe Hle HA HL HN HS Hb
      go_wp2
      go_ret
      exact⟨by rw[hbf.out];rfl,rfl⟩
     ·have hyz:¬(3000:Int)<(q:Int):=by omega
      clear Hle
      go_wp2
      go_roundg r
      case measure=>omega
      case rel=>exact⟨i+1,q,by omega,by go_num,rfl,by omega,hqe,rfl⟩
    | succ r2=>
     have hj:j<m:=by omega
     have hjz:(j:Int)<(m:Int):=by omega
     obtain⟨a,ha⟩:∃a,e.2[j]?=some a:=⟨_,List.getElem?_eq_getElem (by rw[Hm.out];exact hj)⟩
     obtain⟨g2,o2,hVe,hg2,hat2⟩:=Hh.out.ea Ha.out (fun h=>by rw[h] at ha;simp at ha)
     subst hVe
     obtain⟨U,cu,hai2⟩:=hat2 j a ha
     have f1:=hai2.e1
     have hba:=Hbe.out.2.2 a (List.mem_of_getElem? ha)
     have hnext:=sum_take aW ha
     obtain⟨k,hk⟩:∃k,a.2.length=k:=⟨_,rfl⟩
     rw[hk] at f1
     have hlim:=Hst.out (j+1)
     have hpo:=hpre.out
     have Hnx2:Hid (q+1+k+(a.2.map vW).sum=p+1+dl+((e.2.take (j+1)).map aW).sum):=hide (by
      rw[hnext,hpo]
      unfold aW
      rw[hk]
      omega)
     have Hst2:Hid (∀l,q+1+k+((a.2.take l).map vW).sum≤20000000000000000):=hide fun l=>by
      have:=sum_take_le vW a.2 l
      have:=Hnx2.out
      omega
     have hk6:k≤1048576:=by rw[←hk];exact hba.1
     have Hk:=hide hk
     have Hu:Hid (Has wr wr.heap.size 1 U k (strs a.2)):=hide (by rw[←hk];exact hai2.has)
     have Hba:=hide hba
     have hstart2:Hid (q+1+k=q+1+k+((a.2.take 0).map vW).sum):=hide (by simp)
     clear hai2 hat2 hk ha hba hnext hlim hpo hpre
     go_wp2
     go_loopg [3,54] k (fun r3 s3 s54 wx=>∃l z:Nat,l+r3=k∧s54=.int .i64 (l:Int)∧s3=.int .i64 (z:Int)∧z≤20000000000000000∧Hid (z=q+1+k+((a.2.take l).map vW).sum)∧wx=wr)
     case atStart=>exact⟨0,q+1+k,by omega,rfl,by go_num,by have:=Hst2.out 0;simp at this;omega,hstart2,rfl⟩
     case round=>
      obtain⟨l,z,hlg,rfl,rfl,hz9,hpre,hw⟩:=hrel
      obtain rfl:=hw.symm
      clear hw
      cases gk with
      | zero=>
       obtain rfl:k=l:=by omega
       have hlz:¬((k:Int)<(k:Int)):=by omega
       have hze:Hid (z=p+1+dl+((e.2.take (j+1)).map aW).sum):=hide (by
        have:=hpre.out
        rw[List.take_of_length_le (by rw[Hk.out];exact Nat.le_refl _)] at this
        rw[this]
        exact Hnx2.out)
       clear Hu Hk Hba Hst2 Hnx2 hpre hstart2
       go_wp2
       go_roundg r2
       case measure=>omega
       case rel=>exact⟨j+1,z,by omega,by go_num,rfl,hz9,hze,rfl⟩
      | succ r3=>
       have hl:l<k:=by omega
       have hlz:(l:Int)<(k:Int):=by omega
       obtain⟨v,hv⟩:∃v,a.2[l]?=some v:=⟨_,List.getElem?_eq_getElem (by rw[Hk.out];exact hl)⟩
       obtain⟨g3,o3,hUe,hg3,hat3⟩:=Hu.out.texts (fun h=>by rw[h] at hv;simp at hv)
       subst hUe
       have d0:=hat3 l v hv
       have hvs:=txt_size v
       have hv6:=Hba.out.2 v (List.mem_of_getElem? hv)
       have hnext:=sum_take vW hv
       have hlim:=Hst2.out (l+1)
       have hpo:=hpre.out
       obtain⟨dv,hdv⟩:∃dv,v.length/100=dv:=⟨_,rfl⟩
       have hz2:Hid (z+dv=q+1+k+((a.2.take (l+1)).map vW).sum):=hide (by rw[hnext];unfold vW at hpo ⊢;rw[hdv];omega)
       have hzl:z+dv≤20000000000000000:=by rw[hz2.out];exact hlim
       have d2:Int.tdiv ((txt v).size:Int) 100=(dv:Int):=by rw[Int.tdiv_eq_ediv_of_nonneg (by omega)];omega
       have hvs6:(txt v).size≤1048576:=by omega
       generalize txt v=SV at *
       clear hat3 hv hvs hv6 hnext hlim hpo hdv hpre Hst2 Hnx2 Hba hstart2
       go_wp2
       go_roundg r3
       case measure=>omega
       case rel=>exact⟨l+1,z+dv,by omega,by go_num,by go_num,hzl,hz2,rfl⟩
end Go.Proofs.YtiobnllopliclaaGreatDoor
namespace Go.Proofs.YtiobnllopliclaaGreatDoor
open Go.RowKit
set_option linter.unusedVariables false
def HasP (w:World) (P:Nat→Prop) (size:Nat) (A:Option Addr) (n:Nat) (xs:List Value):Prop:=
 xs.length=n*size∧(xs=[]∨∃ad,A=some ad∧P ad.block∧∀j u,xs[j]?=some u→w.cell? (ad.add j)=some u)
section
variable {w w':World} {P P':Nat→Prop} {B size n:Nat} {A:Option Addr} {xs:List Value}
theorem HasP.has (h:HasP w P size A n xs) (hP:∀b,P b→b<B):Has w B size A n xs:=
 ⟨h.1,h.2.imp id fun ⟨ad,e,hb,hc⟩=>⟨ad,e,hP _ hb,hc⟩⟩
theorem HasP.move (h:HasP w P size A n xs) (hc:∀p:Addr,P p.block→w'.cell? p=w.cell? p) (hP:∀b,P b→P' b):HasP w' P' size A n xs:=
 ⟨h.1,h.2.imp id fun ⟨ad,e,hb,hx⟩=>⟨ad,e,hP _ hb,fun j u hu=>(hc _ (by rw[block_add];exact hb)).trans (hx j u hu)⟩⟩
end
structure EAsP (w:World) (P:Nat→Prop) (xs:List Value) (L:List EA):Prop where
 len:xs.length=L.length*2
 each:∀(i:Nat) (a:EA),L[i]?=some a→∃A c,xs[i*2]?=some (.string (txt a.1))∧xs[i*2+1]?=some (.slice A a.2.length c)∧a.2.length≤c∧c≤maxLen∧HasP w P 1 A a.2.length (strs a.2)
structure ENsP (w:World) (P:Nat→Prop) (xs:List Value) (L:List EN):Prop where
 len:xs.length=L.length*2
 each:∀(i:Nat) (e:EN),L[i]?=some e→∃A c ys,xs[i*2]?=some (.string (txt e.1))∧xs[i*2+1]?=some (.slice A e.2.length c)∧e.2.length≤c∧c≤maxLen∧HasP w P 2 A e.2.length ys∧EAsP w P ys e.2
section
variable {w w':World} {P P':Nat→Prop} {B:Nat} {xs:List Value}
theorem EAsP.eas {L:List EA} (h:EAsP w P xs L) (hP:∀b,P b→b<B):EAs w B xs L:=
 ⟨h.len,fun i a ha=>by obtain⟨A,c,h1,h2,k1,k2,h3⟩:=h.each i a ha;exact⟨A,c,h1,h2,k1,k2,h3.has hP⟩⟩
theorem EAsP.move {L:List EA} (h:EAsP w P xs L) (hc:∀p:Addr,P p.block→w'.cell? p=w.cell? p) (hP:∀b,P b→P' b):EAsP w' P' xs L:=
 ⟨h.len,fun i a ha=>by obtain⟨A,c,h1,h2,k1,k2,h3⟩:=h.each i a ha;exact⟨A,c,h1,h2,k1,k2,h3.move hc hP⟩⟩
theorem ENsP.ens {L:List EN} (h:ENsP w P xs L) (hP:∀b,P b→b<B):ENs w B xs L:=
 ⟨h.len,fun i a ha=>by obtain⟨A,c,ys,h1,h2,k1,k2,h3,h4⟩:=h.each i a ha;exact⟨A,c,ys,h1,h2,k1,k2,h3.has hP,h4.eas hP⟩⟩
theorem ENsP.move {L:List EN} (h:ENsP w P xs L) (hc:∀p:Addr,P p.block→w'.cell? p=w.cell? p) (hP:∀b,P b→P' b):ENsP w' P' xs L:=
 ⟨h.len,fun i a ha=>by obtain⟨A,c,ys,h1,h2,k1,k2,h3,h4⟩:=h.each i a ha;exact⟨A,c,ys,h1,h2,k1,k2,h3.move hc hP,h4.move hc hP⟩⟩
theorem ENsP.nil:ENsP w P [] []:=⟨rfl,fun i a ha=>by simp at ha⟩
theorem ENsP.snoc {L:List EN} (h:ENsP w P xs L) {a:EN} {A:Option Addr} {c:Nat} {ys:List Value} (hc:a.2.length≤c) (hm:c≤maxLen) (hH:HasP w P 2 A a.2.length ys) (hE:EAsP w P ys a.2):ENsP w P (xs++[.string (txt a.1),.slice A a.2.length c]) (L++[a]):=by
 refine⟨by simp[h.len];omega,fun i q hq=>?_⟩
 by_cases hi:i<L.length
 ·rw [List.getElem?_append_left hi] at hq
  obtain⟨A',c',zs,h1,h2,h3⟩:=h.each i q hq
  have hl:=h.len
  exact⟨A',c',zs,by rw[List.getElem?_append_left (by omega)];exact h1,by rw[List.getElem?_append_left (by omega)];exact h2,h3⟩
 ·have hi2:i=L.length:=by
   have:=(List.getElem?_eq_some_iff.1 hq).1
   simp at this;omega
  subst hi2
  simp at hq
  subst hq
  exact⟨A,c,ys,by rw[List.getElem?_append_right (by rw[h.len];exact Nat.le_refl _),h.len];simp,by rw[List.getElem?_append_right (by rw[h.len];omega),h.len];simp,hc,hm,hH,hE⟩
end
def NewB (b0 b1 b:Nat):Prop:=b0≤b∧b<b1
structure RowN (w:World) (base:Nat) (E:TypeId) (v:Value) (xs:List Value) (L:List EN):Prop where
 own:w.ownsRow base E 2 v L.length xs
 ents:ENsP w (fun b=>base≤b∧b<w.heap.size∧some b≠v.ownBlock) xs L
section
variable {w w':World} {base:Nat} {E:TypeId} {v v':Value} {xs:List Value}
theorem RowN.start (h:w.ownsRow base E 2 v 0 []):RowN w base E v [] []:=⟨h,ENsP.nil⟩
theorem RowN.below {L:List EN} (h:RowN w base E v xs L) (hb:Below w.heap.size w w'):RowN w' base E v xs L:=
 ⟨own_below h.own hb,h.ents.move (fun p hp=>hb.cell hp.2.1) fun b hb2=>⟨hb2.1,Nat.lt_of_lt_of_le hb2.2.1 hb.size,hb2.2.2⟩⟩
theorem grown_cells {row:Option Nat} (hg:w.grownBy w' row):∀p:Addr,(base≤p.block∧p.block<w.heap.size∧some p.block≠row)→w'.cell? p=w.cell? p:=
 fun p hp=>World.cell?_of_block (hg.block _ hp.2.1 hp.2.2)
theorem grown_off (hg:w.grownBy w' v.ownBlock) (ht:v'.ownBlock=v.ownBlock∨v'.ownBlock=some w.heap.size):∀b,(base≤b∧b<w.heap.size∧some b≠v.ownBlock)→base≤b∧b<w'.heap.size∧some b≠v'.ownBlock:=fun b hb=>by
 refine⟨hb.1,Nat.lt_of_lt_of_le hb.2.1 hg.size,?_⟩
 rcases ht with ht | ht
 ·rw [ht];exact hb.2.2
 ·rw [ht];intro e;have:=Option.some.inj e;omega
theorem RowN.snoc {L:List EN} (h:RowN w base E v xs L) {a:EN} {A:Option Addr} {c:Nat} {ys:List Value} (hc:a.2.length≤c) (hm:c≤maxLen) (hH:HasP w (fun b=>base≤b∧b<w.heap.size∧some b≠v.ownBlock) 2 A a.2.length ys)
  (hE:EAsP w (fun b=>base≤b∧b<w.heap.size∧some b≠v.ownBlock) ys a.2)
  (hown:w'.ownsRow base E 2 v' (L.length+1) (xs++[.string (txt a.1),.slice A a.2.length c])) (hg:w.grownBy w' v.ownBlock) (ht:v'.ownBlock=v.ownBlock∨v'.ownBlock=some w.heap.size):
  RowN w' base E v' (xs++[.string (txt a.1),.slice A a.2.length c]) (L++[a]):=
 ⟨by rw[List.length_append];exact hown,(h.ents.move (grown_cells hg) (grown_off hg ht)).snoc hc hm (hH.move (grown_cells hg) (grown_off hg ht)) (hE.move (grown_cells hg) (grown_off hg ht))⟩
theorem new_off {n size:Nat} {w0:World} (ho:w0.ownsRow base E size v n xs) (hb:base≤w0.heap.size) {b1:Nat}:∀b,NewB w0.heap.size b1 b→base≤b∧b<b1∧some b≠v.ownBlock:=fun b h=>by
 refine⟨Nat.le_trans hb h.1,h.2,fun e=>?_⟩
 have:=(ho.lt b e.symm).2
 have:=h.1
 omega
theorem own_most {n size:Nat} {A:Option Addr} {c:Nat} (h:w.ownsRow base E size (.slice A n c) n xs):c≤maxLen:=(own_caps h).2
end
end Go.Proofs.YtiobnllopliclaaGreatDoor
namespace Go.Proofs.YtiobnllopliclaaGreatDoor
open Go.RowKit
set_option linter.unusedVariables false
set_option linter.unusedSimpArgs false
def aliT:List UInt8:=[97,108,105,97,115,101,100,79,98,106,101,99,116,78,97,109,101]
def aliC:List UInt8:=[97,108,105,97,115]
open Classical in
noncomputable def aliasE (L:List EA):List UInt8 × Bool:=
 match valuesE L aliT with
 | v::_=>if HasE L clsT aliC then ((valV aliT v).1,(valV aliT v).2==0) else ([],false)
 | []=>([],false)
theorem ralias_any (nm:List UInt8) (L:List EA) (w:World) (A:Option Addr) (n c:Nat) (xs:List Value) (hA:Has w w.heap.size 2 A n xs) (hL:EAs w w.heap.size xs L) (hn:n≤1000000)
  (hvs:∀a∈L,a.2.length≤1000000∧∀u∈a.2,u.length≤1000000) (hT:TM w):
  Calls Tryz.prog 28 #[.agg #[.string (txt nm),.slice A n c]] w fun e w'=>e=.returned (.tuple #[.string (txt (aliasE L).1),.bool (aliasE L).2])∧Below w.heap.size w w':=by
 have hb1:=below1 w (.cells #[.string (txt nm),.slice A n c] 26)
 have hX:=BoxE.new w (txt nm) A n c 26
 obtain⟨w1,hw1⟩:∃w1,w.alloc (.cells #[.string (txt nm),.slice A n c] 26)=w1:=⟨_,rfl⟩
 rw[hw1] at hb1 hX
 have hVa:=fun w hA hL=>rvals_any nm L aliT w A n c xs hA hL hn (by decide) (fun a ha=>(hvs a ha).1)
 have hHa:=fun w hA hL hT=>rhas_any nm L clsT aliC w A n c xs hA hL hn (by decide) (by decide) hvs hT
 have hlen:∀u∈valuesE L aliT,u.length≤1000000:=by
  unfold valuesE
  split
  ·simp
  ·rcases pick_mem L (typ aliT).1 with h | ⟨a,ha,h⟩
   ·rw [h];simp
   ·rw [h];exact (hvs a ha).2
 have hva:txt aliT=(⟨#[97,108,105,97,115,101,100,79,98,106,101,99,116,78,97,109,101]⟩:ByteArray):=rfl
 have hc1:txt clsT=(⟨#[111,98,106,101,99,116,67,108,97,115,115]⟩:ByteArray):=rfl
 have hc2:txt aliC=(⟨#[97,108,105,97,115]⟩:ByteArray):=rfl
 have hVl:=fun v (hv:v∈valuesE L aliT) w hT=>rvalue_big aliT v (by decide) (hlen v hv) w hT
 rw[hva] at hVa hVl
 rw[hc1,hc2] at hHa
 have hdef:aliasE L=match valuesE L aliT with
  | v::_=>@ite _ (HasE L clsT aliC) (Classical.propDecidable _) ((valV aliT v).1,(valV aliT v).2==0) ([],false)
  | []=>([],false):=rfl
 rw[hdef]
 generalize valuesE L aliT=R at *
 obtain⟨b,hb⟩:∃b,Tr (HasE L clsT aliC)=b:=⟨_,rfl⟩
 rw[hb] at hHa
 have HA:=hide ((hA.below hb1).upto hb1.size)
 have HL:=hide (hL.grow hb1)
 have HT:=hide (hT.below hb1)
 have HX:=hide hX
 have HB:=hide hb1
 have HVa:=hide hVa
 have HHa:=hide hHa
 have HVl:=hide hVl
 have Hw1:=hide hw1
 clear hb1 hX hw1 hVa hHa hVl hlen hva hc1 hc2 hdef hA hL hT hvs
 generalize txt nm=SN at *
 have main:∀(S:ByteArray) (bb:Bool),(R=[]→S=⟨#[]⟩∧bb=false)→(b=false→S=⟨#[]⟩∧bb=false)→(∀v r,R=v::r→b=true→S=txt (valV aliT v).1∧bb=((valV aliT v).2==0))→
   Calls Tryz.prog 28 #[.agg #[.string SN,.slice A n c]] w fun e w'=>e=.returned (.tuple #[.string S,.bool bb])∧Below w.heap.size w w':=by
  intro S bb h1 h2 h3
  have H1:=hide h1
  have H2:=hide h2
  have H3:=hide h3
  clear h1 h2 h3 hb
  go_enter Tryz.func28,Tryz.ntmps28
  go_upto_region 1 with fail
  rw[Hw1.out]
  have x0:=HX.out.c0
  have x1:=HX.out.c1
  go_wp2_with (go_at_call 36;fail)
  refine (HVa.out _ HA.out HL.out).mono ?_
  rintro e w2 hpost
  obtain⟨v2,rfl,hown2,hb2⟩:=hpost.out
  have HX2:=hide (HX.out.grow hb2)
  have HA2:=hide ((HA.out.below hb2).upto hb2.size)
  have HL2:=hide (HL.out.grow hb2)
  have HT2:=hide (HT.out.below hb2)
  have HB2:=hide (HB.out.trans (hb2.mono HB.out.size))
  obtain⟨A2,c2,rfl,hc2,hh2⟩:=own_form hown2
  have HR2:=hide hh2
  clear hpost hown2 hb2 HX HA HL HT HB HVa x0 x1 Hw1 hc2 hh2
  have x0:=HX2.out.c0
  have x1:=HX2.out.c1
  go_wp2_with (go_at_call 60;fail)
  refine (HHa.out _ HA2.out HL2.out HT2.out).mono ?_
  rintro e w3 ⟨rfl,hb3⟩
  have HT3:=hide (HT2.out.below hb3)
  have HB3:=hide (HB2.out.trans (hb3.mono HB2.out.size))
  have HR3:=hide ((HR2.out.below hb3).upto hb3.size)
  clear hb3 HX2 HA2 HL2 HT2 HB2 HHa x0 x1 HR2
  cases b with
  | false=>
   obtain⟨rfl,rfl⟩:=H2.out rfl
   clear H1 H2 H3 HR3 HVl
   go_wp2
   go_ret2
   exact⟨rfl,HB3.out⟩
  | true=>
   cases R with
   | nil=>
    obtain⟨rfl,rfl⟩:=H1.out rfl
    clear H1 H2 H3 HR3 HVl
    simp only[List.length_nil]
    go_wp2
    go_ret2
    exact⟨rfl,HB3.out⟩
   | cons v r=>
    obtain⟨rfl,rfl⟩:=H3.out v r rfl rfl
    obtain⟨g,o,hAe,hg,hat⟩:=HR3.out.texts (by simp)
    subst hAe
    have d0:=hat 0 v rfl
    rw[Nat.add_zero] at d0
    have Hcall:=hide (HVl.out v (by simp))
    have hk:(v::r).length=r.length+1:=rfl
    rw[hk]
    generalize r.length=k at *
    have hz:((((k+1:Nat):Int))==0)=false:=beq_false_of_ne (by omega)
    have hz2:¬(((k+1:Nat):Int))=0:=by omega
    have hlt:(0:Int)<((k+1:Nat):Int):=by omega
    generalize txt v=SV at *
    obtain⟨y,hy⟩:∃y,(valV aliT v).2=y:=⟨_,rfl⟩
    obtain⟨NV,hNV⟩:∃NV,txt (valV aliT v).1=NV:=⟨_,rfl⟩
    rw[hy,hNV] at Hcall
    have Hy:=hide hy
    have HNV:=hide hNV
    clear H1 H2 H3 HR3 HVl hat hk hy hNV
    go_wp2_with (go_at_call 37;fail)
    refine (Hcall.out _ HT3.out).mono ?_
    rintro e w4 ⟨rfl,hb4⟩
    have HB4:=hide (HB3.out.trans (hb4.mono HB3.out.size))
    clear hb4 HB3 Hcall
    go_wp2
    go_ret2
    exact⟨by rw[HNV.out,Hy.out];rfl,HB4.out⟩
 cases R with
 | nil=>exact main _ _ (fun _=>⟨rfl,rfl⟩) (fun _=>⟨rfl,rfl⟩) (fun v r h=>by cases h)
 | cons v r=>
  by_cases hh:HasE L clsT aliC
  ·simp only[if_pos hh]
   exact main _ _ (fun h=>by cases h) (fun h=>by rw[Tr_yes hh] at hb;rw[←hb] at h;cases h) (fun v' r' h _=>by cases h;exact⟨rfl,rfl⟩)
  ·simp only[if_neg hh]
   exact main _ _ (fun h=>by cases h) (fun _=>⟨rfl,rfl⟩) (fun v' r' _ h=>by rw[Tr_no hh] at hb;rw[←hb] at h;cases h)
end Go.Proofs.YtiobnllopliclaaGreatDoor
namespace Go.Proofs.YtiobnllopliclaaGreatDoor
open Go.RowKit
set_option linter.unusedVariables false
set_option linter.unusedSimpArgs false
def findN:List EN→List UInt8→Nat→Int
 | [],_,_=> -1
 | e::L,n,i=>if e.1=n then (i:Int) else findN L n (i+1)
noncomputable def atN (L:List EN) (nm:List UInt8):Int:=if (normT nm).2=0 then findN L (normT nm).1 0 else -1
theorem findN_drop {L:List EN} {i:Nat} {e:EN} (h:L[i]?=some e) (n:List UInt8):findN (L.drop i) n i=if e.1=n then (i:Int) else findN (L.drop (i+1)) n (i+1):=by
 obtain⟨h1,h2⟩:=List.getElem?_eq_some_iff.1 h
 rw[List.drop_eq_getElem_cons h1,h2]
 rfl
theorem findN_yes:∀{L:List EN} {e:EN} {n:List UInt8} (i:Nat),e∈L→e.1=n→(i:Int)≤findN L n i
 | x::L,e,n,i,hm,he=>by
  unfold findN
  split
  ·omega
  ·rename_i hx
   rcases List.mem_cons.1 hm with rfl | hm
   ·exact absurd he hx
   ·have:=findN_yes (i+1) hm he
    omega
theorem findN_some:∀{L:List EN} {n:List UInt8} (i:Nat),0≤findN L n i→∃k e,L[k]?=some e∧e.1=n∧findN L n i=((i+k:Nat):Int)
 | [],n,i,h=>by unfold findN at h;omega
 | x::L,n,i,h=>by
  unfold findN at h ⊢
  split
  ·rename_i hx
   exact⟨0,x,rfl,hx,by omega⟩
  ·rename_i hx
   rw[if_neg hx] at h
   obtain⟨k,e,h1,h2,h3⟩:=findN_some (i+1) h
   exact⟨k+1,e,by simpa using h1,h2,by rw[h3];omega⟩
theorem atN_yes {L:List EN} {e:EN} {nm:List UInt8} (h:normT nm=(nm,0)) (hm:e∈L) (he:e.1=nm):0≤atN L nm:=by
 unfold atN
 rw[if_pos (by rw[h]),h]
 have:=findN_yes (n:=nm) 0 hm he
 simpa using this
theorem rat_any (L:List EN) (nm:List UInt8) (w:World) (A:Option Addr) (n c:Nat) (xs:List Value) (hA:Has w w.heap.size 2 A n xs) (hL:ENs w w.heap.size xs L) (hn:n≤1000000000) (hnm:nm.length≤1000000) (hT:TM w):
  Calls Tryz.prog 26 #[.slice A n c,.string (txt nm)] w fun e w'=>e=.returned (.int .i64 (atN L nm))∧Below w.heap.size w w':=by
 have hnl:=hA.ens_n hL
 have hN:=rnormal_text nm hnm w hT
 obtain⟨R,hR⟩:∃R,atN L nm=R:=⟨_,rfl⟩
 rw[hR]
 have HN:=hide hN
 have HA:=hide hA
 have HL:=hide hL
 have Hn:=hide hnl
 have HR:=hide hR
 clear hN hA hL hnl hR hT hnm
 obtain⟨T,hTt⟩:∃T,(normT nm).1=T:=⟨_,rfl⟩
 obtain⟨y,hy⟩:∃y,(normT nm).2=y:=⟨_,rfl⟩
 rw[hTt,hy] at HN
 have HR2:Hid ((if y=0 then findN L T 0 else -1)=R):=hide (by rw[←HR.out];unfold atN;rw[hTt,hy])
 clear HR hTt hy
 generalize txt nm=S at *
 obtain⟨TS,hTS⟩:∃TS,txt T=TS:=⟨_,rfl⟩
 have HTS:=hide hTS
 rw[hTS] at HN
 clear hTS
 go_enter Tryz.func26,Tryz.ntmps26
 go_wp2_with (go_at_call 27;fail)
 refine HN.out.mono ?_
 rintro e w2 ⟨rfl,hb2⟩
 have HB2:=hide hb2
 have HA2:=hide ((HA.out.below hb2).upto hb2.size)
 have HL2:=hide (HL.out.grow hb2)
 clear hb2 HN HA HL
 by_cases hy0:y=0
 ·have hf:Hid (findN L T 0=R):=hide (by have:=HR2.out;rwa [if_pos hy0] at this)
  subst hy0
  clear HR2
  go_wp2
  go_loopg [15] n (fun r s15 wx=>∃i:Nat,i+r=n∧s15=.int .i64 (i:Int)∧Hid (findN (L.drop i) T i=R)∧wx=w2)
  case atStart=>exact⟨0,by omega,rfl,hide (by rw[List.drop_zero];exact hf.out),rfl⟩
  case round=>
   obtain⟨i,hig,rfl,hpre,hw⟩:=hrel
   obtain rfl:=hw.symm
   clear hw hf
   cases gk with
   | zero=>
    obtain rfl:i=n:=by omega
    have hiz:¬((i:Int)<(i:Int)):=by omega
    have hp:=hpre.out
    rw[List.drop_eq_nil_of_le (by rw[Hn.out];exact Nat.le_refl _)] at hp
    have hR1:Hid (R= -1):=hide (by rw[←hp];rfl)
    clear hp hpre HA2 HL2 Hn HTS
    go_wp2
    go_ret
    exact⟨by rw[hR1.out];rfl,HB2.out⟩
   | succ r=>
    have hi:i<n:=by omega
    have hiz:(i:Int)<(n:Int):=by omega
    obtain⟨e,he⟩:∃e,L[i]?=some e:=⟨_,List.getElem?_eq_getElem (by rw[←Hn.out];exact hi)⟩
    obtain⟨g,o,hAe,hg,hat⟩:=HA2.out.en HL2.out (fun h=>by rw[h] at he;simp at he)
    subst hAe
    obtain⟨U,cu,us,hat⟩:=hat i e he
    have e0:=hat.e0
    have hpd:=findN_drop he T
    rw[hpre.out] at hpd
    by_cases h1:e.1=T
    ·rw [if_pos h1] at hpd
     have q1:((txt e.1).toList==TS.toList)=true:=by rw[h1,HTS.out];simp
     have Hpd:=hide hpd
     generalize txt e.1=TE at *
     clear hat he hpre hpd h1 HA2 HL2 Hn HTS
     go_wp2
     go_ret
     exact⟨by rw[Hpd.out];rfl,HB2.out⟩
    ·rw [if_neg h1] at hpd
     have q1:((txt e.1).toList==TS.toList)=false:=by rw[←HTS.out];exact str_ne h1
     have Hpd:=hide hpd.symm
     generalize txt e.1=TE at *
     clear hat he hpre hpd h1
     go_wp2
     go_roundg r
     case measure=>omega
     case rel=>exact⟨i+1,by omega,by go_num,Hpd,rfl⟩
 ·have hR1:Hid (R= -1):=hide (by have:=HR2.out;rw[if_neg hy0] at this;exact this.symm)
  have q0:(y==0)=false:=beq_false_of_ne hy0
  have q1:(y !=0)=true:=by unfold bne;rw[q0];rfl
  clear HR2
  go_wp2
  go_loopg [15] n (fun r s15 wx=>∃i:Nat,i+r=n∧s15=.int .i64 (i:Int)∧wx=w2)
  case atStart=>exact⟨0,by omega,rfl,rfl⟩
  case round=>
   obtain⟨i,hig,rfl,hw⟩:=hrel
   obtain rfl:=hw.symm
   clear hw
   cases gk with
   | zero=>
    obtain rfl:i=n:=by omega
    have hiz:¬((i:Int)<(i:Int)):=by omega
    clear HA2 HL2 Hn HTS
    go_wp2
    go_ret
    exact⟨by rw[hR1.out];rfl,HB2.out⟩
   | succ r=>
    have hi:i<n:=by omega
    have hiz:(i:Int)<(n:Int):=by omega
    go_wp2
    go_roundg r
    case measure=>omega
    case rel=>exact⟨i+1,by omega,by go_num,rfl⟩
end Go.Proofs.YtiobnllopliclaaGreatDoor
