/- Several texts in one: ESmall, YSmall, YMem, ESame, YGrowA. By an AI agent. -/
import Derived.BigQuiet
import Derived.Deep.CutRange
import Derived.Deep.CutBlock
import Derived.Test.YtdkekamkmlpnhaaGreatDoorEX
import Derived.Test.YtdkekamkmlpnhaaGreatDoorGrow
set_option linter.unusedSimpArgs false
set_option linter.unusedVariables false
set_option maxRecDepth 100000
set_option maxHeartbeats 64000000
namespace Go.Proofs.YtdkekamkmlpnhaaGreatDoor
open Go.RowKit
abbrev EN:=List UInt8 × List EA
structure ENs (w:World) (B:Nat) (xs:List Value) (L:List EN):Prop where
 len:xs.length=L.length*2
 each:∀(i:Nat) (e:EN),L[i]?=some e->∃A c ys,xs[i*2]?=some (.string (txt e.1))/\xs[i*2+1]?=some (.slice A e.2.length c)/\e.2.length<=c/\c<=maxLen/\Has w B 2 A e.2.length ys/\EAs w B ys e.2
theorem ENs.below {w w':World} {B:Nat} {xs:List Value} {L:List EN} (h:ENs w B xs L) (hb:Below B w w'):ENs w' B xs L:=
 ⟨h.len,fun i a ha=>by obtain⟨A,c,ys,h1,h2,k1,k2,h3,h4⟩:=h.each i a ha;exact⟨A,c,ys,h1,h2,k1,k2,h3.below hb,h4.below hb⟩⟩
theorem ENs.upto {w:World} {B B':Nat} {xs:List Value} {L:List EN} (h:ENs w B xs L) (hB:B<=B'):ENs w B' xs L:=
 ⟨h.len,fun i a ha=>by obtain⟨A,c,ys,h1,h2,k1,k2,h3,h4⟩:=h.each i a ha;exact⟨A,c,ys,h1,h2,k1,k2,h3.upto hB,h4.upto hB⟩⟩
theorem ENs.grow {w w':World} {xs:List Value} {L:List EN} (h:ENs w w.heap.size xs L) (hb:Below w.heap.size w w'):ENs w' w'.heap.size xs L:=(h.below hb).upto hb.size
structure EnAt (w:World) (B g o:Nat) (e:EN) (A:Option Addr) (c:Nat) (ys:List Value):Prop where
 e0:w.cell? ⟨g,o,none⟩=some (.string (txt e.1))
 e1:w.cell? ⟨g,o+1,none⟩=some (.slice A e.2.length c)
 cap:e.2.length<=c
 most:c<=maxLen
 has:Has w B 2 A e.2.length ys
 attrs:EAs w B ys e.2
theorem Has.en {w:World} {B n:Nat} {A:Option Addr} {xs:List Value} {L:List EN} (h:Has w B 2 A n xs) (hL:ENs w B xs L) (hn:L≠[]):
  ∃g o,A=some ⟨g,o,none⟩/\g<B/\∀(i:Nat) (e:EN),L[i]?=some e->∃V c ys,EnAt w B g (o+i*2) e V c ys:=by
 have hp:=List.length_pos_iff.2 hn;obtain⟨g,o,rfl,hg,hc⟩:=h.lies (by rw[hL.len];omega);refine⟨g,o,rfl,hg,fun i a ha=>?_⟩;obtain⟨V,c,ys,h1,h2,k1,k2,h3,h4⟩:=hL.each i a ha;exact⟨V,c,ys,hc _ _ h1,by have:=hc _ _ h2;rwa [<-Nat.add_assoc] at this,k1,k2,h3,h4⟩
theorem Has.ens_n {w:World} {B n:Nat} {A:Option Addr} {xs:List Value} {L:List EN} (h:Has w B 2 A n xs) (hL:ENs w B xs L):n=L.length:=by
 have h1:=h.1;have h2:=hL.len;omega
section
variable {α:Type} (f:α->Nat)
theorem zIl {l:List α} {i:Nat} {x:α} (h:l[i]?=some x):((l.take (i+1)).map f).sum=((l.take i).map f).sum+f x:=by
 rw[List.take_add_one,h];simp
theorem zDs (l:List α) (i:Nat):((l.take i).map f).sum<=(l.map f).sum:=by
 conv=>rhs;rw[<-List.take_append_drop i l]
 rw[List.map_append,List.sum_append];omega
theorem zF1:∀(l:List α) (B:Nat),(∀x∈l,f x<=B)->(l.map f).sum<=l.length*B
 | [],B,_=>by simp
 | x::l,B,h=>by
  have h1:=h x (by simp);have h2:=zF1 l B fun y hy=>h y (by simp[hy])
  simp only[List.map_cons,List.sum_cons,List.length_cons,Nat.succ_mul];omega
theorem zH4:∀{l:List α} {x:α},x∈l->f x<=(l.map f).sum
 | y::l,x,h=>by
  simp only[List.map_cons,List.sum_cons];rcases List.mem_cons.1 h with rfl | h
  ·omega
  ·have:=zH4 h;omega
theorem zLu:∀(l:List α),(∀x∈l,1<=f x)->l.length<=(l.map f).sum
 | [],_=>by simp
 | x::l,h=>by
  have h1:=h x (by simp);have h2:=zLu l fun y hy=>h y (by simp[hy])
  simp only[List.map_cons,List.sum_cons,List.length_cons];omega
end
def vW (x:List UInt8):Nat:=x.length/100
def aW (a:EA):Nat:=1+a.2.length+(a.2.map vW).sum
def eW (e:EN):Nat:=1+e.1.length/100+(e.2.map aW).sum
def nW (L:List EN):Nat:=(L.map eW).sum
def BulkN (e:EN):Prop:=e.1.length<=1048576/\e.2.length<=1048576/\∀a∈e.2,a.2.length<=1048576/\∀u∈a.2,u.length<=1048576
theorem aW_bulk {a:EA} (h:a.2.length<=1048576/\∀u∈a.2,u.length<=1048576):aW a<=11000000000:=by
 have h1:=zF1 vW a.2 10486 fun u hu=>by have:=h.2 u hu;unfold vW;omega
 have h2:a.2.length*10486<=1048576*10486:=Nat.mul_le_mul_right _ h.1;unfold aW;have:=h.1;omega
theorem eW_bulk {e:EN} (h:BulkN e):eW e<=19000000000000000:=by
 have h1:=zF1 aW e.2 11000000000 fun a ha=>aW_bulk (h.2.2 a ha)
 have h2:e.2.length*11000000000<=1048576*11000000000:=Nat.mul_le_mul_right _ h.2.1;unfold eW;have:=h.1;omega
structure SmallN (L:List EN):Prop where
 len:L.length<=3000
 name:∀e∈L,e.1.length<=400000
 attrs:∀e∈L,e.2.length<=3000
 each:∀e∈L,∀a∈e.2,a.2.length<=3000/\∀u∈a.2,u.length<=400000
theorem zJe {L:List EN} (h:nW L<=3000):SmallN L:=by
 have he:∀e∈L,eW e<=3000:=fun e hm=>Nat.le_trans (zH4 eW hm) h
 refine⟨Nat.le_trans (zLu eW L fun e _=>by unfold eW;omega) h,fun e hm=>?_,fun e hm=>?_,fun e hm a ha=>?_⟩
 ·have:=he e hm;unfold eW at this;omega
 ·have:=he e hm;have h2:=zLu aW e.2 fun a _=>by unfold aW;omega
  unfold eW at this;omega
 ·have:=he e hm;have h2:=zH4 aW ha;unfold eW at this;have h3:aW a<=3000:=by omega
  unfold aW at h3;refine⟨by omega,fun u hu=>?_⟩;have:=zH4 vW hu;unfold vW at this h3;omega
theorem zGp (L:List EN) (w:World) (A:Option Addr) (n c:Nat) (xs:List Value) (hA:Has w w.heap.size 2 A n xs) (hL:ENs w w.heap.size xs L) (hn:n<=1048576) (hs:∀e∈L,BulkN e):
  Calls Tryz.prog 7 #[.slice A n c] w fun e w'=>e=.returned (.bool (decide (nW L<=3000)))/\w'=w:=by
 have hnl:=hA.ens_n hL;obtain⟨b,hb⟩:∃b,decide (nW L<=3000)=b:=⟨_,rfl⟩;rw[hb];have Hb:=hide hb;have HA:=hide hA;have HL:=hide hL;have HN:=hide hnl;have HS:=hide hs;clear hA hL hnl hs hb;go_enter Tryz.func7,Tryz.ntmps7;go_wp2
 go_loopg [3,9] n (fun r s3 s9 wx=>∃i p:Nat,i+r=n/\s9=.int .i64 (i:Int)/\s3=.int .i64 (p:Int)/\p<=3000/\Hid (p=nW (L.take i))/\wx=w)
 case atStart=>exact⟨0,0,by omega,rfl,rfl,by omega,hide (by simp[nW]),rfl⟩
 case round=>
  obtain⟨i,p,hig,rfl,rfl,hp3,hpre,rfl⟩:=hrel;cases gk with
  | zero=>
   obtain rfl:n=i:=by omega
   have hiz:¬((n:Int)<(n:Int)):=by omega
   have hbt:Hid (b=true):=hide (by
    rw[<-Hb.out]
    have:=hpre.out
    rw[List.take_of_length_le (by rw[HN.out];exact Nat.le_refl _)] at this
    exact decide_eq_true (by omega))
   clear HA HL HN HS hpre Hb;go_wp2;go_ret;exact⟨by rw[hbt.out];rfl,rfl⟩
  | succ r=>
   have hi:i<n:=by omega
   have hiz:(i:Int)<(n:Int):=by omega
   obtain⟨e,he⟩:∃e,L[i]?=some e:=⟨_,List.getElem?_eq_getElem (by rw[<-HN.out];exact hi)⟩;obtain⟨g,o,hAe,hg,hat⟩:=HA.out.en HL.out (fun h=>by rw[h] at he;simp at he);subst hAe;obtain⟨V,cv,ys,hai⟩:=hat i e he;have e0:=hai.e0;have e1:=hai.e1;have hbe:=HS.out e (List.mem_of_getElem? he);have hlim:=eW_bulk hbe;obtain⟨dl,hdl⟩:∃dl,e.1.length/100=dl:=⟨_,rfl⟩;have hnext:=zIl eW he;obtain⟨m,hm⟩:∃m,e.2.length=m:=⟨_,rfl⟩;rw[hm] at e1;have Hst:Hid (∀j,p+1+dl+((e.2.take j).map aW).sum<=20000000000000000):=hide fun j=>by
    have:=zDs aW e.2 j;unfold eW at hlim;omega
   have Hnx:Hid (p+1+dl+(e.2.map aW).sum=nW (L.take (i+1))):=hide (by
    have:=hpre.out
    unfold nW at this ⊢
    rw[hnext]
    unfold eW at this ⊢
    omega)
   have Hle:Hid (nW (L.take (i+1))<=nW L):=hide (zDs eW L (i+1));have hm6:m<=1048576:=by rw[<-hm];exact hbe.2.1
   have hsz:=zAg e.1;have hl6:=hbe.1;have hsz6:(txt e.1).size<=1048576:=by omega
   have d2:Int.tdiv ((txt e.1).size:Int) 100=(dl:Int):=by rw[Int.tdiv_eq_ediv_of_nonneg (by omega)];omega
   have hdl6:dl<=20000:=by omega
   have Hm:=hide hm;have Ha:=hide hai.attrs;have Hh:Hid (Has wr wr.heap.size 2 V m ys):=hide (by rw[<-hm];exact hai.has);have Hbe:=hide hbe;have hstart:Hid (p+1+dl=p+1+dl+((e.2.take 0).map aW).sum):=hide (by simp);clear hai hat hm he hbe hlim hnext hdl hl6 hsz hpre;generalize txt e.1=T at *;go_wp2
   go_loopg [3,28] m (fun r2 s3 s28 wx=>∃j q:Nat,j+r2=m/\s28=.int .i64 (j:Int)/\s3=.int .i64 (q:Int)/\q<=20000000000000000/\Hid (q=p+1+dl+((e.2.take j).map aW).sum)/\wx=wr)
   case atStart=>exact⟨0,p+1+dl,by omega,rfl,by go_num,by have:=Hst.out 0;simp at this;omega,hstart,rfl⟩
   case round=>
    obtain⟨j,q,hjg,rfl,rfl,hq9,hpre,hw⟩:=hrel;obtain rfl:=hw.symm;clear hw;cases gk with
    | zero=>
     obtain rfl:m=j:=by omega
     have hjz:¬((m:Int)<(m:Int)):=by omega
     have hqe:Hid (q=nW (L.take (i+1))):=hide (by
      have:=hpre.out
      rw[List.take_of_length_le (by rw[Hm.out];exact Nat.le_refl _)] at this
      rw[this]
      exact Hnx.out)
     clear Ha Hh Hbe Hm Hst Hnx hpre hstart;by_cases hy:3000<q
     ·have hyz:(3000:Int)<(q:Int):=by omega
      have hbf:Hid (b=false):=hide (by
       rw[<-Hb.out]
       refine decide_eq_false ?_
       have h1:=hqe.out
       have h2:=Hle.out
       omega)
      clear hqe Hle HA HL HN HS Hb;go_wp2;go_ret;exact⟨by rw[hbf.out];rfl,rfl⟩
     ·have hyz:¬(3000:Int)<(q:Int):=by omega
      clear Hle;go_wp2
      go_roundg r
      case measure=>omega
      case rel=>exact⟨i+1,q,by omega,by go_num,rfl,by omega,hqe,rfl⟩
    | succ r2=>
     have hj:j<m:=(by omega);have hjz:(j:Int)<(m:Int):=by omega
     obtain⟨a,ha⟩:∃a,e.2[j]?=some a:=⟨_,List.getElem?_eq_getElem (by rw[Hm.out];exact hj)⟩;obtain⟨g2,o2,hVe,hg2,hat2⟩:=Hh.out.ea Ha.out (fun h=>by rw[h] at ha;simp at ha);subst hVe;obtain⟨U,cu,hai2⟩:=hat2 j a ha;have f1:=hai2.e1;have hba:=Hbe.out.2.2 a (List.mem_of_getElem? ha);have hnext:=zIl aW ha;obtain⟨k,hk⟩:∃k,a.2.length=k:=⟨_,rfl⟩;rw[hk] at f1;have hlim:=Hst.out (j+1);have hpo:=hpre.out;have Hnx2:Hid (q+1+k+(a.2.map vW).sum=p+1+dl+((e.2.take (j+1)).map aW).sum):=hide (by
      rw[hnext,hpo]
      unfold aW
      rw[hk]
      omega)
     have Hst2:Hid (∀l,q+1+k+((a.2.take l).map vW).sum<=20000000000000000):=hide fun l=>by
      have:=zDs vW a.2 l;have:=Hnx2.out;omega
     have hk6:k<=1048576:=(by rw[<-hk];exact hba.1);have Hk:=hide hk;have Hu:Hid (Has wr wr.heap.size 1 U k (strs a.2)):=hide (by rw[<-hk];exact hai2.has);have Hba:=hide hba;have hstart2:Hid (q+1+k=q+1+k+((a.2.take 0).map vW).sum):=hide (by simp);clear hai2 hat2 hk ha hba hnext hlim hpo hpre;go_wp2
     go_loopg [3,54] k (fun r3 s3 s54 wx=>∃l z:Nat,l+r3=k/\s54=.int .i64 (l:Int)/\s3=.int .i64 (z:Int)/\z<=20000000000000000/\Hid (z=q+1+k+((a.2.take l).map vW).sum)/\wx=wr)
     case atStart=>exact⟨0,q+1+k,by omega,rfl,by go_num,by have:=Hst2.out 0;simp at this;omega,hstart2,rfl⟩
     case round=>
      obtain⟨l,z,hlg,rfl,rfl,hz9,hpre,hw⟩:=hrel;obtain rfl:=hw.symm;clear hw;cases gk with
      | zero=>
       obtain rfl:k=l:=by omega
       have hlz:¬((k:Int)<(k:Int)):=by omega
       have hze:Hid (z=p+1+dl+((e.2.take (j+1)).map aW).sum):=hide (by
        have:=hpre.out
        rw[List.take_of_length_le (by rw[Hk.out];exact Nat.le_refl _)] at this
        rw[this]
        exact Hnx2.out)
       clear Hu Hk Hba Hst2 Hnx2 hpre hstart2;go_wp2
       go_roundg r2
       case measure=>omega
       case rel=>exact⟨j+1,z,by omega,by go_num,rfl,hz9,hze,rfl⟩
      | succ r3=>
       have hl:l<k:=(by omega);have hlz:(l:Int)<(k:Int):=(by omega);obtain⟨v,hv⟩:∃v,a.2[l]?=some v:=⟨_,List.getElem?_eq_getElem (by rw[Hk.out];exact hl)⟩;obtain⟨g3,o3,hUe,hg3,hat3⟩:=Hu.out.texts (fun h=>by rw[h] at hv;simp at hv);subst hUe;have d0:=hat3 l v hv;have hvs:=zAg v;have hv6:=Hba.out.2 v (List.mem_of_getElem? hv);have hnext:=zIl vW hv;have hlim:=Hst2.out (l+1);have hpo:=hpre.out;obtain⟨dv,hdv⟩:∃dv,v.length/100=dv:=⟨_,rfl⟩;have hz2:Hid (z+dv=q+1+k+((a.2.take (l+1)).map vW).sum):=hide (by rw[hnext];unfold vW at hpo ⊢;rw[hdv];omega);have hzl:z+dv<=20000000000000000:=by rw[hz2.out];exact hlim
       have d2:Int.tdiv ((txt v).size:Int) 100=(dv:Int):=(by rw[Int.tdiv_eq_ediv_of_nonneg (by omega)];omega);have hvs6:(txt v).size<=1048576:=(by omega);generalize txt v=SV at *;clear hat3 hv hvs hv6 hnext hlim hpo hdv hpre Hst2 Hnx2 Hba hstart2;go_wp2
       go_roundg r3
       case measure=>omega
       case rel=>exact⟨l+1,z+dv,by omega,by go_num,by go_num,hzl,hz2,rfl⟩
def HasP (w:World) (P:Nat->Prop) (size:Nat) (A:Option Addr) (n:Nat) (xs:List Value):Prop:=
 xs.length=n*size/\(xs=[]\/∃ad,A=some ad/\P ad.block/\∀j u,xs[j]?=some u->w.cell? (ad.add j)=some u)
section
variable {w w':World} {P P':Nat->Prop} {B size n:Nat} {A:Option Addr} {xs:List Value}
theorem HasP.has (h:HasP w P size A n xs) (hP:∀b,P b->b<B):Has w B size A n xs:=
 ⟨h.1,h.2.imp id fun ⟨ad,e,hb,hc⟩=>⟨ad,e,hP _ hb,hc⟩⟩
theorem HasP.move (h:HasP w P size A n xs) (hc:∀p:Addr,P p.block->w'.cell? p=w.cell? p) (hP:∀b,P b->P' b):HasP w' P' size A n xs:=
 ⟨h.1,h.2.imp id fun ⟨ad,e,hb,hx⟩=>⟨ad,e,hP _ hb,fun j u hu=>(hc _ (by rw[zA6];exact hb)).trans (hx j u hu)⟩⟩
theorem Has.hasP (h:Has w B size A n xs):HasP w (fun b=>b<B) size A n xs:=h
theorem HasP.nil:HasP w P size A 0 []:=⟨by simp,.inl rfl⟩
theorem zAv {base:Nat} {e:TypeId} {v:Value} (h:w.ownsRow base e size v n xs):∃A c,v=.slice A n c/\n<=c/\HasP w (fun b=>base<=b/\b<w.heap.size) size A n xs:=by
 rcases h.2 with⟨rfl,rfl⟩ | ⟨g,cap,cur,rfl,hb,hh,hnc,_,hs,ht⟩
 ·exact ⟨none,0,rfl,Nat.le_refl _,h.1,.inl (List.eq_nil_of_length_eq_zero (by simpa using h.1))⟩
 ·refine ⟨_,cap,rfl,hnc,h.1,?_⟩;have hlt:g<w.heap.size:=(Array.getElem?_eq_some_iff.1 hh).1;rcases Nat.eq_zero_or_pos n with h0 | h0
  ·subst h0;exact .inl (List.eq_nil_of_length_eq_zero (by simpa using h.1))
  ·obtain ⟨g',cap',hv,_,hlt'⟩:=h.form h0;injection hv with hA
   injection hA with hA
   injection hA with hg
   subst hg;exact .inr ⟨_,rfl,⟨hb,hlt⟩,h.cells (g:=g) rfl⟩
end
structure EAsP (w:World) (P:Nat->Prop) (xs:List Value) (L:List EA):Prop where
 len:xs.length=L.length*2
 each:∀(i:Nat) (a:EA),L[i]?=some a->∃A c,xs[i*2]?=some (.string (txt a.1))/\xs[i*2+1]?=some (.slice A a.2.length c)/\a.2.length<=c/\c<=maxLen/\HasP w P 1 A a.2.length (strs a.2)
structure ENsP (w:World) (P:Nat->Prop) (xs:List Value) (L:List EN):Prop where
 len:xs.length=L.length*2
 each:∀(i:Nat) (e:EN),L[i]?=some e->∃A c ys,xs[i*2]?=some (.string (txt e.1))/\xs[i*2+1]?=some (.slice A e.2.length c)/\e.2.length<=c/\c<=maxLen/\HasP w P 2 A e.2.length ys/\EAsP w P ys e.2
section
variable {w w':World} {P P':Nat->Prop} {B:Nat} {xs:List Value}
theorem EAsP.eas {L:List EA} (h:EAsP w P xs L) (hP:∀b,P b->b<B):EAs w B xs L:=
 ⟨h.len,fun i a ha=>by obtain⟨A,c,h1,h2,k1,k2,h3⟩:=h.each i a ha;exact⟨A,c,h1,h2,k1,k2,h3.has hP⟩⟩
theorem EAsP.move {L:List EA} (h:EAsP w P xs L) (hc:∀p:Addr,P p.block->w'.cell? p=w.cell? p) (hP:∀b,P b->P' b):EAsP w' P' xs L:=
 ⟨h.len,fun i a ha=>by obtain⟨A,c,h1,h2,k1,k2,h3⟩:=h.each i a ha;exact⟨A,c,h1,h2,k1,k2,h3.move hc hP⟩⟩
theorem EAsP.nil:EAsP w P [] []:=⟨rfl,fun i a ha=>by simp at ha⟩
theorem ENsP.ens {L:List EN} (h:ENsP w P xs L) (hP:∀b,P b->b<B):ENs w B xs L:=
 ⟨h.len,fun i a ha=>by obtain⟨A,c,ys,h1,h2,k1,k2,h3,h4⟩:=h.each i a ha;exact⟨A,c,ys,h1,h2,k1,k2,h3.has hP,h4.eas hP⟩⟩
theorem ENsP.move {L:List EN} (h:ENsP w P xs L) (hc:∀p:Addr,P p.block->w'.cell? p=w.cell? p) (hP:∀b,P b->P' b):ENsP w' P' xs L:=
 ⟨h.len,fun i a ha=>by obtain⟨A,c,ys,h1,h2,k1,k2,h3,h4⟩:=h.each i a ha;exact⟨A,c,ys,h1,h2,k1,k2,h3.move hc hP,h4.move hc hP⟩⟩
theorem ENsP.nil:ENsP w P [] []:=⟨rfl,fun i a ha=>by simp at ha⟩
theorem EAs.easP {L:List EA} (h:EAs w B xs L):EAsP w (fun b=>b<B) xs L:=⟨h.len,h.each⟩
theorem ENs.ensP {L:List EN} (h:ENs w B xs L):ENsP w (fun b=>b<B) xs L:=⟨h.len,fun i e he=>by
 obtain⟨A,c,ys,h1,h2,k1,k2,h3,h4⟩:=h.each i e he
 exact⟨A,c,ys,h1,h2,k1,k2,h3,h4.easP⟩⟩
theorem EAsP.snoc {L:List EA} (h:EAsP w P xs L) {a:EA} {A:Option Addr} {c:Nat} (hc:a.2.length<=c) (hm:c<=maxLen) (hH:HasP w P 1 A a.2.length (strs a.2)):EAsP w P (xs++[.string (txt a.1),.slice A a.2.length c]) (L++[a]):=by
 refine⟨by simp[h.len];omega,fun i q hq=>?_⟩;by_cases hi:i<L.length
 ·rw [List.getElem?_append_left hi] at hq;obtain⟨A',c',h1,h2,h3⟩:=h.each i q hq;have hl:=h.len;exact⟨A',c',by rw[List.getElem?_append_left (by omega)];exact h1,by rw[List.getElem?_append_left (by omega)];exact h2,h3⟩
 ·have hi2:i=L.length:=by
   have:=(List.getElem?_eq_some_iff.1 hq).1;simp at this;omega
  subst hi2;simp at hq;subst hq;exact⟨A,c,by rw[List.getElem?_append_right (by rw[h.len];exact Nat.le_refl _),h.len];simp,by rw[List.getElem?_append_right (by rw[h.len];omega),h.len];simp,hc,hm,hH⟩
theorem ENsP.snoc {L:List EN} (h:ENsP w P xs L) {a:EN} {A:Option Addr} {c:Nat} {ys:List Value} (hc:a.2.length<=c) (hm:c<=maxLen) (hH:HasP w P 2 A a.2.length ys) (hE:EAsP w P ys a.2):ENsP w P (xs++[.string (txt a.1),.slice A a.2.length c]) (L++[a]):=by
 refine⟨by simp[h.len];omega,fun i q hq=>?_⟩;by_cases hi:i<L.length
 ·rw [List.getElem?_append_left hi] at hq;obtain⟨A',c',zs,h1,h2,h3⟩:=h.each i q hq;have hl:=h.len;exact⟨A',c',zs,by rw[List.getElem?_append_left (by omega)];exact h1,by rw[List.getElem?_append_left (by omega)];exact h2,h3⟩
 ·have hi2:i=L.length:=by
   have:=(List.getElem?_eq_some_iff.1 hq).1;simp at this;omega
  subst hi2;simp at hq;subst hq;exact⟨A,c,ys,by rw[List.getElem?_append_right (by rw[h.len];exact Nat.le_refl _),h.len];simp,by rw[List.getElem?_append_right (by rw[h.len];omega),h.len];simp,hc,hm,hH,hE⟩
end
def NewB (b0 b1 b:Nat):Prop:=b0<=b/\b<b1
structure RowA (w:World) (base:Nat) (E:TypeId) (v:Value) (xs:List Value) (L:List EA):Prop where
 own:w.ownsRow base E 2 v L.length xs
 attrs:EAsP w (fun b=>base<=b/\b<w.heap.size/\some b≠v.ownBlock) xs L
structure RowN (w:World) (base:Nat) (E:TypeId) (v:Value) (xs:List Value) (L:List EN):Prop where
 own:w.ownsRow base E 2 v L.length xs
 ents:ENsP w (fun b=>base<=b/\b<w.heap.size/\some b≠v.ownBlock) xs L
section
variable {w w':World} {base:Nat} {E:TypeId} {v v':Value} {xs:List Value}
theorem RowA.start (h:w.ownsRow base E 2 v 0 []):RowA w base E v [] []:=⟨h,EAsP.nil⟩
theorem RowN.start (h:w.ownsRow base E 2 v 0 []):RowN w base E v [] []:=⟨h,ENsP.nil⟩
theorem RowA.below {L:List EA} (h:RowA w base E v xs L) (hb:Below w.heap.size w w'):RowA w' base E v xs L:=
 ⟨zAc h.own hb,h.attrs.move (fun p hp=>hb.cell hp.2.1) fun b hb2=>⟨hb2.1,Nat.lt_of_lt_of_le hb2.2.1 hb.size,hb2.2.2⟩⟩
theorem RowN.below {L:List EN} (h:RowN w base E v xs L) (hb:Below w.heap.size w w'):RowN w' base E v xs L:=
 ⟨zAc h.own hb,h.ents.move (fun p hp=>hb.cell hp.2.1) fun b hb2=>⟨hb2.1,Nat.lt_of_lt_of_le hb2.2.1 hb.size,hb2.2.2⟩⟩
theorem RowA.alloc {L:List EA} (h:RowA w base E v xs L) (o:Obj):RowA (w.alloc o) base E v xs L:=h.below ((Below.refl _ _).alloc (Nat.le_refl _) o)
theorem zAw {row:Option Nat} (hg:w.grownBy w' row):∀p:Addr,(base<=p.block/\p.block<w.heap.size/\some p.block≠row)->w'.cell? p=w.cell? p:=
 fun p hp=>World.cell?_of_block (hg.block _ hp.2.1 hp.2.2)
theorem zBc (hg:w.grownBy w' v.ownBlock) (ht:v'.ownBlock=v.ownBlock\/v'.ownBlock=some w.heap.size):∀b,(base<=b/\b<w.heap.size/\some b≠v.ownBlock)->base<=b/\b<w'.heap.size/\some b≠v'.ownBlock:=fun b hb=>by
 refine⟨hb.1,Nat.lt_of_lt_of_le hb.2.1 hg.size,?_⟩;rcases ht with ht | ht
 ·rw [ht];exact hb.2.2
 ·rw [ht];intro e;have:=Option.some.inj e;omega
theorem RowA.snoc {L:List EA} (h:RowA w base E v xs L) {a:EA} {A:Option Addr} {c:Nat} (hc:a.2.length<=c) (hm:c<=maxLen) (hH:HasP w (fun b=>base<=b/\b<w.heap.size/\some b≠v.ownBlock) 1 A a.2.length (strs a.2))
  (hown:w'.ownsRow base E 2 v' (L.length+1) (xs++[.string (txt a.1),.slice A a.2.length c])) (hg:w.grownBy w' v.ownBlock) (ht:v'.ownBlock=v.ownBlock\/v'.ownBlock=some w.heap.size):
  RowA w' base E v' (xs++[.string (txt a.1),.slice A a.2.length c]) (L++[a]):=
 ⟨by rw[List.length_append];exact hown,(h.attrs.move (zAw hg) (zBc hg ht)).snoc hc hm (hH.move (zAw hg) (zBc hg ht))⟩
theorem RowN.snoc {L:List EN} (h:RowN w base E v xs L) {a:EN} {A:Option Addr} {c:Nat} {ys:List Value} (hc:a.2.length<=c) (hm:c<=maxLen) (hH:HasP w (fun b=>base<=b/\b<w.heap.size/\some b≠v.ownBlock) 2 A a.2.length ys)
  (hE:EAsP w (fun b=>base<=b/\b<w.heap.size/\some b≠v.ownBlock) ys a.2)
  (hown:w'.ownsRow base E 2 v' (L.length+1) (xs++[.string (txt a.1),.slice A a.2.length c])) (hg:w.grownBy w' v.ownBlock) (ht:v'.ownBlock=v.ownBlock\/v'.ownBlock=some w.heap.size):
  RowN w' base E v' (xs++[.string (txt a.1),.slice A a.2.length c]) (L++[a]):=
 ⟨by rw[List.length_append];exact hown,(h.ents.move (zAw hg) (zBc hg ht)).snoc hc hm (hH.move (zAw hg) (zBc hg ht)) (hE.move (zAw hg) (zBc hg ht))⟩
theorem zLt {n size:Nat} {w0:World} (ho:w0.ownsRow base E size v n xs) (hb:base<=w0.heap.size) {b1:Nat}:∀b,NewB w0.heap.size b1 b->base<=b/\b<b1/\some b≠v.ownBlock:=fun b h=>by
 refine⟨Nat.le_trans hb h.1,h.2,fun e=>?_⟩;have:=(ho.lt b e.symm).2;have:=h.1;omega
structure AttrsPost (X:List EA) (w:World) (e:Ending) (w':World):Prop where
 out:∃A c ys,e=.returned (.slice A X.length c)/\X.length<=c/\c<=maxLen/\HasP w' (NewB w.heap.size w'.heap.size) 2 A X.length ys/\EAsP w' (NewB w.heap.size w'.heap.size) ys X/\Below w.heap.size w w'
structure EntsPost (X:List EN) (w:World) (e:Ending) (w':World):Prop where
 out:∃A c ys,e=.returned (.slice A X.length c)/\X.length<=c/\c<=maxLen/\HasP w' (NewB w.heap.size w'.heap.size) 2 A X.length ys/\ENsP w' (NewB w.heap.size w'.heap.size) ys X/\Below w.heap.size w w'
structure NewTexts (R:List (List UInt8)) (w:World) (e:Ending) (w':World):Prop where
 out:∃A c,e=.returned (.slice A R.length c)/\R.length<=c/\c<=maxLen/\HasP w' (NewB w.heap.size w'.heap.size) 1 A R.length (strs R)/\Below w.heap.size w w'
theorem zAu {n size:Nat} {A:Option Addr} {c:Nat} (h:w.ownsRow base E size (.slice A n c) n xs):c<=maxLen:=(zMx h).2
theorem RowA.told {L:List EA} {w0:World} (h:RowA w w0.heap.size E v xs L) (hb:Below w0.heap.size w0 w):AttrsPost L w0 (.returned v) w:=by
 obtain⟨A,c,rfl,hc,hH⟩:=zAv h.own;exact⟨⟨A,c,xs,rfl,hc,zAu h.own,hH.move (fun p _=>rfl) fun b hb=>hb,h.attrs.move (fun p _=>rfl) fun b hb=>⟨hb.1,hb.2.1⟩,hb⟩⟩
theorem RowN.told {L:List EN} {w0:World} (h:RowN w w0.heap.size E v xs L) (hb:Below w0.heap.size w0 w):EntsPost L w0 (.returned v) w:=by
 obtain⟨A,c,rfl,hc,hH⟩:=zAv h.own;exact⟨⟨A,c,xs,rfl,hc,zAu h.own,hH.move (fun p _=>rfl) fun b hb=>hb,h.ents.move (fun p _=>rfl) fun b hb=>⟨hb.1,hb.2.1⟩,hb⟩⟩
end
theorem zR6 {w w':World} {v:Value} {R:List (List UInt8)} (h:w'.ownsRow w.heap.size 9 1 v R.length (strs R)) (hb:Below w.heap.size w w'):NewTexts R w (.returned v) w':=by
 obtain⟨A,c,rfl,hc,hH⟩:=zAv h;exact⟨⟨A,c,rfl,hc,zAu h,hH,hb⟩⟩
theorem zN7 {a b:List UInt8} (h:(txt a).toList=(txt b).toList):a=b:=by rwa [zAb,zAb] at h
theorem bneE {a b:List UInt8} (h:(a==b)=false):(a !=b)=true:=by unfold bne;rw[h];rfl
theorem loadTE (W:World) (p:Addr) (v:Value) (h:W.cell? p=some v):(loadVar 43 p).run Tryz.prog W=.ok v W:=by go_simp
theorem loadSE (W:World) (p:Addr) (v:Value) (h:W.cell? p=some v):(loadVar 9 p).run Tryz.prog W=.ok v W:=by go_simp
theorem zBs {P:Program} {a:Act} {W:World} (ty:TypeId) (x:Operand) (oi:Oper) (ho:oi.op=.load ty x) (b o:Nat) (hx:a.eval x=.pointer (some ⟨b,o,none⟩)) (v:Value) (hl:(loadVar ty ⟨b,o,none⟩).run P W=.ok v W):(execOp a.eval oi).run P W=.ok (.value v) W:=by
 unfold execOp;simp only[ho,hx,Instr.loadAt,Instr.sureAddr,Sem.run_bind,Sem.run_pure,Result.andThen_ok,hl]
theorem boolOfE (P:Prop):∃b:Bool,b=true↔P:=by
 by_cases h:P
 ·exact ⟨true,by simp[h]⟩
 ·exact ⟨false,by simp[h]⟩
theorem zGw (w:World) (A A':Option Addr) (m m' c c':Nat) (L M:List (List UInt8)) (hA:Has w w.heap.size 1 A m (strs L)) (hA':Has w w.heap.size 1 A' m' (strs M)) (hm:m<=maxLen)
  (b:Bool) (hb:b=true↔L=M):
  Calls Tryz.prog 16 #[.slice A m c,.slice A' m' c'] w fun e w'=>e=.returned (.bool b)/\Below w.heap.size w w':=by
 have h1:=hA.strs_n;have h2:=hA'.strs_n;unfold maxLen at hm;have hm1:(m:Int)<=9223372036854775807:=by omega
 by_cases hmm:m=m'
 ·subst hmm;have HA:=hide hA;have HA':=hide hA';have H1:=hide h1;have H2:=hide h2;have Hb:=hide hb;clear hA hA' h1 h2 hb hm;go_enter Tryz.func16,Tryz.ntmps16;go_wp2
  go_loopg [13] m (fun r s13 wx=>∃i:Nat,i+r=m/\s13=.int .i64 (i:Int)/\Hid (Below w.heap.size w wx)/\Hid (L.take i=M.take i))
  case atStart=>exact⟨0,by omega,rfl,hide (Below.refl _ _),hide rfl⟩
  case round=>
   obtain⟨i,hig,rfl,hbr,hpre⟩:=hrel;cases gk with
   | zero=>
    obtain rfl:i=m:=by omega
    have hiz:¬((i:Int)<(i:Int)):=by omega
    have hbt:Hid (b=true):=hide (Hb.out.2 (by
     have:=hpre.out
     rwa [List.take_of_length_le (by rw[<-H1.out];exact Nat.le_refl _),List.take_of_length_le (by rw[<-H2.out];exact Nat.le_refl _)] at this))
    clear HA HA' H1 H2 hpre Hb;go_wp2;go_ret;exact⟨by rw[hbt.out];rfl,hbr.out⟩
   | succ r=>
    have hi:i<m:=(by omega);have hiz:(i:Int)<(m:Int):=(by omega);obtain⟨x,hx⟩:∃x,L[i]?=some x:=⟨_,List.getElem?_eq_getElem (by rw[<-H1.out];exact hi)⟩;obtain⟨y,hy⟩:∃y,M[i]?=some y:=⟨_,List.getElem?_eq_getElem (by rw[<-H2.out];exact hi)⟩;obtain⟨g,o,hAe,hg,hc⟩:=HA.out.texts (fun h=>by rw[h] at hx;simp at hx);obtain⟨g',o',hAe',hg',hc'⟩:=HA'.out.texts (fun h=>by rw[h] at hy;simp at hy);subst hAe hAe';have x0:=(hbr.out.cell (p:=⟨g,o+i,none⟩) hg).trans (hc i x hx);have y0:=(hbr.out.cell (p:=⟨g',o'+i,none⟩) hg').trans (hc' i y hy);by_cases hxy:x=y
    ·subst hxy;have hpre2:Hid (L.take (i+1)=M.take (i+1)):=hide (by rw[List.take_add_one,List.take_add_one,hpre.out,hx,hy]);generalize txt x=X at *;clear hx hy hc hc' HA HA' H1 H2 hpre Hb;go_wp2
     go_quiet (fail)
     go_wp2
     go_roundg r
     case measure=>omega
     case rel=>exact⟨i+1,by omega,by go_num,hide (Below.drewN hbr.out _),hpre2⟩
    ·have hbf:Hid (b=false):=hide (by
      cases hbb:b with
      | false=>rfl
      | true=>
       have:=Hb.out.1 hbb
       rw[this,hy] at hx
       exact absurd (Option.some.inj hx).symm hxy)
     have e1:=zBn hxy;have e2:=bneE e1;generalize txt x=X at *;generalize txt y=Y at *;clear hx hy hc hc' HA HA' H1 H2 hpre Hb hxy;go_wp2
     go_quiet (fail)
     go_wp2;go_ret;exact⟨by rw[hbf.out];rfl,Below.drewN hbr.out _⟩
 ·have z1:((m:Int)==(m':Int))=false:=beq_false_of_ne (by omega);have z2:((m:Int)!=(m':Int))=true:=by unfold bne;rw[z1];rfl
  obtain rfl:b=false:=by
   cases b with
   | false=>rfl
   | true=>exact absurd (by rw[h1,h2,hb.1 rfl]) hmm
  clear hA hA' h1 h2 hb hm hmm;go_enter Tryz.func16,Tryz.ntmps16;go_wp2;go_ret;exact⟨rfl,Below.refl _ _⟩
theorem zK4 (w:World) (D D':Option Addr) (n n' d d':Nat) (xs ys:List Value) (L M:List EA) (hH:Has w w.heap.size 2 D n xs) (hr:EAs w w.heap.size xs L) (hH':Has w w.heap.size 2 D' n' ys) (hr':EAs w w.heap.size ys M) (hl:n<=maxLen) (hl':n'<=maxLen) (R:Bool) (hR:R=true↔L=M):
  Calls Tryz.prog 41 #[.slice D n d,.slice D' n' d'] w fun e w'=>e=.returned (.bool R)/\Below w.heap.size w w':=by
 have hn:L.length=n:=(hH.eas_n hr).symm;have hn':M.length=n':=(hH'.eas_n hr').symm;unfold maxLen at hl hl';have hni:(n:Int)<=9223372036854775807:=by omega
 have hni':(n':Int)<=9223372036854775807:=by omega
 by_cases hnn:n=n'
 ·subst hnn;have HR:=hide hR;have HH:=hide (And.intro hH hr);have HH':=hide (And.intro hH' hr');have HN:=hide hn;have HN':=hide hn';clear hH hr hH' hr' hn hn' hR;go_enter Tryz.func41,Tryz.ntmps41;go_wp2
  go_loopg [13] n (fun r s13 wx=>∃j:Nat,j+r=n/\s13=.int .i64 (j:Int)/\Hid (L.take j=M.take j)/\Hid (Below w.heap.size w wx))
  case atStart=>exact⟨0,by omega,rfl,hide rfl,hide (Below.refl _ _)⟩
  case round=>
   obtain⟨j,hjg,rfl,hpre,hbr⟩:=hrel;cases gk with
   | zero=>
    obtain rfl:j=n:=by omega
    have hjz:¬((j:Int)<(j:Int)):=by omega
    have hq:Hid (R=true):=hide (HR.out.2 (by
     have:=hpre.out
     rwa [List.take_of_length_le (by rw[HN.out];exact Nat.le_refl _),List.take_of_length_le (by rw[HN'.out];exact Nat.le_refl _)] at this))
    clear HH HH' HN HN' hpre HR;go_wp2;go_ret;exact⟨by rw[hq.out];rfl,hbr.out⟩
   | succ r=>
    have hj:j<n:=(by omega);have hjz:(j:Int)<(n:Int):=by omega
    obtain⟨p,hp⟩:∃p,L[j]?=some p:=⟨_,List.getElem?_eq_getElem (by rw[HN.out];exact hj)⟩;obtain⟨q,hq⟩:∃q,M[j]?=some q:=⟨_,List.getElem?_eq_getElem (by rw[HN'.out];exact hj)⟩;obtain⟨g1,o1,hDe,hg,hparts⟩:=HH.out.1.ea HH.out.2 (fun h=>by rw[h] at hp;simp at hp);obtain⟨g2,o2,hDe',hg',hparts'⟩:=HH'.out.1.ea HH'.out.2 (fun h=>by rw[h] at hq;simp at hq);subst hDe hDe';obtain⟨pA,pc,hcp⟩:=hparts j p hp;obtain⟨qA,qc,hcq⟩:=hparts' j q hq;obtain⟨bb,hbb⟩:=boolOfE (p=q);have hyes:bb=true->Hid (L.take (j+1)=M.take (j+1)):=fun h=>hide (by
     rw[List.take_add_one,List.take_add_one,hpre.out,hp,hq,hbb.1 h])
    have hno:bb=false->Hid (R=false):=fun h=>hide (by
     cases hRR:R with
     | false=>rfl
     | true=>
      have e:=HR.out.1 hRR
      rw[e,hq] at hp
      have:=hbb.2 (Option.some.inj hp).symm
      rw[h] at this
      cases this)
    have HYes:=hide hyes;have HNo:=hide hno;obtain⟨pt,pv⟩:=p;obtain⟨qt,qv⟩:=q;have hpH:Has w w.heap.size 1 pA pv.length (strs pv):=hcp.has;have hqH:Has w w.heap.size 1 qA qv.length (strs qv):=hcq.has;have hpl:pv.length<=pc:=hcp.cap;have hpl2:=hcp.most;unfold maxLen at hpl2;have hb2:=hbr.out;have hbd:Below w.heap.size w wr.drew:=hb2.drew;have X0:Hid (∀W,Below wr.drew.heap.size wr.drew W->W.cell? ⟨g1,o1+j*2,none⟩=some (.string (txt pt))/\W.cell? ⟨g1,o1+j*2+1,none⟩=some (.slice pA pv.length pc)):=hide fun W hW=>by
     have h2:=hbd.trans (hW.mono hbd.size);exact⟨(h2.cell (p:=⟨g1,o1+j*2,none⟩) hg).trans hcp.e0,(h2.cell (p:=⟨g1,o1+j*2+1,none⟩) hg).trans hcp.e1⟩
    have Y0:Hid (∀W,Below wr.drew.heap.size wr.drew W->W.cell? ⟨g2,o2+j*2,none⟩=some (.string (txt qt))/\W.cell? ⟨g2,o2+j*2+1,none⟩=some (.slice qA qv.length qc)):=hide fun W hW=>by
     have h2:=hbd.trans (hW.mono hbd.size);exact⟨(h2.cell (p:=⟨g2,o2+j*2,none⟩) hg').trans hcq.e0,(h2.cell (p:=⟨g2,o2+j*2+1,none⟩) hg').trans hcq.e1⟩
    have HBd:=hide hbd;by_cases ht:pt=qt
    ·subst ht;have HC:Hid (∀W,Below wr.drew.heap.size wr.drew W->Calls Tryz.prog 16 #[.slice pA pv.length pc,.slice qA qv.length qc] W fun e w'=>e=.returned (.bool bb)/\Below W.heap.size W w'):=hide fun W hW=>by
      have h2:=hbd.trans (hW.mono hbd.size);exact zGw W pA qA _ _ pc qc pv qv ((hpH.below h2).upto h2.size) ((hqH.below h2).upto h2.size) (by unfold maxLen;omega) bb (by rw[hbb];simp)
     clear HH HH' HN HN' hpre HR hp hq hparts hparts' hcp hcq hyes hno hbb hpl hpl2 hpH hqH hb2 hbd hbr;generalize pv.length=n1 at *;generalize qv.length=n2 at *;generalize txt pt=s1 at *;go_wp2_with fail;refine zAq (by kernel_rfl) ?_;generalize wr.drew=wd at *;refine yTk 0 (some 16) ?_;(try simp only[pUz]);refine yTk 1 (some 17) ?_;(try simp only[pUz]);refine yTk 2 (some 18) ?_;(try simp only[pUz]);refine yTk 3 (some 19) ?_;(try simp only[pUz]);refine zAa 4 (some 20) (v:=.string s1) rfl rfl (by kernel_rfl) rfl (by rfl) (fun W hW=>?ya4) ?_
     case ya4=>exact zBs _ _ _ rfl g1 (o1+j*2) rfl _ (loadSE W _ _ (X0.out W hW).1)
     (try simp only[pUz]);refine yTk 5 (some 21) ?_;(try simp only[pUz]);refine yTk 6 (some 22) ?_;(try simp only[pUz]);refine yTk 7 (some 23) ?_;(try simp only[pUz]);refine yTk 8 (some 24) ?_;(try simp only[pUz]);refine zAa 9 (some 25) (v:=.string s1) rfl rfl (by kernel_rfl) rfl (by rfl) (fun W hW=>?ya9) ?_
     case ya9=>exact zBs _ _ _ rfl g2 (o2+j*2) rfl _ (loadSE W _ _ (Y0.out W hW).1)
     (try simp only[pUz]);refine zAa 10 (some 26) (v:=.bool false) rfl rfl (by kernel_rfl) rfl (by rfl) (fun W hW=>by go_simp<;>with_reducible rfl) ?_;(try simp only[pUz]);refine zAa 11 (some 27) (v:=.bool false) rfl rfl (by kernel_rfl) rfl (by rfl) (fun W hW=>by go_simp<;>with_reducible rfl) ?_;(try simp only[pUz]);refine yTk 12 (some 28) ?_;(try simp only[pUz]);refine yTk 13 (some 29) ?_;(try simp only[pUz]);refine yTk 14 (some 30) ?_;(try simp only[pUz]);refine yTk 15 (some 31) ?_;(try simp only[pUz]);refine zAa 16 (some 32) (v:=.slice pA n1 pc) rfl rfl (by kernel_rfl) rfl (by rfl) (fun W hW=>?ya16) ?_
     case ya16=>exact zBs _ _ _ rfl g1 (o1+j*2+1) rfl _ (loadTE W _ _ (X0.out W hW).2)
     (try simp only[pUz]);refine yTk 17 (some 33) ?_;(try simp only[pUz]);refine yTk 18 (some 34) ?_;(try simp only[pUz]);refine yTk 19 (some 35) ?_;(try simp only[pUz]);refine yTk 20 (some 36) ?_;(try simp only[pUz]);refine zAa 21 (some 37) (v:=.slice qA n2 qc) rfl rfl (by kernel_rfl) rfl (by rfl) (fun W hW=>?ya21) ?_
     case ya21=>exact zBs _ _ _ rfl g2 (o2+j*2+1) rfl _ (loadTE W _ _ (Y0.out W hW).2)
     (try simp only[pUz]);refine zAe 22 rfl (by kernel_rfl) (fun K hK=>?_);go_simp;refine (HC.out _ (Below.refl _ _)).mono ?_;rintro e w5 ⟨rfl,hb5⟩;have HBz:=hTz HBd hb5;refine hK.out _ _ hb5 ?_;clear hK K hb5 HC X0 Y0 HBd;(try simp only[pUz]);refine yTk 23 (some 39) ?_;(try simp only[pUz]);refine yTk 24 (some 40) ?_;(try simp only[pUz]);refine zAi (by kernel_rfl) ?_ _;cases bb with
     | false=>
      have hbf:=HNo.out rfl;clear HYes HNo;go_wp2;go_ret;exact⟨by rw[hbf.out];rfl,HBz.out⟩
     | true=>
      have hst:=HYes.out rfl;clear HYes HNo;go_wp2
      go_roundg r
      case measure=>omega
      case rel=>exact⟨j+1,by omega,by go_num,hst,HBz⟩
    ·obtain rfl:bb=false:=by
      cases bb with
      | false=>rfl
      | true=>exact absurd (congrArg Prod.fst (hbb.1 rfl)) ht
     have n1:¬txt pt=txt qt:=fun q=>ht (zRs q)
     have n3:((txt pt).toList==(txt qt).toList)=false:=beq_false_of_ne (fun q=>ht (zN7 q));clear HH HH' HN HN' hpre HR hp hq hparts hparts' hcp hcq hyes hno hbb hpl hpl2 hpH hqH hb2 hbd hbr ht;generalize pv.length=n1 at *;generalize qv.length=n2 at *;generalize txt pt=s1 at *;generalize txt qt=s2 at *;have HBz:=HBd;go_wp2_with fail;refine zAq (by kernel_rfl) ?_;generalize wr.drew=wd at *;refine yTk 0 (some 16) ?_;(try simp only[pUz]);refine yTk 1 (some 17) ?_;(try simp only[pUz]);refine yTk 2 (some 18) ?_;(try simp only[pUz]);refine yTk 3 (some 19) ?_;(try simp only[pUz]);refine zAa 4 (some 20) (v:=.string s1) rfl rfl (by kernel_rfl) rfl (by rfl) (fun W hW=>?yb4) ?_
     case yb4=>exact zBs _ _ _ rfl g1 (o1+j*2) rfl _ (loadSE W _ _ (X0.out W hW).1)
     (try simp only[pUz]);refine yTk 5 (some 21) ?_;(try simp only[pUz]);refine yTk 6 (some 22) ?_;(try simp only[pUz]);refine yTk 7 (some 23) ?_;(try simp only[pUz]);refine yTk 8 (some 24) ?_;(try simp only[pUz]);refine zAa 9 (some 25) (v:=.string s2) rfl rfl (by kernel_rfl) rfl (by rfl) (fun W hW=>?yb9) ?_
     case yb9=>exact zBs _ _ _ rfl g2 (o2+j*2) rfl _ (loadSE W _ _ (Y0.out W hW).1)
     (try simp only[pUz]);refine zAa 10 (some 26) (v:=.bool true) rfl rfl (by kernel_rfl) rfl (by rfl) (fun W hW=>by go_simp<;>with_reducible rfl) ?_;(try simp only[pUz]);refine zAa 11 (some 27) (v:=.bool true) rfl rfl (by kernel_rfl) rfl (by rfl) (fun W hW=>by go_simp<;>with_reducible rfl) ?_;(try simp only[pUz]);refine zAl 12 (some 28) rfl rfl (by kernel_rfl) rfl (by rfl) ?_;(try simp only[pUz]);refine zAl 13 (some 29) rfl rfl (by kernel_rfl) rfl (by rfl) ?_;(try simp only[pUz]);refine zAl 14 (some 30) rfl rfl (by kernel_rfl) rfl (by rfl) ?_;(try simp only[pUz]);refine zAl 15 (some 31) rfl rfl (by kernel_rfl) rfl (by rfl) ?_;(try simp only[pUz]);refine zAl 16 (some 32) rfl rfl (by kernel_rfl) rfl (by rfl) ?_;(try simp only[pUz]);refine zAl 17 (some 33) rfl rfl (by kernel_rfl) rfl (by rfl) ?_;(try simp only[pUz]);refine zAl 18 (some 34) rfl rfl (by kernel_rfl) rfl (by rfl) ?_;(try simp only[pUz]);refine zAl 19 (some 35) rfl rfl (by kernel_rfl) rfl (by rfl) ?_;(try simp only[pUz]);refine zAl 20 (some 36) rfl rfl (by kernel_rfl) rfl (by rfl) ?_;(try simp only[pUz]);refine zAl 21 (some 37) rfl rfl (by kernel_rfl) rfl (by rfl) ?_;(try simp only[pUz]);refine zAl 22 (some 38) rfl rfl (by kernel_rfl) rfl (by rfl) ?_;(try simp only[pUz]);refine zAl 23 (some 39) rfl rfl (by kernel_rfl) rfl (by rfl) ?_;(try simp only[pUz]);refine yTk 24 (some 40) ?_;(try simp only[pUz]);refine zAi (by kernel_rfl) ?_ _;have hbf:=HNo.out (by first | rfl | trivial);clear HYes HNo X0 Y0;go_wp2;go_ret;exact⟨by rw[hbf.out];rfl,HBz.out⟩
 ·have z1:((n:Int)==(n':Int))=false:=beq_false_of_ne (by omega);have z2:((n:Int)!=(n':Int))=true:=by unfold bne;rw[z1];rfl
  obtain rfl:R=false:=by
   cases hRR:R with
   | false=>rfl
   | true=>exact absurd (by rw[<-hn,<-hn',hR.1 hRR]) hnn
  clear hH hr hH' hr' hn hn' hR hnn;go_enter Tryz.func41,Tryz.ntmps41;go_wp2;go_ret;exact⟨rfl,Below.refl _ _⟩
theorem zDh (e f:EN) (w:World) (A A':Option Addr) (c c':Nat) (xs ys:List Value) (hH:Has w w.heap.size 2 A e.2.length xs) (hr:EAs w w.heap.size xs e.2) (hH':Has w w.heap.size 2 A' f.2.length ys) (hr':EAs w w.heap.size ys f.2) (hl:e.2.length<=maxLen) (hl':f.2.length<=maxLen):
  Calls Tryz.prog 15 #[.agg #[.string (txt e.1),.slice A e.2.length c],.agg #[.string (txt f.1),.slice A' f.2.length c']] w fun e' w'=>e'=.returned (.bool (Tr (e=f)))/\Below w.heap.size w w':=by
 have hb1:=below1 w (.cells #[.string (txt e.1),.slice A e.2.length c] 38);have hX:=BoxE.new w (txt e.1) A e.2.length c 38;obtain⟨w1,hw1⟩:∃w1,w.alloc (.cells #[.string (txt e.1),.slice A e.2.length c] 38)=w1:=⟨_,rfl⟩;have hs1:w1.heap.size=w.heap.size+1:=by rw[<-hw1];simp
 rw[hw1] at hb1 hX;have hb2:=below1 w1 (.cells #[.string (txt f.1),.slice A' f.2.length c'] 38);have hY:=BoxE.new w1 (txt f.1) A' f.2.length c' 38;obtain⟨w2,hw2⟩:∃w2,w1.alloc (.cells #[.string (txt f.1),.slice A' f.2.length c'] 38)=w2:=⟨_,rfl⟩;rw[hw2] at hb2 hY;have hX2:=hX.grow hb2;have hbb:=hb1.trans (hb2.mono hb1.size);have x0:=hX2.c0;have x1:=hX2.c1;have y0:=hY.c0;have y1:=hY.c1;rw[hs1] at y0 y1;have hc:=zK4 w2 A A' e.2.length f.2.length c c' xs ys e.2 f.2 ((hH.below hbb).upto hbb.size) (hr.grow hbb) ((hH'.below hbb).upto hbb.size) (hr'.grow hbb) hl hl' _ Tr_iff;have HC:=hide hc;have HB:=hide hbb;have Hw1:=hide hw1;have Hw2:=hide hw2;have Hs1:=hide hs1;by_cases h0:e.1=f.1
 ·have s0:((txt e.1).toList==(txt f.1).toList)=true:=by rw[h0];simp
  rw[show Tr (e=f)=Tr (e.2=f.2) by
   by_cases h1:e.2=f.2
   ·rw [zAm h1,zAm (Prod.ext h0 h1)]
   ·rw [zAp h1,zAp fun h=>h1 (by rw[h])]]
  generalize Tr (e.2=f.2)=b at *;generalize txt e.1=E1 at *;generalize txt f.1=F1 at *;generalize e.2.length=n at *;generalize f.2.length=m at *;clear hb1 hX hw1 hs1 hb2 hY hw2 hX2 hbb hc hH hr hH' hr' hl hl' h0;go_enter Tryz.func15,Tryz.ntmps15;go_upto_region 1 with fail;rw[Hw1.out,Hw2.out];(try rw[Hs1.out]);go_wp2_with (go_at_call 41;fail);refine HC.out.mono ?_;rintro e' w3 ⟨rfl,hb3⟩;have HE:=hTz HB hb3;clear hb3 HC x0 x1 y0 y1;go_wp2;go_ret;exact⟨rfl,HE.out⟩
 ·have s0:((txt e.1).toList==(txt f.1).toList)=false:=zBn h0;rw[zAp (show ¬e=f from fun h=>h0 (by rw[h]))];generalize txt e.1=E1 at *;generalize txt f.1=F1 at *;clear hb1 hX hw1 hs1 hb2 hY hw2 hX2 hbb hc hH hr hH' hr' hl hl' h0 HC;go_enter Tryz.func15,Tryz.ntmps15;go_upto_region 1 with fail;rw[Hw1.out,Hw2.out];(try rw[Hs1.out]);go_wp2;go_ret;exact⟨rfl,HB.out⟩
open Go Go.RowKit
theorem stepE {ops:Array Oper} {o:Oper} {a:Act} {K:Act->World->Prop} {Q:Exit->Act->World->Prop} {E:Prop} (W:World) (t e:TypeId) (z:Value) (size bytes:Nat) (hu:Tryz.prog.underlying t=some (.slice e))
  (hinf:(Tryz.prog.info? e).map (fun i=>(i.zero,i.size,i.bytes))=some (some z,size,bytes)) (hzs:z.cells.size=size) (hsz:0<size) (h32:bytes<=128)
  (d:Option Tmp) (hd:o.dst=d) (hgd:o.guard=none) (s x:Operand) (ho:o.op=.call { callee:=.builtin .append,args:=#[s,x],argTypes:=#[t,t] })
  (base:Nat) (v:Value) (n:Nat) (xs:List Value) (hs:a.eval s=v) (hown:W.ownsRow base e size v n xs)
  (B:Nat) (A:Option Addr) (m c:Nat) (l:List Value) (hx:a.eval x=.slice A m c) (hr:Has W B size A m l) (h1:∀u∈l,u.oneCell'=true)
  (hb:n+m<=2000000) (hbase:base<=W.heap.size)
  (h:∀v' w',w'.ownsRow base e size v' (n+m) (xs++l)->Below base W w'->W.grownBy w' v.ownBlock->(v'.ownBlock=v.ownBlock\/v'.ownBlock=some W.heap.size)->K (a.put d v') w'):
  if Region.wanted o (yielded ops a.tmps)=true then Oper.wp Tryz.prog o a W K Q else E:=by
 subst hd;obtain⟨i0,hi,hz0,hz1,hz2⟩:=info_parts hinf;have hbb:(n+m)*bytes<=140737488355328:=Nat.le_trans (Nat.mul_le_mul hb h32) (by omega);refine zM8 W hgd s x t ho base e i0 z size bytes hu hi hz0 hz1 hz2 hzs hsz v n xs hs hown B A m c l hx hr h1 (by unfold maxLen;omega) hbb hbase ?_;intro v' w' h1 h2 h3;exact h v' w' h1 (zA0 hown h2 hbase) h2 h3
theorem appN {ops:Array Oper} {rest:List Oper} {o:Oper} {a:Act} {Q:Exit->Act->World->Prop} (W:World) (t e:TypeId) (z:Value) (size bytes:Nat) (hu:Tryz.prog.underlying t=some (.slice e))
  (hinf:(Tryz.prog.info? e).map (fun i=>(i.zero,i.size,i.bytes))=some (some z,size,bytes)) (hzs:z.cells.size=size) (hsz:0<size) (h32:bytes<=128)
  (hgd:o.guard=none) (s x:Operand) (ho:o.op=.call { callee:=.builtin .append,args:=#[s,x],argTypes:=#[t,t] })
  (base:Nat) (v:Value) (n:Nat) (xs:List Value) (hs:a.eval s=v) (hown:W.ownsRow base e size v n xs)
  (B:Nat) (A:Option Addr) (m c:Nat) (l:List Value) (hx:a.eval x=.slice A m c) (hr:Has W B size A m l) (h1:∀u∈l,u.oneCell'=true)
  (hb:n+m<=2000000) (hbase:base<=W.heap.size)
  (h:∀v' w',w'.ownsRow base e size v' (n+m) (xs++l)->Below base W w'->W.grownBy w' v.ownBlock->(v'.ownBlock=v.ownBlock\/v'.ownBlock=some W.heap.size)->wpList Tryz.prog ops Q rest (a.put o.dst v') w'):
  wpList Tryz.prog ops Q (o::rest) a W:=by
 obtain⟨i0,hi,hz0,hz1,hz2⟩:=info_parts hinf;have hbb:(n+m)*bytes<=140737488355328:=Nat.le_trans (Nat.mul_le_mul hb h32) (by omega);refine zCc W hgd s x t ho base e i0 z size bytes hu hi hz0 hz1 hz2 hzs hsz v n xs hs hown B A m c l hx hr h1 (by unfold maxLen;omega) hbb hbase ?_;intro v' w' h1 h2 h3;exact h v' w' h1 (zA0 hown h2 hbase) h2 h3
theorem infoEA:(Tryz.prog.info? 60).map (fun i=>(i.zero,i.size,i.bytes))=some (some (.agg #[.string .empty,.slice none 0 0]),2,40):=by kernel_rfl
theorem infoEN:(Tryz.prog.info? 38).map (fun i=>(i.zero,i.size,i.bytes))=some (some (.agg #[.string .empty,.slice none 0 0]),2,40):=by kernel_rfl
section
variable {w w' w0:World} {base:Nat} {E:TypeId} {v v':Value} {xs:List Value}
theorem RowA.more {L:List EA} {w4 w5 w7:World} (hR:RowA w4 base E v xs L) (hbase:base<=w4.heap.size) (hb5:Below w4.heap.size w4 w5) {a:EA} {A:Option Addr} {c:Nat} (hc:a.2.length<=c) (hm:c<=maxLen)
  (hH:HasP w5 (NewB w4.heap.size w5.heap.size) 1 A a.2.length (strs a.2)) (C:Obj) (hown:w7.ownsRow base E 2 v' (L.length+1) (xs++[.string (txt a.1),.slice A a.2.length c])) (hg:(w5.alloc C).grownBy w7 v.ownBlock)
  (ht:v'.ownBlock=v.ownBlock\/v'.ownBlock=some (w5.alloc C).heap.size):RowA w7 base E v' (xs++[.string (txt a.1),.slice A a.2.length c]) (L++[a]):=by
 have h6:Below w5.heap.size w5 (w5.alloc C):=(Below.refl _ _).alloc (Nat.le_refl _) C;refine ((hR.below hb5).alloc C).snoc hc hm (hH.move (fun p hp=>h6.cell hp.2) fun b hb=>?_) hown hg ht;obtain⟨h1,h2,h3⟩:=zLt hR.own hbase b hb;exact⟨h1,Nat.lt_of_lt_of_le h2 h6.size,h3⟩
theorem RowN.more {L:List EN} {w4 w5 w7:World} (hR:RowN w4 base E v xs L) (hbase:base<=w4.heap.size) (hb5:Below w4.heap.size w4 w5) {a:EN} {A:Option Addr} {c:Nat} {ys:List Value} (hc:a.2.length<=c) (hm:c<=maxLen)
  {w6:World} (h6:Below w5.heap.size w5 w6) (hH:HasP w5 (NewB w4.heap.size w5.heap.size) 2 A a.2.length ys) (hE:EAsP w5 (NewB w4.heap.size w5.heap.size) ys a.2) (hown:w7.ownsRow base E 2 v' (L.length+1) (xs++[.string (txt a.1),.slice A a.2.length c])) (hg:w6.grownBy w7 v.ownBlock)
  (ht:v'.ownBlock=v.ownBlock\/v'.ownBlock=some w6.heap.size):RowN w7 base E v' (xs++[.string (txt a.1),.slice A a.2.length c]) (L++[a]):=by
 have hoff:∀b,NewB w4.heap.size w5.heap.size b->base<=b/\b<w6.heap.size/\some b≠v.ownBlock:=fun b hb=>by
  obtain⟨h1,h2,h3⟩:=zLt hR.own hbase b hb;exact⟨h1,Nat.lt_of_lt_of_le h2 h6.size,h3⟩
 exact ((hR.below hb5).below h6).snoc hc hm (hH.move (fun p hp=>h6.cell hp.2) hoff) (hE.move (fun p hp=>h6.cell hp.2) hoff) hown hg ht
theorem litY (w:World) (u0 u1:Value) (e:TypeId) (h0:u0.oneCell'=true) (h1:u1.oneCell'=true):(w.alloc (.cells #[u0,u1] e)).ownsRow w.heap.size e 2 (.slice (some ⟨w.heap.size,0,none⟩) 1 1) 1 [u0,u1]:=
 World.ownsRow_lit w #[u0,u1] 1 (Nat.le_refl _) (by unfold maxLen;omega) rfl
end
end Go.Proofs.YtdkekamkmlpnhaaGreatDoor
