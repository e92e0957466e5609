/- Several texts in one: Float, Part, Part2, Form, Of, Tabs, Text, Print, RefText, Scope, Idx, Lia, TextMath, Read, Parse. By an AI agent. -/
import Ieee.Arith
import Derived.Laws.FloatArith
import Derived.Laws.Externs
import Derived.WalkLawsBesides
import Derived.Laws.ResultCell
import Derived.Test.YtdkekamkmlpnhaaGreatDoorRows
import Derived.Test.YtdkekamkmlpnhaaGreatDoorShelf
import Derived.Stop.LaidErr
import Derived.Lib.LaidTab
import Derived.Lib.LaidU8T
import Derived.Lib.SmallJoins
import Derived.PinnedBridge
import Derived.Below
import Derived.Lib.ItoaLen
import Derived.Lib.AppendIntMem
import Derived.Deep.RegionWith
import Derived.Scope
import Derived.ScopeJumps
import Derived.WalkKit
import Derived.Handy
import Derived.BigQuiet
import Derived.Laws.RangeString
import Derived.Lib.TrimAscii
import Derived.Lib.TrimU
import Derived.Deep.LoopGhost
import Derived.Deep.WholeRow
import Derived.Lib.AtoiTie
import Derived.Lib.AtoiAllCases
import Derived.Test.YtdkekamkmlpnhaaGreatDoorWords
import Derived.Test.YtdkekamkmlpnhaaGreatDoorSeat
import Derived.Test.YtdkekamkmlpnhaaGreatDoorGrow
set_option linter.unusedSimpArgs false
set_option linter.unusedVariables false
set_option maxRecDepth 1000000
set_option maxHeartbeats 8000000
namespace Go.Proofs.YtdkekamkmlpnhaaGreatDoor
namespace Flt
open Ieee
def sg (s:Bool) (m:Nat):Int:=if s then -(m:Int) else (m:Int)
def IsN (d:Datum) (s:Bool) (n:Int):Prop:=∃k:Nat,d=.number s (n.natAbs*2 ^ k) (-(k:Int))/\(n≠0->s=decide (n<0))
theorem zQ0 {s:Bool} {n:Int} (h:n≠0->s=decide (n<0)) (c:Nat):sg s (n.natAbs*c)=n*c:=by
 by_cases h0:n=0
 ·subst h0;simp[sg]
 ·have hs:=h h0;unfold sg;by_cases hn:n<0
  ·rw [hs];simp only[hn,decide_true,if_true];rw[Int.natCast_mul,<-Int.neg_mul];congr 1;omega
  ·rw [hs];simp only[hn,decide_false];rw[if_neg (by simp),Int.natCast_mul];congr 1;omega
theorem zD6 (s:Bool) (m u:Nat):signed s m u=sg s (m*2 ^ u):=by
 unfold signed sg;rw[Nat.shiftLeft_eq]
theorem zHn (s:Bool) (m c:Nat):sg s (m*c)=sg s m*c:=by
 unfold sg;split<;>simp[Int.natCast_mul,Int.neg_mul]
theorem zBd (a b:Int) (c:Nat) (hc:0<c):compare (a*c) (b*c)=compare a b:=by
 have hc':(0:Int)<c:=by omega
 rcases Int.lt_trichotomy a b with h | h | h
 ·rw [show compare a b=.lt from Int.compare_eq_lt.2 h,Int.compare_eq_lt];exact Int.mul_lt_mul_of_pos_right h hc'
 ·subst h;simp
 ·rw [show compare a b=.gt from Int.compare_eq_gt.2 h,Int.compare_eq_gt];exact Int.mul_lt_mul_of_pos_right h hc'
theorem zD1 (s t:Bool) (m m' k l:Nat):(Datum.number s m (-(k:Int))).order (.number t m' (-(l:Int)))=some (compare (sg s (m*2 ^ l)) (sg t (m'*2 ^ k))):=by
 simp only[Datum.order,zD6];congr 1;by_cases h:k<=l
 ·have e1:min (-(k:Int)) (-(l:Int))= -(l:Int):=by omega
  rw[e1,show (-(k:Int) - -(l:Int)).toNat=l-k by omega,show (-(l:Int) - -(l:Int)).toNat=0 by omega];rw[<-zBd _ _ (2 ^ k) (Nat.two_pow_pos k),<-zHn,<-zHn];congr 2
  ·rw [Nat.mul_assoc,<-Nat.pow_add];congr 2;omega
  ·simp
 ·have e1:min (-(k:Int)) (-(l:Int))= -(k:Int):=by omega
  rw[e1,show (-(k:Int) - -(k:Int)).toNat=0 by omega,show (-(l:Int) - -(k:Int)).toNat=k-l by omega];rw[<-zBd _ _ (2 ^ l) (Nat.two_pow_pos l),<-zHn,<-zHn];congr 2
  ·simp
  ·rw [Nat.mul_assoc,<-Nat.pow_add];congr 2;omega
theorem zAy {a b:Datum} {s t:Bool} {n m:Int} (ha:IsN a s n) (hb:IsN b t m):a.order b=some (compare n m):=by
 obtain⟨k,rfl,hs⟩:=ha;obtain⟨l,rfl,ht⟩:=hb;rw[zD1,Nat.mul_assoc,Nat.mul_assoc,zQ0 hs,zQ0 ht,Nat.mul_comm (2 ^ l),zBd _ _ _ (Nat.mul_pos (Nat.two_pow_pos k) (Nat.two_pow_pos l))]
theorem zN9 {s:Bool} {n:Int} (hs:n≠0->s=decide (n<0)) (k u:Nat):signed s (n.natAbs*2 ^ k) u=n*(2 ^ (k+u):Nat):=by
 rw[zD6,Nat.mul_assoc,<-Nat.pow_add,zQ0 hs]
theorem cut_zero (s:Bool) (m k:Nat):Toward.zero.cut s m k=m/2 ^ k:=by
 simp only[Toward.cut,Bool.toNat_false,Nat.add_zero,Nat.one_shiftLeft];by_cases h:k<=m.log2+2
 ·rw [Nat.min_eq_left h]
 ·rw [Nat.min_eq_right (by omega)];have h1:m<2 ^ (m.log2+2):=Nat.lt_of_lt_of_le Nat.lt_log2_self (Nat.pow_le_pow_right (by omega) (by omega));have h2:m<2 ^ k:=Nat.lt_of_lt_of_le h1 (Nat.pow_le_pow_right (by omega) (by omega));rw[Nat.div_eq_of_lt h1,Nat.div_eq_of_lt h2]
theorem zBv (s:Bool) (m k:Nat):(Datum.number s m (-(k:Int))).integral .zero=.number s (m/2 ^ k) 0:=by
 simp only[Datum.integral];rw[show (-(k:Int)).toNat=0 by omega,show (- -(k:Int)).toNat=k by omega,Nat.shiftLeft_zero,cut_zero]
theorem zEz (s:Bool) (m k:Nat):(Datum.number s m (-(k:Int))).toInt .zero=some (sg s (m/2 ^ k)):=by
 rw[Datum.toInt,zBv];simp[zD6]
theorem zE2 {a:Datum} {s:Bool} {n:Int} (ha:IsN a s n):IsN (a.integral .zero) s n:=by
 obtain⟨k,rfl,hs⟩:=ha;rw[zBv,Nat.mul_div_cancel _ (Nat.two_pow_pos k)];exact⟨0,by simp,hs⟩
theorem zQ7 {a:Datum} {s:Bool} {n:Int} (ha:IsN a s n):a.toInt .zero=some n:=by
 obtain⟨k,rfl,hs⟩:=ha;rw[zEz,Nat.mul_div_cancel _ (Nat.two_pow_pos k)];have:=zQ0 hs 1;simpa using this
theorem zDg (s:Bool) (q j:Nat) (hq:0<q):Toward.even.cut s (q*2 ^ j) j=q:=by
 have hj:j<=(q*2 ^ j).log2+2:=by have h1:2 ^ j<=q*2 ^ j:=Nat.le_mul_of_pos_left _ hq;have:=(Nat.le_log2 (n:=q*2 ^ j) (k:=j) (Nat.ne_of_gt (Nat.mul_pos hq (Nat.two_pow_pos j)))).2 h1;omega
 simp only[Toward.cut,Nat.one_shiftLeft,Nat.min_eq_left hj];rw[Nat.mul_mod_left,Nat.mul_div_cancel _ (Nat.two_pow_pos j)];have:0<2 ^ j:=Nat.two_pow_pos j;simp
theorem zJp (n k:Nat) (hn:0<n):(n*2 ^ k).log2=n.log2+k:=by
 refine (Nat.log2_eq_iff (Nat.ne_of_gt (Nat.mul_pos hn (Nat.two_pow_pos k)))).2 ⟨?_,?_⟩
 ·rw [Nat.pow_add];exact Nat.mul_le_mul_right _ (Nat.log2_self_le (Nat.ne_of_gt hn))
 ·rw [show n.log2+k+1=(n.log2+1)+k by omega,Nat.pow_add];exact Nat.mul_lt_mul_of_pos_right Nat.lt_log2_self (Nat.two_pow_pos k)
theorem zJc (s:Bool) (N k:Nat) (h0:0<N) (h1:N<2 ^ 53):
  double.nearest s (N*2 ^ k) (-(k:Int))=double.word s ((N.log2+1022)*2 ^ 52+N*2 ^ (52-N.log2)):=by
 have hL:N.log2<53:=(Nat.log2_lt (Nat.ne_of_gt h0)).2 h1;have hm:N*2 ^ k≠0:=Nat.ne_of_gt (Nat.mul_pos h0 (Nat.two_pow_pos k));have hl:double.leastPlace= -1074:=by decide
 have hb:double.binade=2 ^ 52:=rfl;have hf:double.fractionBits=52:=rfl;have hi:double.infRung=2047*2 ^ 52:=by decide
 simp only[Format.nearest,hm,if_false,zJp N k h0,hl,hb,hf,hi];have e1:max (-(k:Int)+((N.log2+k:Nat):Int)-((52:Nat):Int)) (-1074)=(N.log2:Int)-52:=by omega
 rw[e1];have kept:Toward.even.cut s ((N*2 ^ k)<<<(-(k:Int)-((N.log2:Int)-52)).toNat) ((N.log2:Int)-52 - -(k:Int)).toNat=N*2 ^ (52-N.log2):=by
  by_cases hk:k<=52-N.log2
  ·rw [show (-(k:Int)-((N.log2:Int)-52)).toNat=52-N.log2-k by omega,show ((N.log2:Int)-52 - -(k:Int)).toNat=0 by omega];rw[Nat.shiftLeft_eq,Nat.mul_assoc,<-Nat.pow_add,show k+(52-N.log2-k)=52-N.log2 by omega];have:=zDg s (N*2 ^ (52-N.log2)) 0 (Nat.mul_pos h0 (Nat.two_pow_pos _));simpa using this
  ·rw [show (-(k:Int)-((N.log2:Int)-52)).toNat=0 by omega,show ((N.log2:Int)-52 - -(k:Int)).toNat=k-(52-N.log2) by omega,Nat.shiftLeft_zero];have:=zDg s (N*2 ^ (52-N.log2)) (k-(52-N.log2)) (Nat.mul_pos h0 (Nat.two_pow_pos _));rw[Nat.mul_assoc,<-Nat.pow_add,show 52-N.log2+(k-(52-N.log2))=k by omega] at this;exact this
 rw[kept,show ((N.log2:Int)-52 - -1074).toNat=N.log2+1022 by omega];have hq:N*2 ^ (52-N.log2)<2 ^ 53:=by
  have:N*2 ^ (52-N.log2)<2 ^ (N.log2+1)*2 ^ (52-N.log2):=Nat.mul_lt_mul_of_pos_right Nat.lt_log2_self (Nat.two_pow_pos _);rw[<-Nat.pow_add,show N.log2+1+(52-N.log2)=53 by omega] at this;exact this
 rw[Nat.min_eq_left];clear kept e1 hi hf hb hl hm;generalize N*2 ^ (52-N.log2)=q at hq;generalize N.log2=L at hL;show (L+1022)*2 ^ 52+q<=2047*2 ^ 52;omega
theorem zF9 (s:Bool) (r:Nat) (hr:r<2 ^ 63):double.read (double.word s r)=
  (if r<2 ^ 52 then .number s r (-1074) else if r<2047*2 ^ 52 then .number s (2 ^ 52+r % 2 ^ 52) (-1074+(r/2 ^ 52-1:Nat)) else if r=2047*2 ^ 52 then .infinity s else .nan s (r-2047*2 ^ 52)):=by
 have hl:double.leastPlace= -1074:=by decide
 have hb:double.binade=2 ^ 52:=rfl;have hi:double.infRung=2047*2 ^ 52:=by decide
 have hw:double.signWeight=2 ^ 63:=rfl;have e1:(double.word s r/2 ^ 63 % 2==1)=s:=by
  unfold Format.word;cases s
  ·simp only[Bool.false_eq_true,if_false,Nat.div_eq_of_lt hr];rfl
  ·simp only[if_true,hw];rw[show (2 ^ 63+r)/2 ^ 63=1 by omega];rfl
 have e2:double.word s r % 2 ^ 63=r:=by
  unfold Format.word;cases s
  ·simp only[Bool.false_eq_true,if_false];omega
  ·simp only[if_true,hw];omega
 simp only[Format.read,hl,hb,hi,hw,e1,e2]
theorem eq_word {x:Nat} (hx:x<2 ^ 64):x=double.word (decide (2 ^ 63<=x)) (x % 2 ^ 63):=by
 have hw:double.signWeight=2 ^ 63:=rfl;unfold Format.word;by_cases h:2 ^ 63<=x
 ·simp only[h,decide_true,if_true,hw];omega
 ·simp only[h,decide_false,Bool.false_eq_true,if_false];omega
theorem zDx {d:Datum} {s:Bool} {n:Int} (hd:IsN d s n) (hn:n.natAbs<2 ^ 53):IsN (double.read (double.write d)) s n:=by
 obtain⟨k,rfl,hs⟩:=hd;simp only[Format.write];by_cases h0:n=0
 ·subst h0;have:double.nearest s ((0:Int).natAbs*2 ^ k) (-(k:Int))=double.word s 0:=by simp[Format.nearest]
  rw[this,zF9 s 0 (by omega)];refine⟨1074,?_,hs⟩;generalize 2 ^ 1074=p;rw[Int.natAbs_zero,Nat.zero_mul];rfl
 ·have hp:0<n.natAbs:=by omega
  have hL:n.natAbs.log2<53:=(Nat.log2_lt (by omega)).2 hn;rw[zJc s _ k hp hn];generalize hN:n.natAbs=N at *;have hq:N*2 ^ (52-N.log2)<2 ^ 53:=by have:N*2 ^ (52-N.log2)<2 ^ (N.log2+1)*2 ^ (52-N.log2):=Nat.mul_lt_mul_of_pos_right Nat.lt_log2_self (Nat.two_pow_pos _);rw[<-Nat.pow_add,show N.log2+1+(52-N.log2)=53 by omega] at this;exact this
  have hq0:2 ^ 52<=N*2 ^ (52-N.log2):=by have:2 ^ N.log2*2 ^ (52-N.log2)<=N*2 ^ (52-N.log2):=Nat.mul_le_mul_right _ (Nat.log2_self_le (by omega));rw[<-Nat.pow_add,show N.log2+(52-N.log2)=52 by omega] at this;exact this
  generalize hqq:N*2 ^ (52-N.log2)=q at *;rw[zF9 s _ (by omega),if_neg (by omega),if_pos (by omega)];refine⟨52-N.log2,?_,hs⟩;rw[hN,hqq];congr 1
  ·omega
  ·omega
theorem zDq (n:Int) (hn:n.natAbs<2 ^ 53):IsN (double.read (FloatKind.f64.nearest n)) (decide (n<0)) n:=by
 have:IsN (.number (decide (n<0)) n.natAbs 0) (decide (n<0)) n:=⟨0,by simp,fun _=>rfl⟩;exact zDx this hn
end Flt
end Go.Proofs.YtdkekamkmlpnhaaGreatDoor
namespace Go.Proofs.YtdkekamkmlpnhaaGreatDoor
namespace Flt
open Ieee
def Part (x:Nat) (n:Int):Prop:=x<2 ^ 64/\IsN (double.read x) (decide (n<0)) n/\ -1000000<=n/\n<=1000000
theorem zMd (x:Nat) (hx:x<2 ^ 64):double.read x=
  (if x % 2 ^ 63<2 ^ 52 then .number (decide (2 ^ 63<=x)) (x % 2 ^ 63) (-1074) else if x % 2 ^ 63<2047*2 ^ 52 then .number (decide (2 ^ 63<=x)) (2 ^ 52+(x % 2 ^ 63) % 2 ^ 52) (-1074+((x % 2 ^ 63)/2 ^ 52-1:Nat))
   else if x % 2 ^ 63=2047*2 ^ 52 then .infinity (decide (2 ^ 63<=x)) else .nan (decide (2 ^ 63<=x)) (x % 2 ^ 63-2047*2 ^ 52)):=by
 have:=zF9 (decide (2 ^ 63<=x)) (x % 2 ^ 63) (Nat.mod_lt _ (Nat.two_pow_pos 63));rw[<-eq_word hx] at this;exact this
theorem zHs (x:Nat) (hx:x<2 ^ 64):
  (∃s t,double.read x=.nan s t)\/(∃s,double.read x=.infinity s)\/(∃m e:Nat,double.read x=.number (decide (2 ^ 63<=x)) m (e:Int)/\2 ^ 52<=m)\/
  (∃m k:Nat,double.read x=.number (decide (2 ^ 63<=x)) m (-(k:Int))/\0<k/\(m=0↔x % 2 ^ 63=0)):=by
 rw[zMd x hx];by_cases h1:x % 2 ^ 63<2 ^ 52
 ·rw [if_pos h1];exact Or.inr (Or.inr (Or.inr ⟨_,1074,rfl,by omega,Iff.rfl⟩))
 ·rw [if_neg h1];by_cases h2:x % 2 ^ 63<2047*2 ^ 52
  ·rw [if_pos h2];by_cases h3:1074<=(x % 2 ^ 63)/2 ^ 52-1
   ·refine Or.inr (Or.inr (Or.inl ⟨2 ^ 52+(x % 2 ^ 63) % 2 ^ 52,(x % 2 ^ 63)/2 ^ 52-1-1074,?_,by omega⟩));clear h1 h2;generalize x % 2 ^ 63/2 ^ 52-1=q at h3;obtain⟨j,rfl⟩:=Nat.exists_eq_add_of_le h3;rw[Nat.add_sub_cancel_left,Int.natCast_add];have e:(-1074:Int)+(((1074:Nat):Int)+(j:Int))=(j:Int):=by omega
    rw[e]
   ·refine Or.inr (Or.inr (Or.inr ⟨2 ^ 52+(x % 2 ^ 63) % 2 ^ 52,1074-((x % 2 ^ 63)/2 ^ 52-1),?_,by omega,by omega⟩));clear h1 h2;generalize x % 2 ^ 63/2 ^ 52-1=q at h3;have e0:1074-q+q=1074:=Nat.sub_add_cancel (by omega);generalize 1074-q=j at e0;have e:(-1074:Int)+(q:Int)= -(j:Int):=by omega
    rw[e]
  ·rw [if_neg h2];by_cases h4:x % 2 ^ 63=2047*2 ^ 52
   ·rw [if_pos h4];exact Or.inr (Or.inl ⟨_,rfl⟩)
   ·rw [if_neg h4];exact Or.inl ⟨_,_,rfl⟩
theorem zFl (x:Nat) (hx:x<2 ^ 64):double.read (x % 2 ^ 63)=match double.read x with
  | .nan _ t=>.nan false t
  | .infinity _=>.infinity false
  | .number _ m e=>.number false m e:=by
 rw[zMd x hx,zMd (x % 2 ^ 63) (by omega)];have e1:x % 2 ^ 63 % 2 ^ 63=x % 2 ^ 63:=by omega
 have e2:(decide (2 ^ 63<=x % 2 ^ 63))=false:=by simp;omega
 rw[e1,e2];by_cases h1:x % 2 ^ 63<2 ^ 52
 ·simp only[if_pos h1]
 ·by_cases h2:x % 2 ^ 63<2047*2 ^ 52
  ·simp only[if_neg h1,if_pos h2]
  ·by_cases h3:x % 2 ^ 63=2047*2 ^ 52
   ·simp only[if_neg h1,if_neg h2,if_pos h3]
   ·simp only[if_neg h1,if_neg h2,if_neg h3]
def w0:Nat:=0
def wm:Nat:=13920209183539462144
theorem zFs (x:Nat) (n:Int) (hn:n.natAbs<2 ^ 53) (h:FloatKind.f64.nearest n=x):IsN (double.read x) (decide (n<0)) n:=h ▸ zDq n hn
theorem zLr:IsN (double.read 0) false 0:=zFs 0 0 (by decide) (by decide+kernel)
theorem zGk:IsN (double.read 4696837146684686336) false 1000000:=zFs _ 1000000 (by decide) (by decide+kernel)
theorem num_m:IsN (double.read 13920209183539462144) true (-1000000):=zFs _ (-1000000) (by decide) (by decide+kernel)
theorem zRz {x:Nat} (hx:x<2 ^ 64) {s:Bool} {n:Int} (h:IsN (double.read x) s n):s=decide (2 ^ 63<=x):=by
 obtain⟨k,e,_⟩:=h;rcases zHs x hx with⟨_,_,h⟩ | ⟨_,h⟩ | ⟨_,_,h,_⟩ | ⟨_,_,h,_⟩<;>rw[h] at e<;>first | (injection e with e1;exact e1.symm) | cases e
end Flt
end Go.Proofs.YtdkekamkmlpnhaaGreatDoor
namespace Go.Proofs.YtdkekamkmlpnhaaGreatDoor
namespace Flt
open Ieee
def Tr (x y:Nat):Prop:=(∃s t,double.read x=.nan s t)\/y=double.write ((double.read x).integral .zero)
theorem zD7 {s t:Bool} {m e:Nat} {n:Int} {b:Datum} (hm:2 ^ 52<=m) (hb:IsN b t n) (h0: -1000000<=n) (h1:n<=1000000):
  (Datum.number s m (e:Int)).order b=some (if s then .lt else .gt):=by
 obtain⟨k,rfl,hs⟩:=hb;simp only[Datum.order];rw[show min (e:Int) (-(k:Int))= -(k:Int) by omega,zD6,zN9 hs];rw[show ((e:Int) - -(k:Int)).toNat=e+k by omega,show k+(-(k:Int) - -(k:Int)).toNat=k by omega,Nat.pow_add,<-Nat.mul_assoc,zHn,zBd _ _ _ (Nat.two_pow_pos k)];have h2:2 ^ 52<=m*2 ^ e:=Nat.le_trans hm (Nat.le_mul_of_pos_right _ (Nat.two_pow_pos e));generalize m*2 ^ e=q at h2;cases s
 ·simp only[sg,Bool.false_eq_true,if_false];rw[Int.compare_eq_gt.2 (by omega)]
 ·simp only[sg,if_true];rw[Int.compare_eq_lt.2 (by omega)]
theorem zBz (s:Bool) (t:Nat):(sg s t).natAbs=t:=by unfold sg;split<;>omega
theorem zLd {s:Bool} {t k:Nat} (j:Nat) (hk:k=j):IsN (.number s (t*2 ^ k) (-(j:Int))) s (sg s t):=by
 subst hk;refine⟨k,by rw[zBz],fun h=>?_⟩;cases s
 ·simp [sg]<;>omega
 ·have:t≠0:=by rintro rfl;simp[sg] at h
  simp[sg]<;>omega
theorem num_cut0 (s:Bool) (t:Nat):IsN (.number s t 0) s (sg s t):=by
 have:=zLd (s:=s) (t:=t) (k:=0) 0 rfl;simpa using this
theorem zFp {s t:Bool} {m k:Nat} {n:Int} {b:Datum} (hb:IsN b t n):(Datum.number s m (-(k:Int))).order b=some (compare (sg s m) (n*(2 ^ k:Nat))):=by
 obtain⟨j,rfl,hs⟩:=hb;rw[zD1,Nat.mul_assoc,zQ0 hs,zHn s,Nat.mul_comm (2 ^ j),Int.natCast_mul,<-Int.mul_assoc,zBd _ _ _ (Nat.two_pow_pos j)]
theorem zFx {s t:Bool} {m k:Nat} {n:Int} {b:Datum} (hb:IsN b t n) (h:∀q,m≠q*2 ^ k):(Datum.number s m (-(k:Int))).order b≠some .eq:=by
 rw[zFp hb];intro e;have e:=Option.some.inj e;rw[Int.compare_eq_eq] at e;have e2:=congrArg Int.natAbs e;rw[zBz,Int.natAbs_mul,Int.natAbs_natCast] at e2;exact h _ e2
structure Bad (x:Nat):Prop where
 nz:double.order x 0≠some .eq
 tr:∀y,Tr x y->double.order x y=some .eq->double.order (x % 2 ^ 63) 4696837146684686336≠some .lt/\double.order (x % 2 ^ 63) 4696837146684686336≠some .eq
 rg:(double.order x 13920209183539462144=some .gt\/double.order x 13920209183539462144=some .eq)->(double.order x 4696837146684686336=some .lt\/double.order x 4696837146684686336=some .eq)->
  ∃z,(double.read x).toInt .zero=some z/\ -1000000<=z/\z<=1000000/\double.order (FloatKind.f64.nearest z) x≠some .eq
theorem zH5 {a b:Datum} (h:a.order b≠some .eq) (hb:∃s m e,a=.number s m e) (hc:∃s m e,b=.number s m e):b.order a≠some .eq:=by
 obtain⟨s,m,e,rfl⟩:=hb;obtain⟨t,n,f,rfl⟩:=hc;simp only[Datum.order] at h ⊢;rw[Int.min_comm];intro hh;apply h;have:=Option.some.inj hh;rw[Int.compare_eq_eq] at this;rw[this,Int.compare_eq_eq.2 rfl]
theorem zIk (x:Nat) (hx:x<2 ^ 64):(∃n,Part x n)\/x=2 ^ 63\/Bad x:=by
 rcases zHs x hx with⟨s,t,h⟩ | ⟨s,h⟩ | ⟨m,e,h,hm⟩ | ⟨m,k,h,hk,hm⟩
 ·refine Or.inr (Or.inr ⟨?_,?_,?_⟩)
  ·simp [Format.order,h,Datum.order]
  ·intro y _ hy;simp[Format.order,h,Datum.order] at hy
  ·intro h1;simp[Format.order,h,Datum.order] at h1
 ·have ha:=zFl x hx;rw[h] at ha;refine Or.inr (Or.inr ⟨?_,?_,?_⟩)
  ·obtain ⟨k,e,_⟩:=zLr;rw[Format.order,h,e];cases s<;>simp[Datum.order]
  ·intro y _ _;obtain⟨k,e,_⟩:=zGk;rw[Format.order,ha,e];simp[Datum.order]
  ·intro h1 h2;obtain⟨k,e,_⟩:=zGk;obtain⟨k',e',_⟩:=num_m;rw[Format.order,h,e'] at h1;rw[Format.order,h,e] at h2;cases s<;>simp[Datum.order] at h1 h2
 ·have ha:=zFl x hx;rw[h] at ha;refine Or.inr (Or.inr ⟨?_,?_,?_⟩)
  ·rw [Format.order,h,zD7 hm zLr (by omega) (by omega)];split<;>simp
  ·intro y _ _;rw[Format.order,ha,zD7 hm zGk (by omega) (by omega)];simp
  ·intro h1 h2;rw[Format.order,h,zD7 hm zGk (by omega) (by omega)] at h2;rw[Format.order,h,zD7 hm num_m (by omega) (by omega)] at h1;split at h1<;>simp_all
 ·have ha:=zFl x hx;rw[h] at ha;by_cases h0:m=0
  ·have h1:=hm.1 h0;by_cases h2:2 ^ 63<=x
   ·exact Or.inr (Or.inl (by omega))
   ·obtain rfl:x=0:=by omega
    exact Or.inl ⟨0,hx,zLr,by omega,by omega⟩
  ·by_cases hw:m=m/2 ^ k*2 ^ k
   ·generalize m/2 ^ k=t at hw;subst hw;have hn:=zLd (s:=decide (2 ^ 63<=x)) (t:=t) (k:=k) k rfl;rw[<-h] at hn;by_cases ht:t<=1000000
    ·refine Or.inl ⟨sg (decide (2 ^ 63<=x)) t,hx,?_,?_,?_⟩
     ·have ht0:t≠0:=by rintro rfl;simp at h0
      have:decide (sg (decide (2 ^ 63<=x)) t<0)=decide (2 ^ 63<=x):=by
       cases decide (2 ^ 63<=x)
       ·simp [sg]
       ·simp [sg];omega
      rw[this];exact hn
     ·unfold sg;split<;>omega
     ·unfold sg;split<;>omega
    ·have hn2:=zLd (s:=false) (t:=t) (k:=k) k rfl;have ha':double.read (x % 2 ^ 63)=.number false (t*2 ^ k) (-(k:Int)):=ha;rw[<-ha'] at hn2;refine Or.inr (Or.inr ⟨?_,?_,?_⟩)
     ·rw [Format.order,zAy hn zLr];intro e;have e:=Option.some.inj e;rw[Int.compare_eq_eq] at e;have:=zBz (decide (2 ^ 63<=x)) t;omega
     ·intro y _ _;rw[Format.order,zAy hn2 zGk,Int.compare_eq_gt.2 (by simp[sg];omega)];simp
     ·intro h1 h2;rw[Format.order,zAy hn num_m] at h1;rw[Format.order,zAy hn zGk] at h2;have h1': -1000000<=sg (decide (2 ^ 63<=x)) t:=by
       rcases h1 with e | e
       ·have:=Int.compare_eq_gt.1 (Option.some.inj e);omega
       ·have:=Int.compare_eq_eq.1 (Option.some.inj e);omega
      have h2':sg (decide (2 ^ 63<=x)) t<=1000000:=by
       rcases h2 with e | e
       ·have:=Int.compare_eq_lt.1 (Option.some.inj e);omega
       ·have:=Int.compare_eq_eq.1 (Option.some.inj e);omega
      have:=zBz (decide (2 ^ 63<=x)) t;omega
   ·have hq:∀q,m≠q*2 ^ k:=by
     rintro q rfl;rw[Nat.mul_div_cancel _ (Nat.two_pow_pos k)] at hw;exact hw rfl
    refine Or.inr (Or.inr ⟨?_,?_,?_⟩)
    ·rw [Format.order,h];exact zFx zLr hq
    ·intro y hy hyo;have ha':double.read (x % 2 ^ 63)=.number false m (-(k:Int)):=ha;rw[Format.order,ha',zFp zGk];by_cases ht:m/2 ^ k<=1000000
     ·exfalso;rcases hy with⟨_,_,e⟩ | rfl
      ·rw [h] at e;cases e
      ·rw [Format.order,h,zBv] at hyo;exact zFx (zDx (num_cut0 _ _) (by rw[zBz];omega)) hq hyo
     ·have h3:1000001*2 ^ k<=m:=(Nat.le_div_iff_mul_le (Nat.two_pow_pos k)).1 (by omega);have hp:=Nat.two_pow_pos k;generalize 2 ^ k=p at h3 hp;rw[Int.compare_eq_gt.2 (by simp only[sg,Bool.false_eq_true,if_false];omega)];simp
    ·intro h1 h2;rw[Format.order,h,zFp num_m] at h1;rw[Format.order,h,zFp zGk] at h2;have hp:=Nat.two_pow_pos k;have h1': -1000000*((2 ^ k:Nat):Int)<=sg (decide (2 ^ 63<=x)) m:=by
      rcases h1 with e | e
      ·have:=Int.compare_eq_gt.1 (Option.some.inj e);omega
      ·have:=Int.compare_eq_eq.1 (Option.some.inj e);omega
     have h2':sg (decide (2 ^ 63<=x)) m<=1000000*((2 ^ k:Nat):Int):=by
      rcases h2 with e | e
      ·have:=Int.compare_eq_lt.1 (Option.some.inj e);omega
      ·have:=Int.compare_eq_eq.1 (Option.some.inj e);omega
     have hm':m<=1000000*2 ^ k:=(by have:=zBz (decide (2 ^ 63<=x)) m;generalize 2 ^ k=p at h1' h2' hp ⊢;omega);have ht:m/2 ^ k<=1000000:=Nat.le_of_lt_succ ((Nat.div_lt_iff_lt_mul hp).2 (by clear h1' h2' h1 h2 hm hx;generalize 2 ^ k=p at hm' hp ⊢;omega));have hz:=zBz (decide (2 ^ 63<=x)) (m/2 ^ k);refine⟨sg (decide (2 ^ 63<=x)) (m/2 ^ k),by rw[h,zEz],by omega,by omega,?_⟩;have hn:=zDq (sg (decide (2 ^ 63<=x)) (m/2 ^ k)) (by omega);rw[Format.order,h];obtain⟨j,e,_⟩:=id hn;exact zH5 (zFx hn hq) ⟨_,_,_,rfl⟩ ⟨_,_,_,e⟩
theorem zR2 {x:Nat} (hx:x<2 ^ 64) {s:Bool} {n:Int} (h:IsN (double.read x) s n):IsN (double.read (x % 2 ^ 63)) false (n.natAbs:Int):=by
 have ha:=zFl x hx;obtain⟨k,e,_⟩:=h;rw[e] at ha;exact⟨k,by rw[ha];simp,fun _=>by simp⟩
theorem zIq {x:Nat} {n:Int} (h:Part x n) (h':x=2 ^ 63\/Bad x):False:=by
 obtain⟨hx,hn,h0,h1⟩:=h;rcases h' with rfl | h'
 ·have hs:=zRz hx hn;have h2:double.order (2 ^ 63) 0=some (compare n 0):=zAy hn zLr;have h3:double.order (2 ^ 63) 0=some .eq:=by decide+kernel
  have:=Int.compare_eq_eq.1 (Option.some.inj (h2.symm.trans h3));subst this;simp at hs
 ·have hb:n.natAbs<2 ^ 53:=by omega
  have h2:=h'.tr _ (Or.inr rfl) (by
   have:=zAy hn (zDx (zE2 hn) hb)
   rw[Int.compare_eq_eq.2 rfl] at this
   exact this)
  have h3:double.order (x % 2 ^ 63) 4696837146684686336=some (compare (n.natAbs:Int) 1000000):=zAy (zR2 hx hn) zGk;rcases Int.lt_trichotomy (n.natAbs:Int) 1000000 with h4 | h4 | h4
  ·rw [Int.compare_eq_lt.2 h4] at h3;exact h2.1 h3
  ·rw [Int.compare_eq_eq.2 h4] at h3;exact h2.2 h3
  ·omega
end Flt
end Go.Proofs.YtdkekamkmlpnhaaGreatDoor
namespace Go.Proofs.YtdkekamkmlpnhaaGreatDoor
open Go.RowKit Flt
theorem zCr (b:Nat) (w:World):(callFunc 352 #[.float .f64 b]).run Tryz.prog w=.ok (.value (.int .u64 b)) w:=by
 rw[run_callFunc_extern Tryz.func352 (by kernel_rfl) (by kernel_rfl) (by kernel_rfl) (e:=Extern.MathFloatBits.float64bits) (by kernel_rfl)];rfl
theorem zJo (n:Nat) (w:World):(callFunc 355 #[.int .u64 (n:Int)]).run Tryz.prog w=.ok (.value (.float .f64 n)) w:=by
 rw[run_callFunc_extern Tryz.func355 (by kernel_rfl) (by kernel_rfl) (by kernel_rfl) (e:=Extern.MathFloatBits.float64frombits) (by kernel_rfl)];rfl
theorem zR9 (x:Nat) (hx:x<2 ^ 64):decide (wrap64 (x:Int)<0)=decide (2 ^ 63<=x):=by
 simp only[decide_eq_decide];unfold wrap64;omega
theorem and_abs (x:Nat) (hx:x<2 ^ 64):bits .andNot .u64 (x:Int) 9223372036854775808=((x % 2 ^ 63:Nat):Int):=by
 have h:∀z:Int,0<=z->z<18446744073709551616->bits .andNot .u64 z 9223372036854775808=z % 9223372036854775808:=by
  intro z h0 h1
  go_bits2
 rw[h _ (by omega) (by omega)];omega
theorem trunc_at (x:Nat):Extern.MathFloor.toIntegral "math.archTrunc" .zero #[.float .f64 x]=(match FloatKind.f64.decode x with
  | .nan s t=>if FloatKind.f64.format.quiet t=t then pure (.float .f64 x) else choose (.extern "math.Floor,Ceil,Trunc,RoundToEven.signallingNaN kept" 2)>>=fun kept=>pure (.float .f64 (if kept==1 then x else FloatKind.f64.encode (.nan s (FloatKind.f64.format.quiet t))))
  | d=>pure (.float .f64 (FloatKind.f64.encode (d.integral .zero)))):=rfl
theorem zQi (x:Nat) (w:World):∃y w',(callFunc 353 #[.float .f64 x]).run Tryz.prog w=.ok (.value (.float .f64 y)) w'/\Tr x y/\Below w.heap.size w w':=by
 have e0:(callFunc 353 #[.float .f64 x]).run Tryz.prog w=((Extern.MathFloor.toIntegral "math.archTrunc" .zero #[.float .f64 x]).run Tryz.prog w).andThen fun v w'=>.ok (.value v) w':=by rw[run_callFunc_extern Tryz.func353 (by kernel_rfl) (by kernel_rfl) (by kernel_rfl) (e:=Extern.MathFloor.toIntegral "math.archTrunc" .zero) (by kernel_rfl)]
 rw[e0];rw[trunc_at];cases h:FloatKind.f64.decode x with
 | nan s t=>
  have hn:∃s t,Ieee.double.read x=.nan s t:=⟨s,t,h⟩;by_cases hq:FloatKind.f64.format.quiet t=t
  ·simp only[hq,if_true,Sem.run_pure,Result.andThen];exact⟨x,w,rfl,Or.inl hn,Below.refl _ _⟩
  ·simp only[hq,if_false,Sem.run_bind,run_choose_drew];split
   ·exact ⟨_,_,rfl,Or.inl hn,Below.refl _ _⟩
   ·exact ⟨_,_,rfl,Or.inl hn,(Below.refl _ _).drew⟩
 | infinity s=>exact⟨_,_,rfl,Or.inr (by rw[show Ieee.double.read x=_ from h];rfl),Below.refl _ _⟩
 | number s m e=>exact⟨_,_,rfl,Or.inr (by rw[show Ieee.double.read x=_ from h];rfl),Below.refl _ _⟩
theorem zGv (x:Nat) (hx:x<2 ^ 64) (w:World):
  Calls Tryz.prog 347 #[.float .f64 x] w fun e w'=>e=.returned (.bool (decide (2 ^ 63<=x)))/\w'=w:=by
 go_enter Tryz.func347,Tryz.ntmps347;go_wp2;rw[zCr];rw[Oper.upon_value];go_wp2;go_ret;exact⟨by rw[zR9 x hx];rfl,rfl⟩
theorem zRp (x:Nat) (hx:x<2 ^ 64) (w:World):
  Calls Tryz.prog 349 #[.float .f64 x] w fun e w'=>e=.returned (.float .f64 (x % 2 ^ 63))/\w'=w:=by
 go_enter Tryz.func349,Tryz.ntmps349;go_wp2;rw[zCr];rw[Oper.upon_value];go_wp2;rw[and_abs x hx,zJo,Oper.upon_value];go_wp2;go_ret;exact⟨rfl,rfl⟩
theorem zJ8 (x:Nat) (w:World):
  Calls Tryz.prog 348 #[.float .f64 x] w fun e w'=>∃y,e=.returned (.float .f64 y)/\Tr x y/\Below w.heap.size w w':=by
 go_enter Tryz.func348,Tryz.ntmps348;go_wp2;obtain⟨y,w',hr,hy,hb⟩:=zQi x w;rw[hr,Oper.upon_value];go_wp2;go_ret;exact⟨y,rfl,hy,hb⟩
theorem part_yes (x:Nat) (n:Int) (h:Part x n) (w:World):
  Calls Tryz.prog 329 #[.float .f64 x] w fun e w'=>e=.returned (.bool true)/\Below w.heap.size w w':=by
 go_enter Tryz.func329,Tryz.ntmps329;go_wp2_with (first
  |(go_at_call 347;refine (zGv x h.1 _).mono ?_;rintro e w' ⟨rfl,rfl⟩)
  |(go_at_call 349;refine (zRp x h.1 _).mono ?_;rintro e w' ⟨rfl,rfl⟩)
  |(go_at_call 348;refine (zJ8 x _).mono ?_;rintro e w' ⟨y,rfl,hy,hb⟩))
 ·have hz:(FloatKind.f64.format.order x 0==some .eq)=true:=by assumption
  go_ret;have hs:=zRz h.1 h.2.1;refine⟨?_,Below.refl _ _⟩;have hn:n=0:=by
   have h1:Ieee.double.order x 0=some (compare n 0):=zAy h.2.1 zLr;have h2:FloatKind.f64.format.order x 0=some .eq:=by simpa using hz
   exact Int.compare_eq_eq.1 (Option.some.inj (h1.symm.trans h2))
  subst hn;have:decide (9223372036854775808<=x)=false:=hs.symm;show Ending.returned (Value.bool !decide (9223372036854775808<=x))=_;rw[this];rfl
 ·go_ret;refine⟨?_,by assumption⟩;have ha:=zR2 h.1 h.2.1;have h1:FloatKind.f64.format.order (x % 9223372036854775808) 4696837146684686336=some (compare (n.natAbs:Int) 1000000):=zAy ha zGk;show Ending.returned (Value.bool (_||_))=_;rw[h1];obtain⟨_,_,h2,h3⟩:=h;rcases Int.lt_trichotomy (n.natAbs:Int) 1000000 with h4 | h4 | h4
  ·rw [Int.compare_eq_lt.2 h4];rfl
  ·rw [Int.compare_eq_eq.2 h4];rfl
  ·omega
 ·rename_i hne;exfalso;apply hne;have hb':n.natAbs<2 ^ 53:=by obtain⟨_,_,h2,h3⟩:=h;omega
  rcases hy with⟨s,t,e⟩ | rfl
  ·obtain ⟨k,e',_⟩:=h.2.1;rw[e] at e';cases e'
  ·have h1:Ieee.double.order x _=some (compare n n):=zAy h.2.1 (zDx (zE2 h.2.1) hb');rw[Int.compare_eq_eq.2 rfl] at h1;exact h1
theorem neg0:FloatKind.f64.format.order 9223372036854775808 0=some .eq:=by decide+kernel
theorem part_no (x:Nat) (hx:x<2 ^ 64) (h:x=2 ^ 63\/Bad x) (w:World):
  Calls Tryz.prog 329 #[.float .f64 x] w fun e w'=>e=.returned (.bool false)/\Below w.heap.size w w':=by
 go_enter Tryz.func329,Tryz.ntmps329;go_wp2_with (first
  |(go_at_call 347;refine (zGv x hx _).mono ?_;rintro e w' ⟨rfl,rfl⟩)
  |(go_at_call 349;refine (zRp x hx _).mono ?_;rintro e w' ⟨rfl,rfl⟩)
  |(go_at_call 348;refine (zJ8 x _).mono ?_;rintro e w' ⟨y,rfl,hy,hb⟩))
 ·have hz:(FloatKind.f64.format.order x 0==some .eq)=true:=by assumption
  go_ret;refine⟨?_,Below.refl _ _⟩;rcases h with rfl | h
  ·rfl
  ·exact absurd (show Ieee.double.order x 0=some .eq from by simpa using (show (Ieee.double.order x 0==some .eq)=true from hz)) h.nz
 ·have hz:(FloatKind.f64.format.order x 0==some .eq)=false:=by assumption
  have ho:FloatKind.f64.format.order x y=some .eq:=by assumption
  go_ret;refine⟨?_,by assumption⟩;rcases h with rfl | h
  ·rw [neg0] at hz;cases hz
  ·have h1:=h.tr y hy ho;show Ending.returned (Value.bool (_||_))=_;have e1:(FloatKind.f64.format.order (x % 9223372036854775808) 4696837146684686336==some Ordering.lt)=false:=beq_false_of_ne h1.1;have e2:(FloatKind.f64.format.order (x % 9223372036854775808) 4696837146684686336==some Ordering.eq)=false:=beq_false_of_ne h1.2;rw[e1,e2];rfl
 ·go_ret;exact⟨rfl,by assumption⟩
def Num (x y:Nat) (a b:Int):Prop:=Part x a/\Part y b
def NoNum (x y:Nat):Prop:=(x=2 ^ 63\/Bad x)\/(y=2 ^ 63\/Bad y)
theorem num_or (x y:Nat) (hx:x<2 ^ 64) (hy:y<2 ^ 64):(∃a b,Num x y a b)\/NoNum x y:=by
 rcases zIk x hx with⟨a,ha⟩ | h
 ·rcases zIk y hy with⟨b,hb⟩ | h
  ·exact Or.inl ⟨a,b,ha,hb⟩
  ·exact Or.inr (Or.inr h)
 ·exact Or.inr (Or.inl h)
theorem no_num {x y:Nat} (h:NoNum x y):¬((∃a,Part x a)/\∃b,Part y b):=by
 rintro ⟨⟨a,ha⟩,b,hb⟩;rcases h with h | h
 ·exact zIq ha h
 ·exact zIq hb h
structure Word (x:Nat):Prop where
 lt:x<2 ^ 64
theorem part_any (x:Nat) (hx:Word x) (w:World):
  Calls Tryz.prog 329 #[.float .f64 x] w fun e w'=>∃b,e=.returned (.bool b)/\(b=true↔∃n,Part x n)/\Below w.heap.size w w':=by
 rcases zIk x hx.lt with⟨n,h⟩ | h
 ·refine (part_yes x n h w).mono ?_;rintro e w' ⟨rfl,hb⟩;exact⟨true,rfl,⟨fun _=>⟨n,h⟩,fun _=>rfl⟩,hb⟩
 ·refine (part_no x hx.lt h w).mono ?_;rintro e w' ⟨rfl,hb⟩;exact⟨false,rfl,⟨fun h=>(by cases h),fun ⟨n,hn⟩=>(zIq hn h).elim⟩,hb⟩
structure FormPost (x y:Nat) (w:World) (e:Ending) (w':World):Prop where
 out:∃b,e=.returned (.bool b)/\(b=true↔(∃a,Part x a)/\∃b,Part y b)/\Below w.heap.size w w'
def FormIs (x y:Nat) (b:Bool):Prop:=b=true↔(∃a,Part x a)/\∃b,Part y b
theorem form_and {x y:Nat} {a b:Bool} (h:a=true↔∃n,Part x n) (k:b=true↔∃n,Part y n):FormIs x y (a&&b):=by
 unfold FormIs;rw[Bool.and_eq_true,h,k]
theorem zHd (x y:Nat) (hx:Word x) (hy:Word y) (w:World):
  Calls Tryz.prog 290 #[.complex .f64 x y] w (FormPost x y w):=by
 go_enter Tryz.func290,Tryz.ntmps290;go_wp2_with (go_at_call 329;refine (part_any _ ?_ _).mono ?_;assumption;rintro e w' ⟨v,rfl,hv,hb⟩)
 ·rename_i w1 v1 hv1 hb1;go_ret;exact⟨v1&&v,rfl,form_and hv1 hv,hb1.trans (hb.mono hb1.size)⟩
 ·exfalso;simp_all
 ·go_ret;have:v=false:=by simp_all
  subst this;exact⟨false,rfl,⟨fun h=>(by cases h),fun h=>hv.2 h.1⟩,hb⟩
theorem zPh (x y:Nat) (a b:Int) (h:Num x y a b) (w:World):
  Calls Tryz.prog 290 #[.complex .f64 x y] w fun e w'=>e=.returned (.bool true)/\Below w.heap.size w w':=by
 refine (zHd x y ⟨h.1.1⟩ ⟨h.2.1⟩ w).mono ?_;intro e w' hh;obtain⟨v,rfl,hv,hb⟩:=hh.out;rw[hv.2 ⟨⟨a,h.1⟩,b,h.2⟩];exact⟨rfl,hb⟩
theorem zQv (x y:Nat) (hx:Word x) (hy:Word y) (h:NoNum x y) (w:World):
  Calls Tryz.prog 290 #[.complex .f64 x y] w fun e w'=>e=.returned (.bool false)/\Below w.heap.size w w':=by
 refine (zHd x y hx hy w).mono ?_;intro e w' hh;obtain⟨v,rfl,hv,hb⟩:=hh.out;have:v=false:=by
  cases v
  ·rfl
  ·exact absurd (hv.1 rfl) (no_num h)
 rw[this];exact⟨rfl,hb⟩
def pairV (a b:Int):Value:=.agg #[.int .i64 a,.int .i64 b]
theorem zNz {x:Nat} {a:Int} (h:Part x a):floatToIntVal .f64 x .i64=some a:=by
 have h1:(FloatKind.f64.decode x).toInt .zero=some a:=zQ7 h.2.1;unfold floatToIntVal;rw[h1];obtain⟨_,_,h2,h3⟩:=h;have e1:IntKind.min .i64= -9223372036854775808:=rfl;have e2:IntKind.max .i64=9223372036854775807:=rfl;simp only[e1,e2];rw[if_pos (by omega)]
def fl (n:Int):Nat:=floatOfInt .f64 n
theorem zIx (n:Int):fl n<2 ^ 64:=Ieee.Format.write_lt Ieee.double (.number (n<0) n.natAbs 0)
theorem part_fl (n:Int) (h0: -1000000<=n) (h1:n<=1000000):Part (fl n) n:=
 ⟨zIx n,zDq n (by omega),h0,h1⟩
theorem part_le {x:Nat} {a:Int} (h:Part x a):(FloatKind.f64.format.order x 4696837146684686336==some .lt||FloatKind.f64.format.order x 4696837146684686336==some .eq)=true:=by
 have h1:FloatKind.f64.format.order x 4696837146684686336=some (compare a 1000000):=zAy h.2.1 zGk;rw[h1];obtain⟨_,_,h2,h3⟩:=h;rcases Int.lt_trichotomy a 1000000 with h4 | h4 | h4
 ·rw [Int.compare_eq_lt.2 h4];rfl
 ·rw [Int.compare_eq_eq.2 h4];rfl
 ·omega
theorem convInt (x:Nat) (n:Int) (h:floatToIntVal .f64 x .i64=some n) (w:World):(convert 319 3 (.float .f64 x)).run Tryz.prog w=.ok (.int .i64 n) w:=
 run_convert_float_int w _ _ .f64 .i64 x n (by rw[Tryz.underlying319];rfl) Tryz.underlying3 h
theorem below2 (w:World) (o p:Obj):Below w.heap.size w ((w.alloc o).alloc p):=((Below.refl _ w).alloc (Nat.le_refl _) _).alloc (by simp) _
theorem below1 (w:World) (o:Obj):Below w.heap.size w (w.alloc o):=(Below.refl _ w).alloc (Nat.le_refl _) _
structure InR (x:Nat) (z:Int):Prop where
 ge:(FloatKind.f64.format.order x 13920209183539462144==some .gt||FloatKind.f64.format.order x 13920209183539462144==some .eq)=true
 le:(FloatKind.f64.format.order x 4696837146684686336==some .lt||FloatKind.f64.format.order x 4696837146684686336==some .eq)=true
 cv:floatToIntVal .f64 x .i64=some z
inductive Cls (x:Nat):Prop where
 | low (h:(FloatKind.f64.format.order x 13920209183539462144==some .gt||FloatKind.f64.format.order x 13920209183539462144==some .eq)=false)
 | high (h:(FloatKind.f64.format.order x 13920209183539462144==some .gt||FloatKind.f64.format.order x 13920209183539462144==some .eq)=true)
   (k:(FloatKind.f64.format.order x 4696837146684686336==some .lt||FloatKind.f64.format.order x 4696837146684686336==some .eq)=false)
 | off (z:Int) (h:InR x z) (k:FloatKind.f64.format.order (floatOfInt .f64 z) x≠some .eq)
 | neg (h:x=9223372036854775808)
 | part (a:Int) (h:Part x a)
theorem cls (x:Nat) (hx:x<2 ^ 64):Cls x:=by
 rcases zIk x hx with⟨n,h⟩ | h | h
 ·exact .part n h
 ·exact .neg h
 ·cases hg:(FloatKind.f64.format.order x 13920209183539462144==some .gt||FloatKind.f64.format.order x 13920209183539462144==some .eq) with
  | false=>exact .low hg
  | true=>
   cases hl:(FloatKind.f64.format.order x 4696837146684686336==some .lt||FloatKind.f64.format.order x 4696837146684686336==some .eq) with
   | false=>exact .high hg hl
   | true=>
    obtain⟨z,h1,h2,h3,h4⟩:=h.rg (by simpa using (show (Ieee.double.order x 13920209183539462144==some .gt||Ieee.double.order x 13920209183539462144==some .eq)=true from hg)) (by simpa using (show (Ieee.double.order x 4696837146684686336==some .lt||Ieee.double.order x 4696837146684686336==some .eq)=true from hl));refine .off z ⟨hg,hl,?_⟩ h4;unfold floatToIntVal;rw[show (FloatKind.f64.decode x).toInt .zero=some z from h1];have e1:IntKind.min .i64= -9223372036854775808:=rfl;have e2:IntKind.max .i64=9223372036854775807:=rfl;simp only[e1,e2];rw[if_pos (by omega)]
end Go.Proofs.YtdkekamkmlpnhaaGreatDoor
namespace Go.Proofs.YtdkekamkmlpnhaaGreatDoor
open Go.RowKit Go.Lib
structure Tabs (w:World):Prop where
 pow:Lib.TabIs Tryz.prog w "internal/strconv.uint64pow10" .u64 Lib.pow10Tab
 utf:Lib.Utf8Tabs 7 8 w
 syn:∃tp p,w.var? Tryz.prog "strconv.ErrSyntax" =some #[.iface tp p]
 rng:∃tp p,w.var? Tryz.prog "strconv.ErrRange" =some #[.iface tp p]
theorem Tabs.below {w w':World} (h:Tabs w) (hb:Below w.heap.size w w'):Tabs w':=by
 obtain⟨h1,h2,⟨t3,p3,h3⟩,⟨t4,p4,h4⟩⟩:=h;exact⟨Joins.tab_stays (g:=2) (by kernel_rfl) h1 hb (Nat.le_refl _),Utf8Tabs_below h2 hb,
  ⟨t3,p3,Joins.var_stays (g:=3) (by kernel_rfl) h3 hb (Nat.le_refl _)⟩,⟨t4,p4,Joins.var_stays (g:=4) (by kernel_rfl) h4 hb (Nat.le_refl _)⟩⟩
def laid:List (String × DataW Unit):=Rows.treeNilRow.laid
theorem pow_eq:Rows.laid_internal_strconv_uint64pow10 (H:=Unit)=Lib.tabData .u64 Lib.pow10Tab:=by kernel_rfl
theorem acc_eq:Rows.laid_unicode_utf8_acceptRanges (H:=Unit)=acceptData:=by kernel_rfl
theorem first_eq:Rows.laid_unicode_utf8_first=firstData:=Pinned.utf8First_eq
theorem zNg: "*" ++ "errors.errorString" = "*errors.errorString" :=by decide
theorem row_err (u:TypeId) (h:Tryz.prog.typeName? 3 u=some "*errors.errorString"):u=351:=
 typeName_ptr_named (nm:= "errors.errorString") (by rw[zNg];kernel_rfl) (by kernel_rfl) (by decide) u (by rw[zNg];exact h)
theorem zE5 {W:World} (h:laidMet Tryz.prog laid W):Tabs W:=by
 have h':laidMet Tryz.prog (_::_::_::_::_::_::_::_::[]) W:=h;refine⟨?_,?_,?_,?_⟩
 ·have h3:=h'.tail.tail;rw[pow_eq] at h3;exact tabIs_of_head (g:=2) (by kernel_rfl) (by kernel_rfl) Tryz.underlying327 Tryz.underlying144 (by kernel_rfl) (by kernel_rfl) h3
 ·have r3:VarReads Tryz.prog W "unicode/utf8.first" firstData:=first_eq ▸ Lib.laidMet.reads h' (by simp)
  have r4:VarReads Tryz.prog W "unicode/utf8.acceptRanges" acceptData:=acc_eq ▸ Lib.laidMet.reads h' (by simp)
  exact utf8Tabs_of_reads (ρ:=Tryz.lays271_ren) { Tryz.lays271 with } ⟨by kernel_rfl,by kernel_rfl,by kernel_rfl,by kernel_rfl,by kernel_rfl,by kernel_rfl,by kernel_rfl⟩ r3 r4
 ·obtain ⟨a,t,hv,_⟩:=laid_sentinel (g:=3) h'.tail.tail.tail.tail.tail (by kernel_rfl) (by kernel_rfl) Tryz.underlying215 row_err Tryz.underlying351 Tryz.underlying353 rfl rfl Tryz.underlying9 (by kernel_rfl) (by kernel_rfl);exact⟨_,_,hv⟩
 ·obtain ⟨a,t,hv,_⟩:=laid_sentinel (g:=4) h'.tail.tail.tail.tail (by kernel_rfl) (by kernel_rfl) Tryz.underlying215 row_err Tryz.underlying351 Tryz.underlying353 rfl rfl Tryz.underlying9 (by kernel_rfl) (by kernel_rfl);exact⟨_,_,hv⟩
end Go.Proofs.YtdkekamkmlpnhaaGreatDoor
namespace Go.Proofs.YtdkekamkmlpnhaaGreatDoor
open Go.RowKit Flt
def sec (b:Int):List UInt8:=if b=1 then [105] else if b= -1 then [45,105] else Lib.itoa b++[105]
def text (a b:Int):List UInt8:=if b=0 then Lib.itoa a else if a=0 then sec b else if 0<b then Lib.itoa a++[43]++sec b else Lib.itoa a++sec b
theorem zMm (n:Int) (h0: -9223372036854775808<=n) (h1:n<=9223372036854775807) (w:World) (hT:Tabs w):
  Calls Tryz.prog 292 #[.int .i64 n] w fun e w'=>e=.returned (.string (txt (Lib.itoa n)))/\Below w.heap.size w w':=by
 refine (Tryz.strconv_Itoa n h0 h1 w hT.pow).mono ?_;rintro e w' ⟨rfl,k,os,rfl⟩;exact⟨rfl,Lib.below_grow _ _ (Nat.le_refl _) _ _⟩
theorem zC5 (n:Int) (h0: -9223372036854775808<=n) (h1:n<=9223372036854775807) (w:World) (hT:Tabs w):
  Calls Tryz.prog 205 #[.int .i64 n,.int .i64 10] w fun e w'=>e=.returned (.string (txt (Lib.itoa n)))/\Below w.heap.size w w':=by
 refine (Tryz.strconv_FormatInt_10 n h0 h1 w hT.pow).mono ?_;rintro e w' ⟨rfl,k,os,rfl⟩;exact⟨rfl,Lib.below_grow _ _ (Nat.le_refl _) _ _⟩
theorem zAg (l:List UInt8):(txt l).size=l.length:=by simp[txt,ByteArray.size]
theorem zA3 (x y:List UInt8):txt x++txt y=txt (x++y):=ByteArray.mk_append_mk x y
theorem txt_i (x:List UInt8):txt x++⟨#[105]⟩=txt (x++[105]):=zA3 x [105]
theorem txt_p (x:List UInt8):txt x++⟨#[43]⟩=txt (x++[43]):=zA3 x [43]
structure Fits (n:Int):Prop where
 lo: -9000000000000000000<=n
 hi:n<=9000000000000000000
theorem Fits.len {n:Int} (h:Fits n):(txt (Lib.itoa n)).size<=21:=by
 rw[zAg];exact Lib.itoa_length_le n (by have:=h.lo;omega) (by have:=h.hi;omega)
theorem zSe {n:Int} (h:Fits n):(txt (sec n)).size<=22:=by
 rw[zAg];have:=h.len;rw[zAg] at this;unfold sec;split
 ·simp
 ·split
  ·simp
  ·simp;omega
theorem imag_any (n:Int) (hn:Fits n) (w:World) (hT:Tabs w):
  Calls Tryz.prog 293 #[.int .i64 n] w fun e w'=>e=.returned (.string (txt (sec n)))/\Below w.heap.size w w':=by
 have hl:=hn.len;have hx:sec n=if n=1 then [105] else if n= -1 then [45,105] else Lib.itoa n++[105]:=rfl
 have hc:=fun w hT=>zMm n (by have:=hn.lo;omega) (by have:=hn.hi;omega) w hT
 have hi:=txt_i (Lib.itoa n);generalize txt (Lib.itoa n)=A at hl hc hi;generalize hS:txt (sec n)=S;by_cases h1:n=1
 ·subst h1;go_enter Tryz.func293,Tryz.ntmps293;go_wp2;go_ret;exact⟨by rw[<-hS];rfl,Below.refl _ _⟩
 ·by_cases h2:n= -1
  ·subst h2;go_enter Tryz.func293,Tryz.ntmps293;go_wp2;go_ret;exact⟨by rw[<-hS];rfl,Below.refl _ _⟩
  ·have hS':S=A++⟨#[105]⟩:=by rw[<-hS,hx,if_neg h1,if_neg h2,hi]
   clear hS hx hi;go_enter Tryz.func293,Tryz.ntmps293;go_wp2_with (go_at_call 292;refine (hc _ hT).mono ?_;rintro e w' ⟨rfl,hb⟩);go_ret;exact⟨by rw[hS'];rfl,by assumption⟩
theorem zOk (n:Int) (hn:Fits n) (w:World) (hT:Tabs w):
  Calls Tryz.prog 224 #[.int .i64 n] w fun e w'=>e=.returned (.string (txt (sec n)))/\Below w.heap.size w w':=by
 have hl:=hn.len;have hx:sec n=if n=1 then [105] else if n= -1 then [45,105] else Lib.itoa n++[105]:=rfl
 have hc:=fun w hT=>zC5 n (by have:=hn.lo;omega) (by have:=hn.hi;omega) w hT
 have hi:=txt_i (Lib.itoa n);generalize txt (Lib.itoa n)=A at hl hc hi;generalize hS:txt (sec n)=S;by_cases h1:n=1
 ·subst h1;go_enter Tryz.func224,Tryz.ntmps224;go_wp2;go_ret;exact⟨by rw[<-hS];rfl,Below.refl _ _⟩
 ·by_cases h2:n= -1
  ·subst h2;go_enter Tryz.func224,Tryz.ntmps224;go_wp2;go_ret;exact⟨by rw[<-hS];rfl,Below.refl _ _⟩
  ·have hS':S=A++⟨#[105]⟩:=by rw[<-hS,hx,if_neg h1,if_neg h2,hi]
   clear hS hx hi;go_enter Tryz.func224,Tryz.ntmps224;go_wp2_with (go_at_call 205;refine (hc _ hT).mono ?_;rintro e w' ⟨rfl,hb⟩);go_ret;exact⟨by rw[hS'];rfl,by assumption⟩
theorem zCo {x:Nat} {a:Int} (h:Part x a):Fits a:=⟨by have:=h.2.2.1;omega,by have:=h.2.2.2;omega⟩
theorem Fits.lo' {n:Int} (h:Fits n): -9223372036854775808<=n:=by have:=h.lo;omega
theorem Fits.hi' {n:Int} (h:Fits n):n<=9223372036854775807:=by have:=h.hi;omega
theorem print_no (x y:Nat) (hx:Word x) (hy:Word y) (h:NoNum x y) (w:World):
  Calls Tryz.prog 256 #[.complex .f64 x y] w fun e w'=>e=.returned (.tuple #[.string ⟨#[]⟩,.int .i64 1])/\Below w.heap.size w w':=by
 go_enter Tryz.func256,Tryz.ntmps256;go_wp2_with (go_at_call 290;refine (zQv x y hx hy h _).mono ?_;rintro e w' ⟨rfl,hb⟩);go_ret2;exact⟨rfl,by assumption⟩
theorem zJf (x y:Nat) (a b:Int) (h:Num x y a b) (w:World) (hT:Tabs w):
  Calls Tryz.prog 256 #[.complex .f64 x y] w fun e w'=>e=.returned (.tuple #[.string (txt (text a b)),.int .i64 0])/\Below w.heap.size w w':=by
 have ca:=fun w hT=>zMm a (zCo h.1).lo' (zCo h.1).hi' w hT
 have cb:=fun w hT=>imag_any b (zCo h.2) w hT
 have la:=(zCo h.1).len;have lb:=zSe (zCo h.2);have cx:=convInt x a (zNz h.1);have cy:=convInt y b (zNz h.2);have hf:=fun w=>zPh x y a b h w
 have e1:txt (Lib.itoa a)++⟨#[43]⟩++txt (sec b)=txt (Lib.itoa a++[43]++sec b):=by rw[txt_p,zA3]
 have e2:txt (Lib.itoa a)++txt (sec b)=txt (Lib.itoa a++sec b):=zA3 _ _;have e3:text a b=if b=0 then Lib.itoa a else if a=0 then sec b else if 0<b then Lib.itoa a++[43]++sec b else Lib.itoa a++sec b:=rfl
 generalize hS:txt (text a b)=S;rw[e3] at hS;clear h;by_cases hb0:b=0
 ·rw [if_pos hb0] at hS;subst hS;clear e1 e2 e3;generalize txt (Lib.itoa a)=A at *;subst hb0;go_enter Tryz.func256,Tryz.ntmps256;go_wp2_with (first
   |(go_at_call 290;refine (hf _).mono ?_;rintro e w1 ⟨rfl,hb1⟩)
   |(go_at_call 292;refine (ca _ (hT.below (by assumption))).mono ?_;rintro e w2 ⟨rfl,hb2⟩))
  go_ret2;exact⟨rfl,hb1.trans (hb2.mono hb1.size)⟩
 ·by_cases ha0:a=0
  ·rw [if_neg hb0,if_pos ha0] at hS;subst hS;clear e1 e2 e3;generalize txt (sec b)=B at *;subst ha0;go_enter Tryz.func256,Tryz.ntmps256;go_wp2_with (first
    |(go_at_call 290;refine (hf _).mono ?_;rintro e w1 ⟨rfl,hb1⟩)
    |(go_at_call 293;refine (cb _ (hT.below (by assumption))).mono ?_;rintro e w2 ⟨rfl,hb2⟩))
   go_ret2;exact⟨rfl,hb1.trans (hb2.mono hb1.size)⟩
  ·by_cases hp:0<b
   ·rw [if_neg hb0,if_neg ha0,if_pos hp,<-e1] at hS;clear e1 e2 e3;generalize txt (Lib.itoa a)=A at *;generalize txt (sec b)=B at *;replace hS:=hide hS;go_enter Tryz.func256,Tryz.ntmps256;go_wp2_with (first
     |(go_at_call 290;refine (hf _).mono ?_;rintro e w1 ⟨rfl,hb1⟩)
     |(go_at_call 292;refine (ca _ (hT.below (by assumption))).mono ?_;rintro e w2 ⟨rfl,hb2⟩)
     |(go_at_call 293;refine (cb _ (hT.below (hb1.trans (hb2.mono hb1.size)))).mono ?_;rintro e w3 ⟨rfl,hb3⟩))
    go_ret2;have hbb:=hb1.trans (hb2.mono hb1.size);exact⟨by rw[<-hS.out];rfl,hbb.trans (hb3.mono hbb.size)⟩
   ·rw [if_neg hb0,if_neg ha0,if_neg hp,<-e2] at hS;clear e1 e2 e3;generalize txt (Lib.itoa a)=A at *;generalize txt (sec b)=B at *;replace hS:=hide hS;go_enter Tryz.func256,Tryz.ntmps256;go_wp2_with (first
     |(go_at_call 290;refine (hf _).mono ?_;rintro e w1 ⟨rfl,hb1⟩)
     |(go_at_call 292;refine (ca _ (hT.below (by assumption))).mono ?_;rintro e w2 ⟨rfl,hb2⟩)
     |(go_at_call 293;refine (cb _ (hT.below (hb1.trans (hb2.mono hb1.size)))).mono ?_;rintro e w3 ⟨rfl,hb3⟩))
    go_ret2;have hbb:=hb1.trans (hb2.mono hb1.size);exact⟨by rw[<-hS.out];rfl,hbb.trans (hb3.mono hbb.size)⟩
theorem text_any (a b:Int) (ha:Fits a) (hb:Fits b) (w:World) (hT:Tabs w):
  Calls Tryz.prog 199 #[pairV a b] w fun e w'=>e=.returned (.string (txt (text a b)))/\Below w.heap.size w w':=by
 unfold pairV;have ca:=fun w hT=>zC5 a ha.lo' ha.hi' w hT
 have cb:=fun w hT=>zOk b hb w hT
 have la:=ha.len;have lb:=zSe hb;have e1:txt (Lib.itoa a)++⟨#[43]⟩++txt (sec b)=txt (Lib.itoa a++[43]++sec b):=by rw[txt_p,zA3]
 have e2:txt (Lib.itoa a)++txt (sec b)=txt (Lib.itoa a++sec b):=zA3 _ _;have e3:text a b=if b=0 then Lib.itoa a else if a=0 then sec b else if 0<b then Lib.itoa a++[43]++sec b else Lib.itoa a++sec b:=rfl
 generalize hS:txt (text a b)=S;rw[e3] at hS;have h1:=below1 w (.cells #[.int .i64 a,.int .i64 b] 205);have hT1:=hT.below h1;by_cases hb0:b=0
 ·rw [if_pos hb0] at hS;subst hS;clear e1 e2 e3;generalize txt (Lib.itoa a)=A at *;subst hb0;go_enter Tryz.func199,Tryz.ntmps199;go_wp2_with (go_at_call 205;refine (ca _ hT1).mono ?_;rintro e w2 ⟨rfl,hb2⟩);go_ret;exact⟨rfl,h1.trans (hb2.mono h1.size)⟩
 ·by_cases ha0:a=0
  ·rw [if_neg hb0,if_pos ha0] at hS;subst hS;clear e1 e2 e3;generalize txt (sec b)=B at *;subst ha0;go_enter Tryz.func199,Tryz.ntmps199;go_wp2_with (go_at_call 224;refine (cb _ hT1).mono ?_;rintro e w2 ⟨rfl,hb2⟩);go_ret;exact⟨rfl,h1.trans (hb2.mono h1.size)⟩
  ·by_cases hp:0<b
   ·rw [if_neg hb0,if_neg ha0,if_pos hp,<-e1] at hS;clear e1 e2 e3;generalize txt (Lib.itoa a)=A at *;generalize txt (sec b)=B' at *;replace hS:=hide hS;go_enter Tryz.func199,Tryz.ntmps199;go_wp2;have hlt:w.heap.size<(w.alloc (.cells #[.int .i64 a,.int .i64 b] 205)).heap.size:=by simp
    have c0:(w.alloc (.cells #[.int .i64 a,.int .i64 b] 205)).cell? ⟨w.heap.size,0,none⟩=some (.int .i64 a):=(by rw[World.cell?_alloc_at (hn:=by simp)];rfl);have c1:(w.alloc (.cells #[.int .i64 a,.int .i64 b] 205)).cell? ⟨w.heap.size,1,none⟩=some (.int .i64 b):=(by rw[World.cell?_alloc_at (hn:=by simp)];rfl);generalize w.alloc (.cells #[.int .i64 a,.int .i64 b] 205)=w1 at *;generalize hB:w.heap.size=B at *;refine zAq (by kernel_rfl) ?_;refine yTk 0 (some 21) ?_;simp only[pUz];refine zAa 1 (some 22) (v:=?va1) rfl rfl (by kernel_rfl) rfl (by rfl) (fun W hW=>?ya1) ?_
    case ya1=>have h1:W.cell? _=_:=(hW.cell (p:=⟨B,0,none⟩) hlt).trans c0;go_simp<;>with_reducible rfl
    simp only[pUz];refine yTk 4 (some 25) ?_;simp only[pUz];refine zAa 5 (some 26) (v:=?va5) rfl rfl (by kernel_rfl) rfl (by rfl) (fun W hW=>?ya5) ?_
    case ya5=>have h1:W.cell? _=_:=(hW.cell (p:=⟨B,1,none⟩) hlt).trans c1;go_simp<;>with_reducible rfl
    simp only[pUz];refine zAe 2 rfl (by kernel_rfl) (fun K hK=>?_);go_simp;refine (ca _ (hT1.below ((Below.refl _ _).drew))).mono ?_;rintro e w2 ⟨rfl,hb2⟩;refine hK.out _ _ hb2 ?_;clear hK K;(try simp only[pUz]);refine zAa 3 (some 24) (v:=?va3) rfl rfl (by kernel_rfl) rfl (by rfl) (fun W hW=>?ya3) ?_
    case ya3=>go_simp;rw[if_neg (by omega)]
    simp only[pUz];refine zAe 6 rfl (by kernel_rfl) (fun K hK=>?_);go_simp;refine (cb _ ((hT1.below ((Below.refl _ _).drew)).below hb2)).mono ?_;rintro e w3 ⟨rfl,hb3⟩;refine hK.out _ _ hb3 ?_;clear hK K;(try simp only[pUz]);refine zAa 7 (some 28) (v:=?va7) rfl rfl (by kernel_rfl) rfl (by rfl) (fun W hW=>?ya7) ?_
    case ya7=>go_simp;rw[if_neg (by omega)]
    simp only[pUz];refine yTk 8 (some 2) ?_;simp only[pUz];refine zAi (by kernel_rfl) ?_ _;go_wp2;go_ret;subst hB;have hbb:=(h1.trans ((Below.refl _ _).drew)).trans (hb2.mono (Nat.le_of_lt hlt));exact⟨by rw[<-hS.out];rfl,hbb.trans (hb3.mono hbb.size)⟩
   ·rw [if_neg hb0,if_neg ha0,if_neg hp,<-e2] at hS;clear e1 e2 e3;generalize txt (Lib.itoa a)=A at *;generalize txt (sec b)=B' at *;replace hS:=hide hS;go_enter Tryz.func199,Tryz.ntmps199;go_wp2;have hlt:w.heap.size<(w.alloc (.cells #[.int .i64 a,.int .i64 b] 205)).heap.size:=by simp
    have c0:(w.alloc (.cells #[.int .i64 a,.int .i64 b] 205)).cell? ⟨w.heap.size,0,none⟩=some (.int .i64 a):=(by rw[World.cell?_alloc_at (hn:=by simp)];rfl);have c1:(w.alloc (.cells #[.int .i64 a,.int .i64 b] 205)).cell? ⟨w.heap.size,1,none⟩=some (.int .i64 b):=(by rw[World.cell?_alloc_at (hn:=by simp)];rfl);generalize w.alloc (.cells #[.int .i64 a,.int .i64 b] 205)=w1 at *;generalize hB:w.heap.size=B at *;refine zAq (by kernel_rfl) ?_;refine yTk 0 (some 29) ?_;simp only[pUz];refine zAa 1 (some 30) (v:=?vb1) rfl rfl (by kernel_rfl) rfl (by rfl) (fun W hW=>?yb1) ?_
    case yb1=>have h1:W.cell? _=_:=(hW.cell (p:=⟨B,0,none⟩) hlt).trans c0;go_simp<;>with_reducible rfl
    simp only[pUz];refine yTk 3 (some 32) ?_;simp only[pUz];refine zAa 4 (some 33) (v:=?vb4) rfl rfl (by kernel_rfl) rfl (by rfl) (fun W hW=>?yb4) ?_
    case yb4=>have h1:W.cell? _=_:=(hW.cell (p:=⟨B,1,none⟩) hlt).trans c1;go_simp<;>with_reducible rfl
    simp only[pUz];refine zAe 2 rfl (by kernel_rfl) (fun K hK=>?_);go_simp;refine (ca _ (hT1.below ((Below.refl _ _).drew))).mono ?_;rintro e w2 ⟨rfl,hb2⟩;refine hK.out _ _ hb2 ?_;clear hK K;(try simp only[pUz]);refine zAe 5 rfl (by kernel_rfl) (fun K hK=>?_);go_simp;refine (cb _ ((hT1.below ((Below.refl _ _).drew)).below hb2)).mono ?_;rintro e w3 ⟨rfl,hb3⟩;refine hK.out _ _ hb3 ?_;clear hK K;(try simp only[pUz]);refine zAa 6 (some 35) (v:=?vb6) rfl rfl (by kernel_rfl) rfl (by rfl) (fun W hW=>?yb6) ?_
    case yb6=>go_simp;rw[if_neg (by omega)]
    simp only[pUz];refine yTk 7 (some 2) ?_;simp only[pUz];refine zAi (by kernel_rfl) ?_ _;go_wp2;go_ret;subst hB;have hbb:=(h1.trans ((Below.refl _ _).drew)).trans (hb2.mono (Nat.le_of_lt hlt));exact⟨by rw[<-hS.out];rfl,hbb.trans (hb3.mono hbb.size)⟩
end Go.Proofs.YtdkekamkmlpnhaaGreatDoor
namespace Go.Proofs.YtdkekamkmlpnhaaGreatDoor
open Go Go.RowKit
def Exit.jumps (J:Nat->Act->World->Prop) (Q:Exit->Act->World->Prop):Exit->Act->World->Prop
 | .goto l,a,w=>J l a w
 | e,a,w=>Q e a w
section
variable {P:Program} {a:Act} {w:World} {Q:Exit->Act->World->Prop}
theorem zGi {c:Code} (rest:Nat->Code) (J:Nat->Act->World->Prop) (μ:Nat->Act->World->Nat) (hf:∀l a w,J l a w->findLabel c l=some (rest l))
  (first:c.wp P (Exit.jumps J Q) a w)
  (pass:∀l a w,J l a w->(rest l).wp P (Exit.jumps (fun l' a' w'=>J l' a' w'/\μ l' a' w'<μ l a w) Q) a w):(Code.scope c).wp P Q a w:=by
 intro b k cs;have hg:∀l a w,J l a w->gotoIn l (.inScope c::k)=some (.code (rest l)::.inScope c::k):=fun l a w h=>by simp[gotoIn,hf l a w h]
 have key:∀n l a w,μ l a w=n->J l a w->∃e a' w',Q e a' w'/\Arrives P (lone (b.at a (.code (rest l)::.inScope c::k)) cs w) b k cs e a' w':=by
  intro n
  induction n using Nat.strongRecOn with
  | _ n ih=>
   intro l a w hn hJ;obtain⟨e,a₁,w₁,hq,harr⟩:=pass l a w hJ b (.inScope c::k) cs;cases e with
   | normal=>exact⟨.normal,a₁,w₁,hq,Steps.trans harr (.one step_inScope)⟩
   | exit id=>exact⟨.exit id,a₁,w₁,hq,fun k' hk=>harr k' (by simp[exitTo,hk])⟩
   | goto l'=>
    obtain⟨hJ',hlt⟩:=hq;obtain⟨e₂,a₂,w₂,hq₂,harr₂⟩:=ih _ (by omega) l' a₁ w₁ rfl hJ';exact⟨e₂,a₂,w₂,hq₂,.of_steps (harr _ (hg l' a₁ w₁ hJ')) harr₂⟩
   | ret=>exact⟨_,a₁,w₁,hq,harr⟩
   | panic ch=>exact⟨_,a₁,w₁,hq,harr⟩
   | outgrown=>exact⟨_,a₁,w₁,hq,harr⟩
 obtain⟨e,a₁,w₁,hq,harr⟩:=first b (.inScope c::k) cs
 cases e with
 | normal=>exact⟨.normal,a₁,w₁,hq,.head step_scope (Steps.trans harr (.one step_inScope))⟩
 | exit id=>exact⟨.exit id,a₁,w₁,hq,fun k' hk=>.head step_scope (harr k' (by simp[exitTo,hk]))⟩
 | goto l'=>
  obtain⟨e₂,a₂,w₂,hq₂,harr₂⟩:=key _ l' a₁ w₁ rfl hq;exact⟨e₂,a₂,w₂,hq₂,.of_steps (.head step_scope (harr _ (hg l' a₁ w₁ hq))) harr₂⟩
 | ret=>exact⟨_,a₁,w₁,hq,.of_steps (.one step_scope) harr⟩
 | panic ch=>exact⟨_,a₁,w₁,hq,.of_steps (.one step_scope) harr⟩
 | outgrown=>exact⟨_,a₁,w₁,hq,.of_steps (.one step_scope) harr⟩
end
def sgnAt (r:Int):Int:=if r=43 then 0 else if r=45 then 1 else -1
theorem zQu (r:Int) (h0:0<=r) (h1:r<128) (w:World):
  Calls Tryz.prog 338 #[.string ⟨#[43,45]⟩,.int .i32 r] w fun e w'=>e=.returned (.int .i64 (sgnAt r))/\Below w.heap.size w w':=by
 refine (Tryz.strings_IndexRune_ascii ⟨#[43,45]⟩ r w h0 h1).mono ?_;rintro e w' ⟨rfl,rfl⟩;refine⟨?_,Below.refl _ _⟩;have h:∀k:Fin 128,Lib.indexByte ([43,45]:List UInt8) k.val.toUInt8=sgnAt (k.val:Int):=by decide+kernel
 have h2:=h ⟨r.toNat,by omega⟩;have e1:((r.toNat:Nat):Int)=r:=by omega
 simp only[e1] at h2;rw[h2]
theorem zBo {P:Program} {c:Code} {Q:Exit->Act->World->Prop} {a:Act} {w:World} (h:c.wp P (Exit.jumps (fun _ _ _=>False) Q) a w):(Code.scope c).wp P Q a w:=
 zGi (fun _=>.skip) (fun _ _ _=>False) (fun _ _ _=>0) (fun _ _ _ h=>h.elim) h (fun _ _ _ h=>h.elim)
theorem valid_of {r:Int} (h:(!Lib.validRune r)=false):Utf8.valid r=true:=by
 simp only[Lib.validRune,Bool.not_eq_false',decide_eq_true_eq] at h;simp only[Utf8.valid,Bool.or_eq_true,Bool.and_eq_true,decide_eq_true_eq];omega
theorem enc_high (r:Int) (h0:128<=r) (hv:Utf8.valid r=true):(∃x y:UInt8,Utf8.encode r=⟨#[x,y]⟩/\128<=y.toNat)\/(∃x y z:UInt8,Utf8.encode r=⟨#[x,y,z]⟩)\/∃x y z t:UInt8,Utf8.encode r=⟨#[x,y,z,t]⟩:=by
 unfold Utf8.encode;simp only[hv,if_true];rw[if_neg (by omega)];split
 ·refine Or.inl ⟨_,_,rfl,?_⟩;have:0x80+r.toNat % 64<256:=by omega
  simp only[UInt8.toNat_ofNat'];omega
 ·split
  ·exact Or.inr (Or.inl ⟨_,_,_,rfl⟩)
  ·exact Or.inr (Or.inr ⟨_,_,_,_,rfl⟩)
theorem sgn_next (w:World) (ty:TypeId) (P:Program):(Instr.next (.pointer (some ⟨w.heap.size,0,none⟩)) true ty).run P (w.iter ⟨#[43,45]⟩ 0)=.ok (.tuple #[.bool true,.int .i64 0,.int .i32 43]) (w.iter ⟨#[43,45]⟩ 1):=
 run_next_ascii w ⟨#[43,45]⟩ 0 ty (by decide) (by decide)
theorem zRa (w:World) (ty:TypeId) (P:Program):(Instr.next (.pointer (some ⟨w.heap.size,0,none⟩)) true ty).run P (w.iter ⟨#[43,45]⟩ 1)=.ok (.tuple #[.bool true,.int .i64 1,.int .i32 45]) (w.iter ⟨#[43,45]⟩ 2):=
 run_next_ascii w ⟨#[43,45]⟩ 1 ty (by decide) (by decide)
theorem zSz (w:World) (ty:TypeId) (P:Program):(Instr.next (.pointer (some ⟨w.heap.size,0,none⟩)) true ty).run P (w.iter ⟨#[43,45]⟩ 2)=.ok (.tuple #[.bool false]) (w.iter ⟨#[43,45]⟩ 2):=
 run_next_end w ⟨#[43,45]⟩ 2 ty (by decide)
theorem zRo (w:World):
  Calls Tryz.prog 338 #[.string ⟨#[43,45]⟩,.int .i32 65533] w fun e w'=>e=.returned (.int .i64 (-1))/\Below w.heap.size w w':=by
 have n0:=fun ty=>sgn_next w ty Tryz.prog
 have n1:=fun ty=>zRa w ty Tryz.prog
 have n2:=fun ty=>zSz w ty Tryz.prog
 have hb:Below w.heap.size w (w.iter ⟨#[43,45]⟩ 2):=(Below.refl _ w).alloc (Nat.le_refl _) _;go_enter Tryz.func338,Tryz.ntmps338;go_wp2
 go_rounds 3
 go_ret;exact⟨rfl,hb⟩
theorem idx_high (r:Int) (h0:128<=r) (h1:r<=1114111) (w:World):
  Calls Tryz.prog 338 #[.string ⟨#[43,45]⟩,.int .i32 r] w fun e w'=>e=.returned (.int .i64 (-1))/\Below w.heap.size w w':=by
 by_cases hr:r=65533
 ·subst hr;exact zRo w
 ·have hv:=fun w=>Tryz.utf8_ValidRune r w
  go_enter Tryz.func338,Tryz.ntmps338;go_wp2_with (go_at_call 350;refine (hv _).mono ?_;rintro e w' ⟨rfl,rfl⟩)
  ·go_ret;exact⟨rfl,Below.refl _ _⟩
  ·have hh:(!Lib.validRune r)=false:=by assumption
   have hval:Utf8.valid r=true:=valid_of hh;clear hh;rcases enc_high r h0 hval with⟨x,y,hE,hy⟩ | ⟨x,y,z,hE⟩ | ⟨x,y,z,t,hE⟩
   ·have hy1:((45:Int)==(y.toNat:Int))=false:=by simp;omega
    have hib:=fun w=>Tryz.strings_IndexByte ⟨#[]⟩ (y.toNat:Int) w
    have hsl:∀W:World,(Instr.slice 9 (.string ⟨#[43,45]⟩) (some (.int .i64 2)) none none).run Tryz.prog W=.ok (.string ⟨#[]⟩) W:=fun W=>by kernel_rfl
    refine zBo ?_;go_wp2;refine wp_loop_rounds 1 ?_;rw[rounds_succ];go_wp2;refine zBo ?_;go_wp2
    go_quiet (fail)
    go_wp2;refine zAq (by kernel_rfl) ?_;refine yTk 0 (some 34) ?_;(try simp only[pUz]);refine yTk 1 (some 35) ?_;(try simp only[pUz]);refine yTk 2 (some 36) ?_;(try simp only[pUz]);refine zAa 3 (some 37) (v:=?va3) rfl rfl (by kernel_rfl) rfl (by rfl) (fun W hW=>?ya3) ?_
    case ya3=>
     have hw2:IntKind.i64.wrap 2=2:=(by decide);have hx:(ByteArray.mk #[43,45]).extract (2:Int).toNat 2=⟨#[]⟩:=(by rfl);go_simp<;>with_reducible rfl
    (try simp only[pUz]);refine yTk 4 (some 38) ?_;(try simp only[pUz]);refine yTk 5 (some 39) ?_;(try simp only[pUz]);refine yTk 6 (some 40) ?_;(try simp only[pUz]);refine zAe 7 rfl (by kernel_rfl) (fun K hK=>?_);go_simp;refine (hib _).mono ?_;rintro e w1 ⟨rfl,rfl⟩;refine hK.out _ _ (Below.refl _ _) ?_;clear hK K;(try simp only[pUz]);refine yTk 8 (some 11) ?_;(try simp only[pUz]);refine zAi (by kernel_rfl) ?_ _;go_wp2
    all_goals first
     |(exfalso
       have hne:((45:Int)!=(y.toNat:Int))=false:=(by assumption);simp at hne
       omega)
     |(exfalso
       have hni:¬Lib.indexByte [] y<0:=by assumption
       exact hni (by decide))
     |(simp only[Exit.jumps,Exit.inBlock,Exit.then]
       show bodyPost Tryz.prog Tryz.f338 (fun e w2=>e=.returned (.int .i64 (-1))/\Below w'.heap.size w' w2) Exit.ret _ _
       go_ret
       exact⟨rfl,(Below.refl _ _).trans (Below.drewN (Below.refl _ _) _)⟩)
   ·refine zBo ?_;go_wp2;refine wp_loop_rounds 1 ?_;rw[rounds_succ];go_wp2;simp only[Exit.jumps];go_ret;exact⟨rfl,Below.refl _ _⟩
   ·refine zBo ?_;go_wp2;refine wp_loop_rounds 1 ?_;rw[rounds_succ];go_wp2;simp only[Exit.jumps];go_ret;exact⟨rfl,Below.refl _ _⟩
theorem zPx (r:Nat) (h1:r<=1114111) (w:World):
  Calls Tryz.prog 338 #[.string ⟨#[43,45]⟩,.int .i32 (r:Int)] w fun e w'=>e=.returned (.int .i64 (sgnAt r))/\Below w.heap.size w w':=by
 by_cases h:r<128
 ·exact zQu r (by omega) (by omega) w
 ·have:sgnAt (r:Int)= -1:=by unfold sgnAt;rw[if_neg (by omega),if_neg (by omega)]
  rw[this];exact idx_high r (by omega) (by omega) w
def NoFrom (l:List UInt8) (i:Nat):Prop:=∀(j:Nat) x,i<=j->l[j]?=some x->x≠43/\x≠45
def Ascii (l:List UInt8):Prop:=∀(j:Nat) x,l[j]?=some x->x.toNat<128
def LastOf (l:List UInt8) (v:Int):Prop:=(v= -1/\NoFrom l 0)\/∃(i:Nat) (x:UInt8),v=i/\l[i]?=some x/\(x=43\/x=45)/\NoFrom l (i+1)
structure LiaPost (s:ByteArray) (w:World) (e:Ending) (w':World):Prop where
 out:∃v:Int,e=.returned (.int .i64 v)/\ -1<=v/\(v<=0\/v<s.size)/\(Ascii s.data.toList->LastOf s.data.toList v)/\Below w.heap.size w w'
theorem NoFrom.end (l:List UInt8):NoFrom l l.length:=fun j x hj hx=>by
 rw[List.getElem?_eq_none hj] at hx;cases hx
theorem NoFrom.pred {l:List UInt8} {i:Nat} (h:NoFrom l (i+1)) {x:UInt8} (hx:l[i]?=some x) (hn:x≠43/\x≠45):NoFrom l i:=fun j y hj hy=>by
 rcases Nat.eq_or_lt_of_le hj with rfl | hlt
 ·rw [hx] at hy;cases hy;exact hn
 ·exact h j y hlt hy
theorem zE8 {l:List UInt8} {i:Nat} {x:UInt8} (hx:l[i]?=some x):l.take (i+1)=l.take i++[x]:=by
 rw[List.take_add_one,hx];rfl
theorem zEw (x:UInt8):(0<=sgnAt (x.toNat:Int))↔(x=43\/x=45):=by
 unfold sgnAt;constructor
 ·intro h;by_cases h1:(x.toNat:Int)=43
  ·left;exact UInt8.toNat_inj.1 (by simp;omega)
  ·by_cases h2:(x.toNat:Int)=45
   ·right;exact UInt8.toNat_inj.1 (by simp;omega)
   ·rw [if_neg h1,if_neg h2] at h;omega
 ·rintro (rfl | rfl)
  ·decide
  ·decide
theorem lia_one (s:ByteArray) (h1:s.size=1) (w:World):
  Calls Tryz.prog 315 #[.string s,.string ⟨#[43,45]⟩] w (LiaPost s w):=by
 obtain⟨x,hx⟩:∃x:UInt8,s[0]'(by omega)=x:=⟨_,rfl⟩;have hxl:s.data.toList[0]?=some x:=by rw[<-hx];exact Lib.data_getElem? s 0 (by omega)
 have hlen:s.data.toList.length=1:=by rw[<-Lib.size_eq];exact h1
 have hw:wrap32 (x.toNat:Int)=(x.toNat:Int):=by have:=UInt8.toNat_lt x;unfold wrap32;omega
 have hr:((128:Int)<=(x.toNat:Int))\/¬((128:Int)<=(x.toNat:Int)):=by omega
 have Hx:=hide hxl;clear hxl;have hs1:(s.size:Int)=1:=by omega
 have ca:=fun w=>zPx x.toNat (by have:=UInt8.toNat_lt x;omega) w
 have hsg:=zEw x;generalize hv:sgnAt (x.toNat:Int)=v at ca hsg;clear hlen;replace hsg:=hide hsg;replace hv:=hide hv;replace hr:=hr;rcases hr with hr | hr
 ·go_enter Tryz.func315,Tryz.ntmps315;go_wp2_with (go_at_call 338;refine (zRo _).mono ?_;rintro e w' ⟨rfl,hb⟩);go_ret;refine⟨-1,rfl,by omega,by omega,fun ha=>?_,hb⟩;have:=ha 0 x Hx.out;omega
 ·go_enter Tryz.func315,Tryz.ntmps315;go_wp2_with (go_at_call 338;refine (ca _).mono ?_;rintro e w' ⟨rfl,hb⟩)
  ·go_ret;refine⟨0,rfl,by omega,by omega,fun ha=>Or.inr ⟨0,x,rfl,Hx.out,hsg.out.1 (by assumption),?_⟩,hb⟩;intro j y hj hy;rw[List.getElem?_eq_none (by rw[<-Lib.size_eq];omega)] at hy;cases hy
  ·have hneg:¬0<=v:=by omega
   go_ret;refine⟨-1,rfl,by omega,by omega,fun ha=>Or.inl ⟨rfl,?_⟩,hb⟩;have hn:x≠43/\x≠45:=⟨fun h=>hneg (hsg.out.2 (Or.inl h)),fun h=>hneg (hsg.out.2 (Or.inr h))⟩;refine NoFrom.pred (fun j y hj hy=>?_) Hx.out hn;rw[List.getElem?_eq_none (by rw[<-Lib.size_eq];omega)] at hy;cases hy
theorem sets91:(Tryz.prog.info? 303).map (fun i=>(i.zero,i.size))=some (some (.agg (Array.replicate 256 (.bool false))),256):=by kernel_rfl
theorem zSt (n:Int) (w:World):Calls Tryz.prog 342 #[.int .i64 n] w fun e w'=>e=.returned (.bool (decide (8<n)))/\w'=w:=by
 go_enter Tryz.func342,Tryz.ntmps342;go_wp2;go_ret;exact⟨rfl,rfl⟩
theorem sgn_in (x:UInt8):([43,45]:List UInt8).contains x=true↔(x=43\/x=45):=by
 simp
theorem lia_long (s:ByteArray) (h8:8<s.size) (hs:s.size<=9000000000000000000) (w:World):
  Calls Tryz.prog 315 #[.string s,.string ⟨#[43,45]⟩] w (LiaPost s w):=by
 have hM:=Tryz.strings_makeASCIISet (zero_of_info sets91).1 ⟨#[43,45]⟩ w (by decide) (fun j b hb=>by
  have h2:∀y∈([43,45]:List UInt8),y.toNat<128:=by decide
  exact h2 b (List.mem_of_getElem? hb))
 have hn1:((s.size:Int)==1)=false:=beq_eq_false_iff_ne.2 (by omega);have h8z:decide ((8:Int)<(s.size:Int))=true:=decide_eq_true (by omega);have hl:s.data.toList.length=s.size:=(Lib.size_eq s).symm;have hsz:=Lib.setCells_size [43,45];have hsc:(storeCells ⟨w.heap.size+1,0,none⟩ (Lib.setCells [43,45]).toList 0).run Tryz.prog ((w.alloc (.cells (Lib.setCells [43,45]) 303)).alloc (.cells (Array.replicate 256 (.bool false)) 303))=.ok () ((w.alloc (.cells (Lib.setCells [43,45]) 303)).alloc (.cells (Lib.setCells [43,45]) 303)):=by have:=run_storeCells_new (P:=Tryz.prog) (w.alloc (.cells (Lib.setCells [43,45]) 303)) 303 (Array.replicate 256 (.bool false)) (Lib.setCells [43,45]) (by rw[Lib.setCells_size];exact (zero_of_info sets91).2) (by rw[Lib.setCells_size,Array.size_replicate]) (Lib.setCells_one _);simpa using this
 have hcellAt:∀x:UInt8,((w.alloc (.cells (Lib.setCells [43,45]) 303)).alloc (.cells (Lib.setCells [43,45]) 303)).cell? ⟨w.heap.size+1,x.toNat,none⟩=some (.bool (([43,45]:List UInt8).contains x)):=fun x=>by
  rw[World.cell?_alloc_at _ _ _ _ (by simp),Lib.setCells_at]
 have hbel:Below w.heap.size w ((w.alloc (.cells (Lib.setCells [43,45]) 303)).alloc (.cells (Lib.setCells [43,45]) 303)):=((Below.refl _ _).alloc (Nat.le_refl _) _).alloc (by simp) _;have e1:(ByteArray.mk #[43,45]).data.toList=([43,45]:List UInt8):=rfl;rw[e1] at hM;generalize Lib.setCells [43,45]=C at hM hsz hsc hcellAt hbel;have HC:=hide hcellAt;clear hcellAt;replace hbel:=hide hbel;go_enter Tryz.func315,Tryz.ntmps315;go_wp2_with (first
  |(go_at_call 342;refine (zSt _ _).mono ?_;rintro e w' ⟨rfl,hw⟩;rw[hw,h8z])
  |(go_at_call 271;refine hM.mono ?_;rintro e w' ⟨rfl,hw⟩;rw[hw]))
 have hz:Tryz.zeroCells303=Array.replicate 256 (.bool false):=by kernel_rfl
 rw[hz,hsc];simp only[Result.andThen];rw[Oper.upon_skip];go_wp2;clear hM hsc hz
 go_loopg [8] s.size (fun g s8 wx=>g<=s.size/\s8=.int .i64 ((g:Int)-1)/\wx=((w.alloc (.cells C 303)).alloc (.cells C 303))/\Hid (NoFrom s.data.toList g))
 case atStart=>exact⟨Nat.le_refl _,by go_num,rfl,hide (by rw[<-hl];exact NoFrom.end _)⟩
 case round=>
  obtain⟨hgs,rfl,rfl,hno⟩:=hrel;cases gk with
  | zero=>
   have hiz:¬((0:Int)<=((0:Nat):Int)-1):=by omega
   go_wp2;go_ret;exact⟨-1,rfl,by omega,by omega,fun _=>Or.inl ⟨rfl,hno.out⟩,hbel.out⟩
  | succ g=>
   have hi:g<s.size:=by omega
   have hgi:(((g+1:Nat):Int)-1)=(g:Int):=by omega
   rw[hgi];have hiz:(0:Int)<=(g:Int):=by omega
   have hiz2:(g:Int)<(s.size:Int):=by omega
   obtain⟨x,hx⟩:∃x:UInt8,s[g]'hi=x:=⟨_,rfl⟩;have hxl:s.data.toList[g]?=some x:=by rw[<-hx];exact Lib.data_getElem? s g hi
   have Hx:=hide hxl;clear hxl;have hcx:=HC.out x;cases hin:([43,45]:List UInt8).contains x<;>rw[hin] at hcx
   ·replace hin:=hide hin;go_wp2_with (go_at_call 308;refine (Tryz.asciiSet_contains _ x _ _ hcx).mono ?_;rintro e w' ⟨rfl,hw⟩;rw[hw])
    go_roundg g
    case measure=>omega
    case rel=>
     refine⟨by omega,by go_num,rfl,hide (NoFrom.pred hno.out Hx.out ?_)⟩;have h1:¬(x=43\/x=45):=fun h=>by have:=(sgn_in x).2 h;rw[hin.out] at this;cases this
     exact⟨fun h=>h1 (Or.inl h),fun h=>h1 (Or.inr h)⟩
   ·replace hin:=hide hin;go_wp2_with (go_at_call 308;refine (Tryz.asciiSet_contains _ x _ _ hcx).mono ?_;rintro e w' ⟨rfl,hw⟩;rw[hw]);go_ret;exact⟨g,rfl,by omega,by omega,fun _=>Or.inr ⟨g,x,rfl,Hx.out,(sgn_in x).1 hin.out,hno.out⟩,hbel.out⟩
theorem zC0 (s:ByteArray) (i:Nat):(s.extract 0 i).data.toList=s.data.toList.take i:=by
 simp[ByteArray.data_extract]
theorem zJb {l:List UInt8} {i:Nat} {x:UInt8} (hx:l[i]?=some x) (ha:x.toNat<128):Lib.decodeLastL (l.take (i+1))=(x.toNat,1):=by
 rw[zE8 hx];exact Lib.decodeLastL_ascii _ x ha
structure DecAt (l:List UInt8) (i r z:Nat):Prop where
 lo:1<=z
 hi:z<=i
 ru:r<=1114111
 hit:0<=sgnAt (r:Int)->Ascii l->NoFrom l i->LastOf l ((i:Int)-z)
 miss:¬0<=sgnAt (r:Int)->Ascii l->NoFrom l i->NoFrom l (i-z)
theorem dec_at {l:List UInt8} {i:Nat} (h0:0<i) (hi:i<=l.length):DecAt l i (Lib.decodeLastL (l.take i)).1 (Lib.decodeLastL (l.take i)).2:=by
 have hlen:(l.take i).length=i:=by rw[List.length_take];omega
 have hw:=Lib.decodeLastL_width (l.take i) (by omega);rw[hlen] at hw;obtain⟨k,rfl⟩:∃k,i=k+1:=⟨i-1,by omega⟩;have hk:k<l.length:=by omega
 have hx:l[k]?=some l[k]:=List.getElem?_eq_getElem hk;refine⟨hw.1,hw.2,Lib.decodeLastL_rune _,fun h ha hn=>?_,fun h ha hn=>?_⟩
 ·have hd:=zJb hx (ha k _ hx);rw[hd] at h ⊢;refine Or.inr ⟨k,l[k],by omega,hx,(zEw _).1 h,hn⟩
 ·have hd:=zJb hx (ha k _ hx);rw[hd] at h ⊢;have h1:¬(l[k]=43\/l[k]=45):=fun h2=>h ((zEw _).2 h2)
  exact NoFrom.pred hn hx ⟨fun h=>h1 (Or.inl h),fun h=>h1 (Or.inr h)⟩
theorem zPw (s:ByteArray) (h8:¬8<s.size) (h1:s.size≠1) (w:World) (hT:Tabs w):
  Calls Tryz.prog 315 #[.string s,.string ⟨#[43,45]⟩] w (LiaPost s w):=by
 have hn1:((s.size:Int)==1)=false:=beq_eq_false_iff_ne.2 (by omega);have h8z:decide ((8:Int)<(s.size:Int))=false:=decide_eq_false (by omega);have hl:s.data.toList.length=s.size:=(Lib.size_eq s).symm;go_enter Tryz.func315,Tryz.ntmps315;go_wp2_with (go_at_call 342;refine (zSt _ _).mono ?_;rintro e w' ⟨rfl,hw⟩;rw[hw,h8z])
 go_loopg [13] s.size (fun g s13 wx=>∃i:Nat,i<=g/\i<=s.size/\s13=.int .i64 (i:Int)/\Below w.heap.size w wx/\Hid (Ascii s.data.toList->NoFrom s.data.toList i))
 case atStart=>exact⟨s.size,Nat.le_refl _,Nat.le_refl _,rfl,Below.refl _ _,hide (fun _=>by rw[<-hl];exact NoFrom.end _)⟩
 case round=>
  obtain⟨i,hig,his,rfl,hbw,hno⟩:=hrel;by_cases h0:0<i
  ·have hd:=dec_at (l:=s.data.toList) h0 (by omega);have hdc:=fun w hT=>Tryz.utf8_DecodeLastRuneInString (s.extract 0 i) w (by simp[ByteArray.size_extract];omega) hT
   rw[zC0] at hdc;generalize Lib.decodeLastL (s.data.toList.take i)=q at hd hdc;obtain⟨r,z⟩:=q;dsimp only at hd hdc;have hT2:=hT.below hbw;have ci:=fun w=>zPx r hd.ru w
   have hz1:=hd.lo;have hz2:=hd.hi;have HD:=hide hd;clear hd;generalize hv:sgnAt (r:Int)=v at ci;replace hv:=hide hv;have hi0:(0:Int)<(i:Int):=by omega
   have hi1:(i:Int)<=(s.size:Int):=by omega
   have hi2:((i:Nat):Int).toNat=i:=by omega
   go_wp2_with (first
    |(go_at_call 311;refine (hdc _ hT2.utf).mono ?_;rintro e w1 ⟨rfl,hb1⟩)
    |(go_at_call 338;refine (ci _).mono ?_;rintro e w2 ⟨rfl,hb2⟩))
   ·go_ret;have hvs:0<=sgnAt (r:Int):=by rw[hv.out];assumption
    have hbb:=hbw.trans (hb1.mono hbw.size);exact⟨(i:Int)-z,rfl,by omega,by omega,fun ha=>HD.out.hit hvs ha (hno.out ha),hbb.trans (hb2.mono hbb.size)⟩
   ·have hvn:v<0:=by assumption
    obtain⟨g,rfl⟩:∃g,gk=g+1:=⟨gk-1,by omega⟩
    go_roundg g
    case measure=>omega
    case rel=>have hbb:=hbw.trans (hb1.mono hbw.size);refine⟨i-z,by omega,by omega,by rw[Int.ofNat_sub hz2],hbb.trans (hb2.mono hbb.size),hide (fun ha=>HD.out.miss ?_ ha (hno.out ha))⟩;rw[hv.out];omega
  ·obtain rfl:i=0:=by omega
   have hiz:¬((0:Int)<((0:Nat):Int)):=by omega
   go_wp2;go_ret;exact⟨-1,rfl,by omega,by omega,fun ha=>Or.inl ⟨rfl,hno.out ha⟩,hbw⟩
theorem lia_any (s:ByteArray) (hs:s.size<=9000000000000000000) (w:World) (hT:Tabs w):
  Calls Tryz.prog 315 #[.string s,.string ⟨#[43,45]⟩] w (LiaPost s w):=by
 by_cases h1:s.size=1
 ·exact lia_one s h1 w
 ·by_cases h8:8<s.size
  ·exact lia_long s h8 hs w
  ·exact zPw s h8 h1 w hT
open Go.Lib
def IsDig (b:UInt8):Prop:=48<=b.toNat/\b.toNat<=57
theorem zFt (k:Nat) (hk:k<10):digitVal (UInt8.ofNat (48+k))=some k:=by
 have h:(UInt8.ofNat (48+k)).toNat=48+k:=by simp[UInt8.toNat_ofNat'];omega
 unfold digitVal;rw[h,if_pos (by omega)];congr 1;omega
theorem zG5 (x y:List UInt8):∀(acc n:Nat),decFrom acc x=some n->decFrom acc (x++y)=decFrom n y:=by
 induction x with
 | nil=>intro acc n h;simp[decFrom] at h;subst h;rfl
 | cons b r ih=>
  intro acc n h;simp only[List.cons_append,decFrom] at h ⊢;cases hb:digitVal b with
  | none=>rw[hb] at h;cases h
  | some d=>rw[hb] at h;simp only at h ⊢;exact ih _ _ h
theorem zDp (u:Nat):decFrom 0 (decDigits u)=some u:=by
 induction u using Nat.strongRecOn with
 | _ u ih=>
  by_cases h:u<10
  ·rw [decDigits,dif_pos h];simp only[decFrom,zFt u h];congr 1;omega
  ·rw [decDigits,dif_neg h,zG5 _ _ _ _ (ih (u/10) (by omega))];simp only[decFrom,zFt (u % 10) (by omega)];congr 1;omega
theorem zEn (u:Nat):∀b∈decDigits u,IsDig b:=by
 induction u using Nat.strongRecOn with
 | _ u ih=>
  intro b hb;by_cases h:u<10
  ·rw [decDigits,dif_pos h] at hb;simp only[List.mem_singleton] at hb;subst hb;unfold IsDig;simp[UInt8.toNat_ofNat'];omega
  ·rw [decDigits,dif_neg h,List.mem_append] at hb;rcases hb with hb | hb
   ·exact ih (u/10) (by omega) b hb
   ·simp only[List.mem_singleton] at hb;subst hb;unfold IsDig;simp[UInt8.toNat_ofNat'];omega
theorem zA8 (u:Nat):∃x r,decDigits u=x::r/\IsDig x:=by
 have hl:0<(decDigits u).length:=by rw[decDigits_length];have:=nDigits_pos u;omega
 cases h:decDigits u with
 | nil=>rw[h] at hl;simp at hl
 | cons x r=>exact⟨x,r,rfl,zEn u x (by rw[h];simp)⟩
theorem zK0 (u:Nat):decNat (decDigits u)=some u:=by
 obtain⟨x,r,h,_⟩:=zA8 u;unfold decNat;rw[h];simp only[List.isEmpty_cons,Bool.false_eq_true,if_false];rw[<-h,zDp]
theorem zEk:∀(k u:Nat),u<10 ^ (k+1)->nDigits u<=k+1
 | 0,u,h=>by rw[nDigits_small (by simpa using h)];omega
 | k+1,u,h=>by
  by_cases h10:u<10
  ·rw [nDigits_small h10];omega
  ·rw [nDigits_big h10];have:=zEk k (u/10) (by rw[Nat.pow_succ] at h;omega);omega
theorem zFz (u:Nat) (h:u<=1000000):(decDigits u).length<=7:=by
 rw[decDigits_length];exact zEk 6 u (by omega)
theorem zA1 {x:UInt8} (h:IsDig x) (k:UInt8) (hk:k.toNat<48\/57<k.toNat):x≠k:=by
 rintro rfl;unfold IsDig at h;omega
theorem atoi_dec (u:Nat):atoi (decDigits u)=some (u:Int):=by
 obtain⟨x,r,h,hx⟩:=zA8 u;have h45:(x==45)=false:=beq_false_of_ne (zA1 hx 45 (by decide));have h43:(x==43)=false:=beq_false_of_ne (zA1 hx 43 (by decide));rw[h];simp only[atoi,h45,h43,Bool.false_eq_true,if_false];rw[<-h,zK0];rfl
structure Small (a:Int):Prop where
 lo: -1000000<=a
 hi:a<=1000000
theorem zA7 {a:Int} (h:0<=a):itoa a=decDigits a.toNat:=by unfold itoa;rw[if_neg (by omega)]
theorem itoa_neg' {a:Int} (h:a<0):itoa a=45::decDigits a.natAbs:=by unfold itoa;rw[if_pos h]
theorem zM7 {a:Int} (h:Small a):(itoa a).length<=8:=by
 by_cases h0:0<=a
 ·rw [zA7 h0];have:=zFz a.toNat (by have:=h.hi;omega);omega
 ·rw [itoa_neg' (by omega)];have:=zFz a.natAbs (by have:=h.lo;omega);simp;omega
theorem zCw {a:Int} (h:Small a):atoiAll (itoa a)=.ok a:=by
 rw[atoiAll_short _ (by have:=zM7 h;omega)];have:atoi (itoa a)=some a:=by
  by_cases h0:0<=a
  ·rw [zA7 h0,atoi_dec];congr 1;omega
  ·rw [itoa_neg' (by omega)];simp only[atoi,BEq.rfl,if_true,zK0,Option.map_some];congr 1;omega
 rw[this];rfl
theorem zSv {b:Int} (h:Small b) (h0:0<=b):atoiAll (43::itoa b)=.ok b:=by
 rw[atoiAll_short _ (by have:=zM7 h;simp;omega)];have:atoi (43::itoa b)=some b:=by
  rw[zA7 h0];have e:((43:UInt8)==45)=false:=by decide
  simp only[atoi,e,Bool.false_eq_true,if_false,BEq.rfl,if_true,zK0,Option.map_some];congr 1;omega
 rw[this];rfl
def pre (b:Int):List UInt8:=if b=1 then [] else if b= -1 then [45] else itoa b
theorem sec_pre (b:Int):sec b=pre b++[105]:=by
 unfold sec pre;split
 ·rfl
 ·split
  ·rfl
  ·rfl
def rim (l:List UInt8):Option Int:=if l=[]\/l=[43] then some 1 else if l=[45] then some (-1) else match atoiAll l with
 | .ok v=>some v
 | _=>none
theorem dec_ne (u:Nat):decDigits u≠[]/\decDigits u≠[43]/\decDigits u≠[45]:=by
 obtain⟨x,r,h,hx⟩:=zA8 u;rw[h];refine⟨by simp,?_,?_⟩
 ·intro e;injection e with e1 e2;exact zA1 hx 43 (by decide) e1
 ·intro e;injection e with e1 e2;exact zA1 hx 45 (by decide) e1
theorem zDl (b:Int):itoa b≠[]/\itoa b≠[43]/\itoa b≠[45]:=by
 by_cases h:0<=b
 ·rw [zA7 h];exact dec_ne _
 ·rw [itoa_neg' (by omega)];have:=dec_ne b.natAbs;refine⟨by simp,?_,?_⟩
  ·intro e;injection e with e1 e2;exact absurd e1 (by decide)
  ·intro e;injection e with e1 e2;exact this.1 e2
theorem zPn {b:Int} (h:Small b):rim (pre b)=some b:=by
 unfold pre;split
 ·rename_i h1;subst h1;rfl
 ·split
  ·rename_i h1;subst h1;rfl
  ·unfold rim;have hn:=zDl b;rw[if_neg (by rintro (e | e);exact hn.1 e;exact hn.2.1 e),if_neg hn.2.2,zCw h]
theorem rim_plus {b:Int} (h:Small b) (h0:0<b):rim (43::pre b)=some b:=by
 unfold pre;split
 ·rename_i h1;subst h1;rfl
 ·rw [if_neg (by omega)];unfold rim;have hn:=zDl b;rw[if_neg,if_neg,zSv h (by omega)]
  ·intro e;injection e with e1 e2;exact absurd e1 (by decide)
  ·rintro (e | e)
   ·cases e
   ·injection e with e1 e2;exact hn.1 e2
def NoSign (l:List UInt8):Prop:=∀x∈l,x≠43/\x≠45
theorem zHy (u:Nat):NoSign (decDigits u):=fun x hx=>⟨zA1 (zEn u x hx) 43 (by decide),zA1 (zEn u x hx) 45 (by decide)⟩
theorem zRu (u:Nat):∀x∈decDigits u,x.toNat<128:=fun x hx=>by have:=(zEn u x hx).2;omega
theorem zIe (a:Int):∀x∈itoa a,x.toNat<128:=by
 by_cases h:0<=a
 ·rw [zA7 h];exact zRu _
 ·rw [itoa_neg' (by omega)];intro x hx;rcases List.mem_cons.1 hx with rfl | hx
  ·decide
  ·exact zRu _ x hx
theorem zK3 (b:Int):∀x∈pre b,x.toNat<128:=by
 unfold pre;split
 ·simp
 ·split
  ·intro x hx;simp at hx;subst hx;decide
  ·exact zIe b
theorem zCb (b:Int):(0<=b/\NoSign (pre b))\/(b<0/\∃r,pre b=45::r/\NoSign r):=by
 unfold pre;split
 ·rename_i h1;subst h1;exact Or.inl ⟨by omega,fun x hx=>by cases hx⟩
 ·split
  ·rename_i h1;subst h1;exact Or.inr ⟨by omega,[],rfl,fun x hx=>by cases hx⟩
  ·by_cases h:0<=b
   ·rw [zA7 h];exact Or.inl ⟨h,zHy _⟩
   ·rw [itoa_neg' (by omega)];exact Or.inr ⟨by omega,_,rfl,zHy _⟩
theorem ascii_of {l:List UInt8} (h:∀x∈l,x.toNat<128):Ascii l:=fun _ x hx=>h x (List.mem_of_getElem? hx)
theorem zRn {l:List UInt8} (h:NoSign l) {v:Int} (hv:LastOf l v):v= -1:=by
 rcases hv with⟨h1,_⟩ | ⟨i,x,_,hx,hs,_⟩
 ·exact h1
 ·have:=h x (List.mem_of_getElem? hx);rcases hs with rfl | rfl
  ·exact absurd rfl this.1
  ·exact absurd rfl this.2
theorem zLh {u t:List UInt8} {c:UInt8} (hc:c=43\/c=45) (ht:NoSign t) {v:Int} (hv:LastOf (u++c::t) v):v=u.length:=by
 have hcu:(u++c::t)[u.length]?=some c:=by simp
 have hns:¬(c≠43/\c≠45):=by rintro ⟨h1,h2⟩;rcases hc with h | h;exact h1 h;exact h2 h
 rcases hv with⟨_,h⟩ | ⟨i,x,rfl,hx,hs,hn⟩
 ·exact absurd (h u.length c (by omega) hcu) hns
 ·rcases Nat.lt_trichotomy i u.length with h | h | h
  ·exact absurd (hn u.length c (by omega) hcu) hns
  ·rw [h]
  ·exfalso;rw[List.getElem?_append_right (by omega)] at hx;obtain⟨j,hj⟩:∃j,i-u.length=j+1:=⟨i-u.length-1,by omega⟩;rw[hj,List.getElem?_cons_succ] at hx;have:=ht x (List.mem_of_getElem? hx);rcases hs with rfl | rfl
   ·exact this.1 rfl
   ·exact this.2 rfl
def body (a b:Int):List UInt8:=if a=0 then pre b else if 0<b then itoa a++43::pre b else itoa a++pre b
theorem zCa {a b:Int} (hb:b≠0):text a b=body a b++[105]:=by
 unfold text body;rw[if_neg hb,sec_pre];split
 ·rfl
 ·split<;>simp
theorem zOc (a b:Int):Ascii (body a b):=by
 refine ascii_of ?_;unfold body;split
 ·exact zK3 b
 ·split
  ·intro x hx;rcases List.mem_append.1 hx with hx | hx
   ·exact zIe a x hx
   ·rcases List.mem_cons.1 hx with rfl | hx
    ·decide
    ·exact zK3 b x hx
  ·intro x hx;rcases List.mem_append.1 hx with hx | hx
   ·exact zIe a x hx
   ·exact zK3 b x hx
theorem zRd {a b:Int} (hb:Small b) (hb0:b≠0) {v:Int} (hv:LastOf (body a b) v):
  (a=0/\v<=0/\rim (body a b)=some b)\/(a≠0/\0<v/\v=(itoa a).length/\(body a b).take v.toNat=itoa a/\rim ((body a b).drop v.toNat)=some b):=by
 by_cases ha:a=0
 ·left;refine⟨ha,?_,by unfold body;rw[if_pos ha];exact zPn hb⟩;unfold body at hv;rw[if_pos ha] at hv;rcases zCb b with⟨_,h⟩ | ⟨_,r,h,hr⟩
  ·have:=zRn h hv;omega
  ·rw [h] at hv;have:=zLh (u:=[]) (Or.inr rfl) hr hv;simp at this;omega
 ·right;have hl:0<(itoa a).length:=List.length_pos_iff.2 (zDl a).1;have key:v=(itoa a).length/\∃z,body a b=itoa a++z/\rim z=some b:=by
   unfold body at hv ⊢;rw[if_neg ha] at hv ⊢;by_cases hp:0<b
   ·rw [if_pos hp] at hv ⊢;rcases zCb b with⟨_,h⟩ | ⟨h0,_⟩
    ·exact ⟨zLh (Or.inl rfl) h hv,_,rfl,rim_plus hb hp⟩
    ·omega
   ·rw [if_neg hp] at hv ⊢;rcases zCb b with⟨h0,_⟩ | ⟨_,r,h,hr⟩
    ·omega
    ·refine ⟨?_,_,rfl,zPn hb⟩;rw[h] at hv;exact zLh (Or.inr rfl) hr hv
  obtain⟨h1,z,h2,h3⟩:=key;subst h1;refine⟨ha,by omega,rfl,?_,?_⟩
  ·rw [h2];simp
  ·rw [h2];simpa using h3
theorem zEs (l:List UInt8):hasSuffix (l++[105]) [105]=true/\trimSuffix (l++[105]) [105]=l:=by
 have h:hasSuffix (l++[105]) [105]=true:=by unfold hasSuffix;rw[List.isSuffixOf_iff_suffix];exact List.suffix_append _ _
 exact⟨h,by unfold trimSuffix;rw[if_pos h];simp⟩
theorem zJk {l:List UInt8} (h:hasSuffix l [105]=true):∃r,l=r++[105]:=by
 unfold hasSuffix at h;rw[List.isSuffixOf_iff_suffix] at h;obtain⟨r,h⟩:=h;exact⟨r,h.symm⟩
theorem zG3 (a:Int):hasSuffix (itoa a) [105]=false:=by
 cases h:hasSuffix (itoa a) [105] with
 | false=>rfl
 | true=>
  exfalso;obtain⟨r,e⟩:=zJk h;have hm:(105:UInt8)∈itoa a:=by rw[e];simp
  by_cases h0:0<=a
  ·rw [zA7 h0] at hm;exact zA1 (zEn _ _ hm) 105 (by decide) rfl
  ·rw [itoa_neg' (by omega)] at hm;rcases List.mem_cons.1 hm with hm | hm
   ·exact absurd hm (by decide)
   ·exact zA1 (zEn _ _ hm) 105 (by decide) rfl
end Go.Proofs.YtdkekamkmlpnhaaGreatDoor
namespace Go.Proofs.YtdkekamkmlpnhaaGreatDoor
open Go.RowKit Flt
def badV (N:Nat):Value:=.iface 323 (.pointer (some ⟨N,0,none⟩))
theorem zLs (s:ByteArray) (hs:s.size<=281474976710656) (v:Int) (h:Lib.atoiAll s.data.toList=.ok v) (w:World):
  Calls Tryz.prog 314 #[.string s] w fun e w'=>e=.returned (.tuple #[.int .i64 v,.nilIface])/\Below w.heap.size w w':=by
 refine (Tryz.strconv_Atoi_ok s (by omega) v h w).mono ?_;rintro e w' ⟨rfl,h⟩;refine⟨rfl,?_⟩;rcases h with rfl | ⟨t,rfl⟩
 ·exact Below.refl _ _
 ·exact Lib.bytesWorld_below w _ t
structure BadPost (w:World) (e:Ending) (w':World):Prop where
 out:∃v N,e=.returned (.tuple #[.int .i64 v,badV N])/\Below w.heap.size w w'
theorem zH8 (s:ByteArray) (hs:s.size<=281474976710656) (h:∀v,Lib.atoiAll s.data.toList≠.ok v) (w:World) (hT:Tabs w):
  Calls Tryz.prog 314 #[.string s] w (BadPost w):=by
 obtain⟨tp,p,hsyn⟩:=hT.syn;obtain⟨tq,q,hrng⟩:=hT.rng;cases he:Lib.atoiAll s.data.toList
 ·exact absurd he (h _)
 ·refine (Any.strconv_Atoi_syntax_var Tryz.laysC172 s hs he tp p w hsyn).mono ?_;rintro e w' ⟨N,rfl,_,_,hb⟩;exact⟨_,N,rfl,hb⟩
 ·refine (Any.strconv_Atoi_range_var Tryz.laysC172 s hs he tq q w hrng).mono ?_;rintro e w' ⟨N,rfl,_,_,hb⟩;exact⟨_,N,rfl,hb⟩
inductive RimCls (s:ByteArray):Prop where
 | none (h:s.toList.isEmpty=true) (hr:rim s.data.toList=some 1)
 | plus (h:s.toList.isEmpty=false) (k:(s.toList==[43])=true) (hr:rim s.data.toList=some 1)
 | minus (h:s.toList.isEmpty=false) (k:(s.toList==[43])=false) (m:(s.toList==[45])=true) (hr:rim s.data.toList=some (-1))
 | num (h:s.toList.isEmpty=false) (k:(s.toList==[43])=false) (m:(s.toList==[45])=false) (hr:rim s.data.toList=match Lib.atoiAll s.data.toList with | .ok v=>some v | _=>Option.none)
theorem zP5 (s:ByteArray):RimCls s:=by
 have hl:=Lib.toList_data s;by_cases h0:s.data.toList=[]
 ·exact .none (by rw[hl,h0];rfl) (by rw[h0];rfl)
 ·have e0:s.toList.isEmpty=false:=by rw[hl];simpa using h0
  by_cases h1:s.data.toList=[43]
  ·exact .plus e0 (by rw[hl,h1];rfl) (by rw[h1];rfl)
  ·have e1:(s.toList==[43])=false:=by rw[hl];exact beq_false_of_ne h1
   by_cases h2:s.data.toList=[45]
   ·exact .minus e0 e1 (by rw[hl,h2];rfl) (by rw[h2];rfl)
   ·have e2:(s.toList==[45])=false:=by rw[hl];exact beq_false_of_ne h2
    refine .num e0 e1 e2 ?_;unfold rim;rw[if_neg (by rintro (h | h);exact h0 h;exact h1 h),if_neg h2]
    all_goals (cases Lib.atoiAll s.data.toList<;>rfl)
theorem rim_ok (s:ByteArray) (hs:s.size<=281474976710656) (v:Int) (h:rim s.data.toList=some v) (w:World):
  Calls Tryz.prog 316 #[.string s] w fun e w'=>e=.returned (.tuple #[.int .i64 v,.nilIface])/\Below w.heap.size w w':=by
 rcases zP5 s with⟨h0,hr⟩ | ⟨h0,h1,hr⟩ | ⟨h0,h1,h2,hr⟩ | ⟨h0,h1,h2,hr⟩<;>rw[h] at hr
 ·obtain rfl:=Option.some.inj hr;clear h hr;go_enter Tryz.func316,Tryz.ntmps316;go_wp2;go_ret2;exact⟨rfl,Below.refl _ _⟩
 ·obtain rfl:=Option.some.inj hr;clear h hr;go_enter Tryz.func316,Tryz.ntmps316;go_wp2;go_ret2;exact⟨rfl,Below.refl _ _⟩
 ·obtain rfl:=Option.some.inj hr;clear h hr;go_enter Tryz.func316,Tryz.ntmps316;go_wp2;go_ret2;exact⟨rfl,Below.refl _ _⟩
 ·have hv:Lib.atoiAll s.data.toList=.ok v:=by
   cases he:Lib.atoiAll s.data.toList
   ·rw [he] at hr;simp at hr;rw[hr]
   ·rw [he] at hr;cases hr
   ·rw [he] at hr;cases hr
  have hc:=fun w=>zLs s hs v hv w
  clear h hr hv;go_enter Tryz.func316,Tryz.ntmps316;go_wp2_with (go_at_call 314;refine (hc _).mono ?_;rintro e w' ⟨rfl,hb⟩);go_ret2;exact⟨rfl,hb⟩
theorem zQg (s:ByteArray) (hs:s.size<=281474976710656) (h:rim s.data.toList=none) (w:World) (hT:Tabs w):
  Calls Tryz.prog 316 #[.string s] w (BadPost w):=by
 rcases zP5 s with⟨h0,hr⟩ | ⟨h0,h1,hr⟩ | ⟨h0,h1,h2,hr⟩ | ⟨h0,h1,h2,hr⟩<;>rw[h] at hr
 ·cases hr
 ·cases hr
 ·cases hr
 ·have hv:∀v,Lib.atoiAll s.data.toList≠.ok v:=by
   intro v he;rw[he] at hr;cases hr
  have hc:=fun w hT=>zH8 s hs hv w hT
  clear h hr hv;go_enter Tryz.func316,Tryz.ntmps316;go_wp2_with (go_at_call 314;refine (hc _ hT).mono ?_;rintro e w' ⟨v,N,rfl,hb⟩);go_ret2;exact⟨v,N,rfl,hb⟩
structure ReadPost (s:ByteArray) (w:World) (e:Ending) (w':World):Prop where
 out:∃x y ev,e=.returned (.tuple #[.complex .f64 x y,ev])/\x<2 ^ 64/\y<2 ^ 64/\(ev=.nilIface\/∃N,ev=badV N)/\
  (∀a b,Small a->Small b->s.data.toList=text a b->x=fl a/\y=fl b/\ev=.nilIface)/\Below w.heap.size w w'
theorem fl0:fl 0=0:=by decide+kernel
theorem zQs (l:List UInt8):(∃v,Lib.atoiAll l=.ok v)\/∀v,Lib.atoiAll l≠.ok v:=by
 cases h:Lib.atoiAll l
 ·exact Or.inl ⟨_,rfl⟩
 ·exact Or.inr (fun v e=>by cases e)
 ·exact Or.inr (fun v e=>by cases e)
theorem zCm {a b:Int}:Lib.hasSuffix (text a b) [105]= !(decide (b=0)):=by
 by_cases hb:b=0
 ·subst hb;have:text a 0=Lib.itoa a:=by unfold text;rw[if_pos rfl]
  rw[this,zG3];rfl
 ·rw [zCa hb,(zEs _).1];simp[hb]
theorem zPe (s:ByteArray) (hs:s.size<=281474976710656) (h:Lib.hasSuffix s.data.toList [105]=false) (w:World) (hT:Tabs w):
  Calls Tryz.prog 277 #[.string s] w (ReadPost s w):=by
 have hC:=fun w=>Tryz.strings_CutSuffix s ⟨#[105]⟩ w (by omega)
 have e1:(ByteArray.mk #[105]).data.toList=([105]:List UInt8):=rfl;rw[e1,h] at hC;have ht:∀a b,s.data.toList=text a b->b=0/\s.data.toList=Lib.itoa a:=by
  intro a b e;rw[e,zCm] at h;have hb:b=0:=by simpa using h
  subst hb;refine⟨rfl,?_⟩;rw[e];unfold text;rw[if_pos rfl]
 clear h e1;replace ht:=hide ht;go_enter Tryz.func277,Tryz.ntmps277;go_wp2_with (first
  |(go_at_call 313;refine (hC _).mono ?_;rintro e w' ⟨rfl,rfl⟩)
  |(go_at_call 314;fail))
 rcases zQs s.data.toList with⟨v,hv⟩ | hv
 ·refine (zLs s hs v hv _).mono ?_;rintro e w1 ⟨rfl,hb⟩;replace hv:=hide hv;go_wp2;go_ret2;refine⟨_,_,_,rfl,zIx v,by omega,Or.inl rfl,fun a b ha hb' e=>?_,hb⟩;obtain⟨rfl,e2⟩:=ht.out a b e;have:=hv.out;rw[e2,zCw ha] at this;injection this with this
  subst this;exact⟨rfl,fl0.symm,rfl⟩
 ·refine (zH8 s hs hv _ hT).mono ?_;rintro e w1 ⟨v,N,rfl,hb⟩;replace hv:=hide hv;go_wp2;go_ret2;refine⟨_,_,_,rfl,zIx v,by omega,Or.inr ⟨N,rfl⟩,fun a b ha hb' e=>?_,hb⟩;obtain⟨rfl,e2⟩:=ht.out a b e;exact absurd (by rw[e2];exact zCw ha) (hv.out a)
theorem zDa (R:ByteArray) (i:Nat):(R.extract i R.size).data.toList=R.data.toList.drop i:=by
 simp only[ByteArray.data_extract,Array.toList_extract,List.extract_eq_take_drop];rw[Lib.size_eq];exact List.take_of_length_le (by rw[List.length_drop];exact Nat.le_refl _)
structure BodyOk (R:ByteArray) (a b:Int) (v:Int):Prop where
 last:(a=0/\v<=0/\rim R.data.toList=some b)\/(a≠0/\0<v/\(R.data.toList).take v.toNat=Lib.itoa a/\rim ((R.data.toList).drop v.toNat)=some b)
theorem zSi (s:ByteArray) (hs:s.size<=281474976710656) (h:Lib.hasSuffix s.data.toList [105]=true) (w:World) (hT:Tabs w):
  Calls Tryz.prog 277 #[.string s] w (ReadPost s w):=by
 have hC:=fun w=>Tryz.strings_CutSuffix s ⟨#[105]⟩ w (by omega)
 have e1:(ByteArray.mk #[105]).data.toList=([105]:List UInt8):=rfl;rw[e1,h] at hC;obtain⟨r,hr⟩:=zJk h;have hR:(Lib.trimSuffix s.data.toList [105])=r:=by rw[hr];exact (zEs r).2
 rw[hR] at hC;have hRs:(ByteArray.mk r.toArray).size<=281474976710656:=by
  have h1:=Lib.size_eq s;rw[hr] at h1;simp only[List.length_append,List.length_cons,List.length_nil] at h1;have h2:(ByteArray.mk r.toArray).size=r.length:=by simp[ByteArray.size]
  omega
 have hRl:(ByteArray.mk r.toArray).data.toList=r:=by simp
 have ht:∀a b,Small b->s.data.toList=text a b->Ascii (ByteArray.mk r.toArray).data.toList/\∀v,LastOf (ByteArray.mk r.toArray).data.toList v->BodyOk (ByteArray.mk r.toArray) a b v:=by
  intro a b hb e;rw[e,zCm] at h;have hb0:b≠0:=by simpa using h
  have e3:r=body a b:=by rw[e,zCa hb0] at hr;exact (List.append_cancel_right hr).symm
  have e4:(ByteArray.mk r.toArray).data.toList=body a b:=by rw[hRl,e3]
  rw[e4];refine⟨zOc a b,fun v hv=>⟨?_⟩⟩;rw[e4];rcases zRd hb hb0 hv with⟨h1,h2,h3⟩ | ⟨h1,h2,h3,h4,h5⟩
  ·exact Or.inl ⟨h1,h2,h3⟩
  ·exact Or.inr ⟨h1,h2,h4,h5⟩
 generalize ByteArray.mk r.toArray=R at hC hRs ht;clear h e1 hr hR hRl;replace ht:=hide ht;have hL:=fun w hT=>lia_any R (by omega) w hT
 go_enter Tryz.func277,Tryz.ntmps277;go_wp2_with (first
  |(go_at_call 313;refine (hC _).mono ?_;rintro e w' ⟨rfl,rfl⟩)
  |(go_at_call 315;fail))
 refine (hL _ hT).mono ?_;intro e w1 hP;obtain⟨v,rfl,hv1,hv2,hv3,hb1⟩:=hP.out;have hT1:=hT.below hb1;replace hv3:=hide hv3;by_cases hv0:0<v
 ·have hvs:v<=(R.size:Int):=by omega
  have hvn:(v.toNat:Int)=v:=by omega
  have hX:(R.extract 0 v.toNat).data.toList=R.data.toList.take v.toNat:=zC0 R v.toNat;have hY:(R.extract v.toNat R.size).data.toList=R.data.toList.drop v.toNat:=zDa R v.toNat;have hXs:(R.extract 0 v.toNat).size<=281474976710656:=by rw[ByteArray.size_extract];omega
  have hYs:(R.extract v.toNat R.size).size<=281474976710656:=by rw[ByteArray.size_extract];omega
  generalize hgx:R.extract 0 v.toNat=X at hX hXs;generalize hgy:R.extract v.toNat R.size=Y at hY hYs;replace hX:=hide hX;replace hY:=hide hY;clear hP hv2;go_wp2_with (go_at_call 314;fail);rcases zQs X.data.toList with⟨p,hp⟩ | hp
  ·refine (zLs X hXs p hp _).mono ?_;rintro e w2 ⟨rfl,hb2⟩;replace hp:=hide hp;have hb12:=hb1.trans (hb2.mono hb1.size);have key:∀a b,Small a->Small b->s.data.toList=text a b->p=a/\rim Y.data.toList=some b:=by
    intro a b ha hb e;obtain⟨hA,hB⟩:=ht.out a b hb e;rcases (hB v (hv3.out hA)).last with⟨_,h,_⟩ | ⟨_,_,h4,h5⟩
    ·omega
    ·have:=hp.out;rw[hX.out,h4,zCw ha] at this;injection this with this
     rw[hY.out];exact⟨this.symm,h5⟩
   replace key:=hide key;go_wp2_with (go_at_call 316;fail);cases hq:rim Y.data.toList with
   | some q=>
    refine (rim_ok Y hYs q hq _).mono ?_;rintro e w3 ⟨rfl,hb3⟩;replace hq:=hide hq;go_wp2;go_ret2;refine⟨_,_,_,rfl,zIx p,zIx q,Or.inl rfl,fun a b ha hb' e=>?_,hb12.trans (hb3.mono hb12.size)⟩;obtain⟨e1,e2⟩:=key.out a b ha hb' e;have e3:=Option.some.inj (hq.out.symm.trans e2);subst e1;subst e3;exact⟨rfl,rfl,rfl⟩
   | none=>
    refine (zQg Y hYs hq _ (hT.below hb12)).mono ?_;rintro e w3 ⟨q,N,rfl,hb3⟩;replace hq:=hide hq;go_wp2;go_ret2;refine⟨_,_,_,rfl,zIx p,zIx q,Or.inr ⟨N,rfl⟩,fun a b ha hb' e=>?_,hb12.trans (hb3.mono hb12.size)⟩;obtain⟨e1,e2⟩:=key.out a b ha hb' e;have:=hq.out.symm.trans e2;cases this
  ·refine (zH8 X hXs hp _ hT1).mono ?_;rintro e w2 ⟨p,N,rfl,hb2⟩;replace hp:=hide hp;unfold badV;go_wp2;go_ret2;refine⟨_,_,_,rfl,by omega,by omega,Or.inr ⟨N,rfl⟩,fun a b ha hb' e=>?_,hb1.trans (hb2.mono hb1.size)⟩;obtain⟨hA,hB⟩:=ht.out a b hb' e;rcases (hB v (hv3.out hA)).last with⟨_,h,_⟩ | ⟨_,_,h4,h5⟩
   ·omega
   ·exact absurd (by rw[hX.out,h4];exact zCw ha) (hp.out a)
 ·have key:∀a b,Small a->Small b->s.data.toList=text a b->a=0/\rim R.data.toList=some b:=by
   intro a b ha hb e;obtain⟨hA,hB⟩:=ht.out a b hb e;rcases (hB v (hv3.out hA)).last with⟨h1,_,h3⟩ | ⟨_,h2,_⟩
   ·exact ⟨h1,h3⟩
   ·omega
  clear hP hv2;replace key:=hide key;go_wp2_with (go_at_call 316;fail);cases hq:rim R.data.toList with
  | some q=>
   refine (rim_ok R hRs q hq _).mono ?_;rintro e w3 ⟨rfl,hb3⟩;replace hq:=hide hq;go_wp2;go_ret2;refine⟨_,_,_,rfl,by omega,zIx q,Or.inl rfl,fun a b ha hb' e=>?_,hb1.trans (hb3.mono hb1.size)⟩;obtain⟨e1,e2⟩:=key.out a b ha hb' e;have e3:=Option.some.inj (hq.out.symm.trans e2);subst e1;subst e3;exact⟨fl0.symm,rfl,rfl⟩
  | none=>
   refine (zQg R hRs hq _ hT1).mono ?_;rintro e w3 ⟨q,N,rfl,hb3⟩;replace hq:=hide hq;go_wp2;go_ret2;refine⟨_,_,_,rfl,by omega,zIx q,Or.inr ⟨N,rfl⟩,fun a b ha hb' e=>?_,hb1.trans (hb3.mono hb1.size)⟩;obtain⟨e1,e2⟩:=key.out a b ha hb' e;have:=hq.out.symm.trans e2;cases this
theorem zNy (s:ByteArray) (hs:s.size<=281474976710656) (w:World) (hT:Tabs w):
  Calls Tryz.prog 277 #[.string s] w (ReadPost s w):=by
 cases h:Lib.hasSuffix s.data.toList [105] with
 | false=>exact zPe s hs h w hT
 | true=>exact zSi s hs h w hT
theorem part_fl' {a:Int} (h:Small a):Part (fl a) a:=part_fl a h.lo h.hi
theorem zM2 {x:Nat} {a:Int} (h:Part x a):Small a:=⟨h.2.2.1,h.2.2.2⟩
def IsText (s:ByteArray):Prop:=∃a b,Small a/\Small b/\s.data.toList=text a b
theorem txt_eq {s:ByteArray} {l:List UInt8} (h:s.data.toList=l):s=txt l:=by
 subst h;exact ByteArray.ext (Array.ext' (by simp[txt]))
theorem zPq (s:ByteArray) (hs:s.size<=281474976710656) (a b:Int) (ha:Small a) (hb:Small b) (h:s.data.toList=text a b) (w:World) (hT:Tabs w):
  Calls Tryz.prog 246 #[.string s] w fun e w'=>e=.returned (.tuple #[.complex .f64 (fl a) (fl b),.int .i64 0])/\Below w.heap.size w w':=by
 have hR:=zNy s hs w hT;have hP:=fun w hT=>zJf (fl a) (fl b) a b ⟨part_fl' ha,part_fl' hb⟩ w hT
 rw[<-h] at hP;have e1:txt s.data.toList=s:=(txt_eq rfl).symm;rw[e1] at hP;have e2:(s.toList !=s.toList)=false:=by simp
 go_enter Tryz.func246,Tryz.ntmps246;go_wp2_with (go_at_call 277;fail);refine hR.mono ?_;intro e w1 hh;obtain⟨x,y,ev,rfl,hx,hy,_,hk,hb1⟩:=hh.out;obtain⟨rfl,rfl,rfl⟩:=hk a b ha hb h;clear hk hx hy hh h hR;have hT1:=hT.below hb1;go_wp2_with (go_at_call 256;refine (hP _ hT1).mono ?_;rintro e w2 ⟨rfl,hb2⟩);go_ret2;exact⟨rfl,hb1.trans (hb2.mono hb1.size)⟩
theorem parse_no (s:ByteArray) (hs:s.size<=281474976710656) (h:¬IsText s) (w:World) (hT:Tabs w):
  Calls Tryz.prog 246 #[.string s] w fun e w'=>e=.returned (.tuple #[.complex .f64 0 0,.int .i64 2])/\Below w.heap.size w w':=by
 have hR:=zNy s hs w hT;go_enter Tryz.func246,Tryz.ntmps246;go_wp2_with (go_at_call 277;fail);refine hR.mono ?_;intro e w1 hh;obtain⟨x,y,ev,rfl,hx,hy,hev,hk,hb1⟩:=hh.out;clear hk hh hR;have hT1:=hT.below hb1;rcases hev with rfl | ⟨N,rfl⟩
 ·rcases num_or x y hx hy with⟨a,b,hn⟩ | hn
  ·have hP:=fun w hT=>zJf x y a b hn w hT
   have hne:((txt (text a b)).toList==s.toList)=false:=by refine beq_false_of_ne ?_;rw[zAb,Lib.toList_data];intro e;exact h ⟨a,b,zM2 hn.1,zM2 hn.2,e.symm⟩
   generalize txt (text a b)=S at hP hne;clear hn hx hy h;go_wp2_with (go_at_call 256;refine (hP _ hT1).mono ?_;rintro e w2 ⟨rfl,hb2⟩);go_ret2;exact⟨rfl,hb1.trans (hb2.mono hb1.size)⟩
  ·have hP:=fun w=>print_no x y ⟨hx⟩ ⟨hy⟩ hn w
   clear hn hx hy h;go_wp2_with (go_at_call 256;refine (hP _).mono ?_;rintro e w2 ⟨rfl,hb2⟩);go_ret2;exact⟨rfl,hb1.trans (hb2.mono hb1.size)⟩
 ·unfold badV;go_wp2;go_ret2;exact⟨rfl,hb1⟩
end Go.Proofs.YtdkekamkmlpnhaaGreatDoor
