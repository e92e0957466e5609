/- Several texts in one: Sums, RefSums, Adds, Norm, Back, Whole, ReckA, Reck, Cmp, Comp, Prints, RefNum, RefParse, Parses. By an AI agent. -/
import Derived.Laws.ComplexArith
import Derived.BigQuiet
import Derived.Deep.QuietTactic
import Derived.Handy
import Derived.Deep.LoopGhost
import Derived.Test.YtdkekamkmlpnhaaGreatDoorMA
set_option linter.unusedSimpArgs false
set_option linter.unusedVariables false
set_option maxRecDepth 100000
set_option maxHeartbeats 16000000
namespace Go.Proofs.YtdkekamkmlpnhaaGreatDoor
open Go.RowKit Flt
def InB (n m:Int):Prop:=(-1000000<=n/\n<=1000000)/\(-1000000<=m/\m<=1000000)
theorem zAs (a b:Int) (h:InB a b) (w:World):
  Calls Tryz.prog 198 #[pairV a b] w fun e w'=>e=.returned (.bool true)/\w'=w.alloc (.cells #[.int .i64 a,.int .i64 b] 205):=by
 unfold pairV;obtain⟨⟨h1,h2⟩,h3,h4⟩:=h;go_enter Tryz.func198,Tryz.ntmps198;go_wp2;go_ret;exact⟨rfl,rfl⟩
theorem zAx (a b:Int) (h:¬InB a b) (w:World):
  Calls Tryz.prog 198 #[pairV a b] w fun e w'=>e=.returned (.bool false)/\w'=w.alloc (.cells #[.int .i64 a,.int .i64 b] 205):=by
 unfold pairV;have key:¬(-1000000<=a)\/((-1000000<=a)/\¬(a<=1000000))\/((-1000000<=a)/\(a<=1000000)/\¬(-1000000<=b))\/((-1000000<=a)/\(a<=1000000)/\(-1000000<=b)/\¬(b<=1000000)):=by
  unfold InB at h;omega
 clear h;rcases key with h1 | ⟨h1,h2⟩ | ⟨h1,h2,h3⟩ | ⟨h1,h2,h3,h4⟩
 all_goals
  go_enter Tryz.func198,Tryz.ntmps198;go_wp2;go_ret;exact⟨rfl,rfl⟩
def res (r i:Nat) (n m:Int) (v:Value):Prop:=(InB n m/\v=.tuple #[.complex .f64 r i,.int .i64 0])\/(¬InB n m/\v=.tuple #[.complex .f64 0 0,.int .i64 3])
structure Pr (w:World) (B:Nat) (a b:Int):Prop where
 c0:w.cell? ⟨B,0,none⟩=some (.int .i64 a)
 c1:w.cell? ⟨B,1,none⟩=some (.int .i64 b)
 lt:B<w.heap.size
theorem Pr.below {w w':World} {B:Nat} {a b:Int} (h:Pr w B a b) (hb:Below w.heap.size w w'):Pr w' B a b:=
 ⟨(hb.cell (p:=⟨B,0,none⟩) h.lt).trans h.c0,(hb.cell (p:=⟨B,1,none⟩) h.lt).trans h.c1,Nat.lt_of_lt_of_le h.lt hb.size⟩
theorem Pr.new (w:World) (a b:Int):Pr (w.alloc (.cells #[.int .i64 a,.int .i64 b] 205)) w.heap.size a b:=
 ⟨by rw[World.cell?_alloc_at (hn:=by simp)];rfl,by rw[World.cell?_alloc_at (hn:=by simp)];rfl,by simp⟩
def digs (l:List UInt8):List UInt8:=match l with
 | []=>[]
 | b::r=>if b=45\/b=43 then r else l
def isNeg (l:List UInt8):Bool:=match l with
 | []=>false
 | b::_=>b==45
def numP (l:List UInt8):Option Int:=if 1<=(digs l).length/\(digs l).length<=9 then (Lib.decFrom 0 (digs l)).map fun (n:Nat)=>if isNeg l then -(n:Int) else (n:Int) else none
theorem dec_digs (u:Nat):digs (Lib.decDigits u)=Lib.decDigits u/\isNeg (Lib.decDigits u)=false:=by
 obtain⟨x,r,h,hx⟩:=zA8 u;rw[h];have h1:=zA1 hx 45 (by decide);have h2:=zA1 hx 43 (by decide);constructor
 ·show (if x=45\/x=43 then r else x::r)=x::r;rw[if_neg (by rintro (e | e);exact h1 e;exact h2 e)]
 ·unfold isNeg;exact beq_false_of_ne h1
theorem zB7 {a:Int} (h:Small a):numP (Lib.itoa a)=some a:=by
 by_cases h0:0<=a
 ·rw [zA7 h0];obtain⟨e1,e2⟩:=dec_digs a.toNat;have hl:=zFz a.toNat (by have:=h.hi;omega);have hp:1<=(Lib.decDigits a.toNat).length:=by obtain⟨x,r,e,_⟩:=zA8 a.toNat;rw[e];simp
  unfold numP;rw[e1,e2,if_pos ⟨hp,by omega⟩,zDp];simp;omega
 ·rw [itoa_neg' (by omega)];have hl:=zFz a.natAbs (by have:=h.lo;omega);have hp:1<=(Lib.decDigits a.natAbs).length:=by obtain⟨x,r,e,_⟩:=zA8 a.natAbs;rw[e];simp
  have e1:digs (45::Lib.decDigits a.natAbs)=Lib.decDigits a.natAbs:=by simp[digs]
  have e2:isNeg (45::Lib.decDigits a.natAbs)=true:=rfl;unfold numP;rw[e1,e2,if_pos ⟨hp,by omega⟩,zDp];simp;omega
theorem zR0 {b:Int} (h:Small b) (h0:0<=b):numP (43::Lib.itoa b)=some b:=by
 rw[zA7 h0];have hl:=zFz b.toNat (by have:=h.hi;omega);have hp:1<=(Lib.decDigits b.toNat).length:=by obtain⟨x,r,e,_⟩:=zA8 b.toNat;rw[e];simp
 have e1:digs (43::Lib.decDigits b.toNat)=Lib.decDigits b.toNat:=by simp[digs]
 have e2:isNeg (43::Lib.decDigits b.toNat)=false:=rfl;unfold numP;rw[e1,e2,if_pos ⟨hp,by omega⟩,zDp];simp;omega
structure NumPost (s:ByteArray) (w:World) (e:Ending) (w':World):Prop where
 out:∃(n:Int) (ok:Bool),e=.returned (.tuple #[.int .i64 n,.bool ok])/\(-999999999<=n/\n<=999999999)/\numP s.data.toList=(if ok then some n else none)/\w'=w
theorem digit_lt {b:UInt8} {d:Nat} (h:Lib.digitVal b=some d):d<10/\(b.toNat:Int)=48+d:=by
 unfold Lib.digitVal at h;split at h
 ·injection h with h;omega
 ·cases h
theorem zA2:∀(l:List UInt8) (acc:Nat) (k:Nat) (b:UInt8),l[k]?=some b->Lib.digitVal b=none->Lib.decFrom acc l=none
 | [],_,_,_,h,_=>by simp at h
 | x::t,acc,0,b,h,hb=>by
  simp only[List.getElem?_cons_zero,Option.some.injEq] at h;subst h;simp[Lib.decFrom,hb]
 | x::t,acc,k+1,b,h,hb=>by
  simp only[List.getElem?_cons_succ] at h;simp only[Lib.decFrom];cases hx:Lib.digitVal x with
  | none=>rfl
  | some d=>exact zA2 t _ k b h hb
theorem zG0:∀(l:List UInt8) (n:Nat),Lib.decFrom 0 l=some n->l.length<=9->n<=999999999:=by
 have key:∀(l:List UInt8) (acc n:Nat),Lib.decFrom acc l=some n->n<(acc+1)*10 ^ l.length:=by
  intro l
  induction l with
  | nil=>intro acc n h;simp[Lib.decFrom] at h;subst h;simp
  | cons b r ih=>
   intro acc n h;simp only[Lib.decFrom] at h;cases hb:Lib.digitVal b with
   | none=>rw[hb] at h;cases h
   | some d=>
    rw[hb] at h;have:=ih _ _ h;have hd:=(digit_lt hb).1;have h2:(acc*10+d+1)*10 ^ r.length<=((acc+1)*10)*10 ^ r.length:=Nat.mul_le_mul_right _ (by omega);rw[List.length_cons,Nat.pow_succ,Nat.mul_comm (10 ^ r.length),<-Nat.mul_assoc];omega
 intro l n h hl;have:=key l 0 n h;have h2:10 ^ l.length<=10 ^ 9:=Nat.pow_le_pow_right (by omega) hl;omega
theorem zKo (s:ByteArray) (h:s.size=0) (w:World):
  Calls Tryz.prog 197 #[.string s] w (NumPost s w):=by
 have hnone:numP s.data.toList=none:=by have h1:=Lib.size_eq s;have h2:s.data.toList=[]:=List.length_eq_zero_iff.1 (by omega);rw[h2];rfl
 have h0:(s.size:Int)=0:=by omega
 go_enter Tryz.func197,Tryz.ntmps197;go_wp2;go_ret2;exact⟨0,false,rfl,by omega,hnone,rfl⟩
theorem zI3 (s:ByteArray) (b:UInt8) (r:List UInt8) (h:s.data.toList=b::r) (e45:((b.toNat:Int)==45)=false) (e43:((b.toNat:Int)==43)=false) (w:World):
  Calls Tryz.prog 197 #[.string s] w (NumPost s w):=by
 have hsz:=Lib.size_eq s;rw[h] at hsz;have hs0:0<s.size:=by rw[hsz];simp
 have hs1:(0:Int)<(s.size:Int):=by omega
 have hb0:s[0]'hs0=b:=by have h1:=Lib.data_getElem? s 0 hs0;rw[h] at h1;exact (Option.some.inj h1).symm
 have hne:¬(b=45\/b=43):=by
  rintro (e | e)
  ·subst e;simp at e45
  ·subst e;simp at e43
 have hnum:Hid (numP s.data.toList=if 1<=(b::r).length/\(b::r).length<=9 then (Lib.decFrom 0 (b::r)).map fun (n:Nat)=>(n:Int) else none):=by
  refine hide ?_;rw[h];unfold numP;have e1:digs (b::r)=b::r:=by
   show (if b=45\/b=43 then r else b::r)=b::r;rw[if_neg hne]
  have e2:isNeg (b::r)=false:=beq_false_of_ne (fun e=>hne (Or.inl e));rw[e1,e2];rfl
 have hSL:Hid (s.size=(b::r).length):=hide hsz;have hL:Hid ((b::r)=s.data.toList):=hide h.symm;clear h hsz hne;go_enter Tryz.func197,Tryz.ntmps197;by_cases hN1:s.size<1
 ·have hnone:numP s.data.toList=none:=by rw[hnum.out,if_neg (by rw[<-hSL.out];omega)]
  have h1:((s.size:Int)<1):=by omega
  go_wp2;go_ret2;exact⟨0,false,rfl,by omega,hnone,rfl⟩
 ·by_cases hN9:9<s.size
  ·have hnone:numP s.data.toList=none:=by rw[hnum.out,if_neg (by rw[<-hSL.out];omega)]
   have h1:¬((s.size:Int)<1):=by omega
   have h2:((9:Int)<(s.size:Int)):=by omega
   go_wp2;go_ret2;exact⟨0,false,rfl,by omega,hnone,rfl⟩
  ·have h1:¬((s.size:Int)<1):=by omega
   have h2:¬((9:Int)<(s.size:Int)):=by omega
   go_wp2
   go_loopg [4,6] s.size (fun g s4 s6 wx=>∃(i n:Nat),i+g=s.size/\s4=.int .i64 (n:Int)/\s6=.int .i64 (i:Int)/\wx=w/\Hid (Lib.decFrom 0 ((b::r).take i)=some n)/\n<=999999999)
   case atStart=>exact⟨0,0,by omega,rfl,rfl,rfl,hide rfl,by omega⟩
   case round=>
    obtain⟨i,n,hig,rfl,rfl,rfl,hdec,hn9⟩:=hrel;cases gk with
    | zero=>
     obtain rfl:i=s.size:=by omega
     have hiz:¬((s.size:Int)<(s.size:Int)):=(by omega);have hd:Lib.decFrom 0 (b::r)=some n:=(by have:=hdec.out;rw[List.take_of_length_le (by rw[<-hSL.out];exact Nat.le_refl _)] at this;exact this);have hsome:numP s.data.toList=some ((n:Int)):=(by rw[hnum.out,if_pos (by rw[<-hSL.out];omega),hd];rfl);replace hsome:=hide hsome;go_wp2;go_ret2;exact⟨(n:Int),true,rfl,by omega,hsome.out,rfl⟩
    | succ g=>
     have hi:i<s.size:=(by omega);have hiz:(i:Int)<(s.size:Int):=(by omega);obtain⟨x,hx⟩:∃x:UInt8,s[i]'hi=x:=⟨_,rfl⟩;have hxl:(b::r)[i]?=some x:=by rw[hL.out,<-hx];exact Lib.data_getElem? s i hi
     have Hx:=hide hxl;clear hxl;by_cases hd1:(x.toNat:Int)<48
     ·have hnone:numP s.data.toList=none:=by
       rw[hnum.out,if_pos (by rw[<-hSL.out];omega),zA2 _ 0 i x Hx.out (by unfold Lib.digitVal;rw[if_neg (by omega)])];rfl
      replace hnone:=hide hnone;go_wp2;go_ret2;exact⟨0,false,rfl,by omega,hnone.out,rfl⟩
     ·by_cases hd2:(57:Int)<(x.toNat:Int)
      ·have hnone:numP s.data.toList=none:=by
        rw[hnum.out,if_pos (by rw[<-hSL.out];omega),zA2 _ 0 i x Hx.out (by unfold Lib.digitVal;rw[if_neg (by omega)])];rfl
       replace hnone:=hide hnone;go_wp2;go_ret2;exact⟨0,false,rfl,by omega,hnone.out,rfl⟩
      ·have hv:Lib.digitVal x=some (x.toNat-48):=by unfold Lib.digitVal;rw[if_pos (by omega)]
       have hdn:=Lib.decFrom_take (b::r) i 0 n x (x.toNat-48) hdec.out Hx.out hv;have hb9:=zG0 _ _ hdn (by rw[List.length_take];omega);replace hdn:=hide hdn;go_wp2
       go_roundg g
       case measure=>omega
       case rel=>exact⟨i+1,n*10+(x.toNat-48),by omega,by go_num,by go_num,rfl,hdn,hb9⟩
theorem zI4 (s:ByteArray) (b:UInt8) (r:List UInt8) (h:s.data.toList=b::r) (e45:b=45) (w:World):
  Calls Tryz.prog 197 #[.string s] w (NumPost s w):=by
 have hsz:=Lib.size_eq s;rw[h] at hsz;have hs0:0<s.size:=by rw[hsz];simp
 have hs1:(0:Int)<(s.size:Int):=by omega
 have hb0:s[0]'hs0=b:=by have h1:=Lib.data_getElem? s 0 hs0;rw[h] at h1;exact (Option.some.inj h1).symm
 subst e45;have hnum:Hid (numP s.data.toList=if 1<=r.length/\r.length<=9 then (Lib.decFrom 0 r).map fun (n:Nat)=> -(n:Int) else none):=by
  refine hide ?_;rw[h];rfl
 have hXl:(s.extract 1 s.size).data.toList=r:=by rw[zDa,h];rfl
 have hXs:(s.extract 1 s.size).size=s.size-1:=by rw[ByteArray.size_extract];omega
 have hSL:(s.extract 1 s.size).size=r.length:=by rw[Lib.size_eq,hXl]
 have hs2:(1:Int)<=(s.size:Int):=by omega
 have hn1:((1:Int)).toNat=1:=rfl;generalize hX:s.extract 1 s.size=X at *;replace hSL:=hide hSL;replace hXl:=hXl.symm;have hL:Hid (r=X.data.toList):=hide hXl;clear h hsz hXl hXs;go_enter Tryz.func197,Tryz.ntmps197;by_cases hN1:X.size<1
 ·have hnone:numP s.data.toList=none:=by rw[hnum.out,if_neg (by rw[<-hSL.out];omega)]
  have h1:((X.size:Int)<1):=by omega
  go_wp2;go_ret2;exact⟨0,false,rfl,by omega,hnone,rfl⟩
 ·by_cases hN9:9<X.size
  ·have hnone:numP s.data.toList=none:=by rw[hnum.out,if_neg (by rw[<-hSL.out];omega)]
   have h1:¬((X.size:Int)<1):=by omega
   have h2:((9:Int)<(X.size:Int)):=by omega
   go_wp2;go_ret2;exact⟨0,false,rfl,by omega,hnone,rfl⟩
  ·have h1:¬((X.size:Int)<1):=by omega
   have h2:¬((9:Int)<(X.size:Int)):=by omega
   go_wp2
   go_loopg [4,6] X.size (fun g s4 s6 wx=>∃(i n:Nat),i+g=X.size/\s4=.int .i64 (n:Int)/\s6=.int .i64 (i:Int)/\wx=w/\Hid (Lib.decFrom 0 (r.take i)=some n)/\n<=999999999)
   case atStart=>exact⟨0,0,by omega,rfl,rfl,rfl,hide rfl,by omega⟩
   case round=>
    obtain⟨i,n,hig,rfl,rfl,rfl,hdec,hn9⟩:=hrel;cases gk with
    | zero=>
     obtain rfl:i=X.size:=by omega
     have hiz:¬((X.size:Int)<(X.size:Int)):=(by omega);have hd:Lib.decFrom 0 r=some n:=(by have:=hdec.out;rw[List.take_of_length_le (by rw[<-hSL.out];exact Nat.le_refl _)] at this;exact this);have hsome:numP s.data.toList=some (-(n:Int)):=(by rw[hnum.out,if_pos (by rw[<-hSL.out];omega),hd];rfl);replace hsome:=hide hsome;go_wp2;go_ret2;exact⟨-(n:Int),true,rfl,by omega,hsome.out,rfl⟩
    | succ g=>
     have hi:i<X.size:=(by omega);have hiz:(i:Int)<(X.size:Int):=(by omega);obtain⟨x,hx⟩:∃x:UInt8,X[i]'hi=x:=⟨_,rfl⟩;have hxl:r[i]?=some x:=by rw[hL.out,<-hx];exact Lib.data_getElem? X i hi
     have Hx:=hide hxl;clear hxl;by_cases hd1:(x.toNat:Int)<48
     ·have hnone:numP s.data.toList=none:=by
       rw[hnum.out,if_pos (by rw[<-hSL.out];omega),zA2 _ 0 i x Hx.out (by unfold Lib.digitVal;rw[if_neg (by omega)])];rfl
      replace hnone:=hide hnone;go_wp2;go_ret2;exact⟨0,false,rfl,by omega,hnone.out,rfl⟩
     ·by_cases hd2:(57:Int)<(x.toNat:Int)
      ·have hnone:numP s.data.toList=none:=by
        rw[hnum.out,if_pos (by rw[<-hSL.out];omega),zA2 _ 0 i x Hx.out (by unfold Lib.digitVal;rw[if_neg (by omega)])];rfl
       replace hnone:=hide hnone;go_wp2;go_ret2;exact⟨0,false,rfl,by omega,hnone.out,rfl⟩
      ·have hv:Lib.digitVal x=some (x.toNat-48):=by unfold Lib.digitVal;rw[if_pos (by omega)]
       have hdn:=Lib.decFrom_take r i 0 n x (x.toNat-48) hdec.out Hx.out hv;have hb9:=zG0 _ _ hdn (by rw[List.length_take];omega);replace hdn:=hide hdn;go_wp2
       go_roundg g
       case measure=>omega
       case rel=>exact⟨i+1,n*10+(x.toNat-48),by omega,by go_num,by go_num,rfl,hdn,hb9⟩
theorem zLm (s:ByteArray) (b:UInt8) (r:List UInt8) (h:s.data.toList=b::r) (e43:b=43) (w:World):
  Calls Tryz.prog 197 #[.string s] w (NumPost s w):=by
 have hsz:=Lib.size_eq s;rw[h] at hsz;have hs0:0<s.size:=by rw[hsz];simp
 have hs1:(0:Int)<(s.size:Int):=by omega
 have hb0:s[0]'hs0=b:=by have h1:=Lib.data_getElem? s 0 hs0;rw[h] at h1;exact (Option.some.inj h1).symm
 subst e43;have hnum:Hid (numP s.data.toList=if 1<=r.length/\r.length<=9 then (Lib.decFrom 0 r).map fun (n:Nat)=>(n:Int) else none):=by
  refine hide ?_;rw[h];rfl
 have hXl:(s.extract 1 s.size).data.toList=r:=by rw[zDa,h];rfl
 have hXs:(s.extract 1 s.size).size=s.size-1:=by rw[ByteArray.size_extract];omega
 have hSL:(s.extract 1 s.size).size=r.length:=by rw[Lib.size_eq,hXl]
 have hs2:(1:Int)<=(s.size:Int):=by omega
 have hn1:((1:Int)).toNat=1:=rfl;generalize hX:s.extract 1 s.size=X at *;replace hSL:=hide hSL;replace hXl:=hXl.symm;have hL:Hid (r=X.data.toList):=hide hXl;clear h hsz hXl hXs;go_enter Tryz.func197,Tryz.ntmps197;by_cases hN1:X.size<1
 ·have hnone:numP s.data.toList=none:=by rw[hnum.out,if_neg (by rw[<-hSL.out];omega)]
  have h1:((X.size:Int)<1):=by omega
  go_wp2;go_ret2;exact⟨0,false,rfl,by omega,hnone,rfl⟩
 ·by_cases hN9:9<X.size
  ·have hnone:numP s.data.toList=none:=by rw[hnum.out,if_neg (by rw[<-hSL.out];omega)]
   have h1:¬((X.size:Int)<1):=by omega
   have h2:((9:Int)<(X.size:Int)):=by omega
   go_wp2;go_ret2;exact⟨0,false,rfl,by omega,hnone,rfl⟩
  ·have h1:¬((X.size:Int)<1):=by omega
   have h2:¬((9:Int)<(X.size:Int)):=by omega
   go_wp2
   go_loopg [4,6] X.size (fun g s4 s6 wx=>∃(i n:Nat),i+g=X.size/\s4=.int .i64 (n:Int)/\s6=.int .i64 (i:Int)/\wx=w/\Hid (Lib.decFrom 0 (r.take i)=some n)/\n<=999999999)
   case atStart=>exact⟨0,0,by omega,rfl,rfl,rfl,hide rfl,by omega⟩
   case round=>
    obtain⟨i,n,hig,rfl,rfl,rfl,hdec,hn9⟩:=hrel;cases gk with
    | zero=>
     obtain rfl:i=X.size:=by omega
     have hiz:¬((X.size:Int)<(X.size:Int)):=(by omega);have hd:Lib.decFrom 0 r=some n:=(by have:=hdec.out;rw[List.take_of_length_le (by rw[<-hSL.out];exact Nat.le_refl _)] at this;exact this);have hsome:numP s.data.toList=some ((n:Int)):=(by rw[hnum.out,if_pos (by rw[<-hSL.out];omega),hd];rfl);replace hsome:=hide hsome;go_wp2;go_ret2;exact⟨(n:Int),true,rfl,by omega,hsome.out,rfl⟩
    | succ g=>
     have hi:i<X.size:=(by omega);have hiz:(i:Int)<(X.size:Int):=(by omega);obtain⟨x,hx⟩:∃x:UInt8,X[i]'hi=x:=⟨_,rfl⟩;have hxl:r[i]?=some x:=by rw[hL.out,<-hx];exact Lib.data_getElem? X i hi
     have Hx:=hide hxl;clear hxl;by_cases hd1:(x.toNat:Int)<48
     ·have hnone:numP s.data.toList=none:=by
       rw[hnum.out,if_pos (by rw[<-hSL.out];omega),zA2 _ 0 i x Hx.out (by unfold Lib.digitVal;rw[if_neg (by omega)])];rfl
      replace hnone:=hide hnone;go_wp2;go_ret2;exact⟨0,false,rfl,by omega,hnone.out,rfl⟩
     ·by_cases hd2:(57:Int)<(x.toNat:Int)
      ·have hnone:numP s.data.toList=none:=by
        rw[hnum.out,if_pos (by rw[<-hSL.out];omega),zA2 _ 0 i x Hx.out (by unfold Lib.digitVal;rw[if_neg (by omega)])];rfl
       replace hnone:=hide hnone;go_wp2;go_ret2;exact⟨0,false,rfl,by omega,hnone.out,rfl⟩
      ·have hv:Lib.digitVal x=some (x.toNat-48):=by unfold Lib.digitVal;rw[if_pos (by omega)]
       have hdn:=Lib.decFrom_take r i 0 n x (x.toNat-48) hdec.out Hx.out hv;have hb9:=zG0 _ _ hdn (by rw[List.length_take];omega);replace hdn:=hide hdn;go_wp2
       go_roundg g
       case measure=>omega
       case rel=>exact⟨i+1,n*10+(x.toNat-48),by omega,by go_num,by go_num,rfl,hdn,hb9⟩
theorem zC8 (s:ByteArray) (w:World):Calls Tryz.prog 197 #[.string s] w (NumPost s w):=by
 have hsz:=Lib.size_eq s;cases h:s.data.toList with
 | nil=>exact zKo s (by rw[hsz,h];rfl) w
 | cons b r=>
  by_cases e45:b=45
  ·exact zI4 s b r h e45 w
  ·by_cases e43:b=43
   ·exact zLm s b r h e43 w
   ·refine zI3 s b r h ?_ ?_ w
    ·exact beq_false_of_ne (fun e=>e45 (UInt8.toNat_inj.1 (by simp;omega)))
    ·exact beq_false_of_ne (fun e=>e43 (UInt8.toNat_inj.1 (by simp;omega)))
def rimR (l:List UInt8):Option Int:=if l=[]\/l=[43] then some 1 else if l=[45] then some (-1) else numP l
theorem zMq {b:Int} (h:Small b):rimR (pre b)=some b:=by
 unfold pre;split
 ·rename_i h1;subst h1;rfl
 ·split
  ·rename_i h1;subst h1;rfl
  ·unfold rimR;have hn:=zDl b;rw[if_neg (by rintro (e | e);exact hn.1 e;exact hn.2.1 e),if_neg hn.2.2,zB7 h]
theorem zQ9 {b:Int} (h:Small b) (h0:0<b):rimR (43::pre b)=some b:=by
 unfold pre;split
 ·rename_i h1;subst h1;rfl
 ·rw [if_neg (by omega)];unfold rimR;have hn:=zDl b;rw[if_neg,if_neg,zR0 h (by omega)]
  ·intro e;injection e with e1 e2;exact absurd e1 (by decide)
  ·rintro (e | e)
   ·cases e
   ·injection e with e1 e2;exact hn.1 e2
def AtUp (l:List UInt8) (i v:Nat):Prop:=(v=0/\∀(j:Nat) x,1<=j->j<i->l[j]?=some x->x≠43/\x≠45)\/
 (0<v/\v<i/\(∃x,l[v]?=some x/\(x=43\/x=45))/\∀(j:Nat) x,v<j->j<i->l[j]?=some x->x≠43/\x≠45)
theorem AtUp.start (l:List UInt8):AtUp l 1 0:=Or.inl ⟨rfl,fun j x h1 h2=>by omega⟩
theorem AtUp.hit {l:List UInt8} {i:Nat} (hi:1<=i) {x:UInt8} (hx:l[i]?=some x) (hs:x=43\/x=45):AtUp l (i+1) i:=
 Or.inr ⟨by omega,by omega,⟨x,hx,hs⟩,fun j y h1 h2=>by omega⟩
theorem AtUp.miss {l:List UInt8} {i v:Nat} (h:AtUp l i v) {x:UInt8} (hx:l[i]?=some x) (hs:x≠43/\x≠45):AtUp l (i+1) v:=by
 rcases h with⟨h1,h2⟩ | ⟨h1,h2,h3,h4⟩
 ·refine Or.inl ⟨h1,fun j y a b c=>?_⟩;rcases Nat.lt_or_ge j i with h | h
  ·exact h2 j y a h c
  ·obtain rfl:j=i:=by omega
   rw[hx] at c;cases c;exact hs
 ·refine Or.inr ⟨h1,by omega,h3,fun j y a b c=>?_⟩;rcases Nat.lt_or_ge j i with h | h
  ·exact h4 j y a h c
  ·obtain rfl:j=i:=by omega
   rw[hx] at c;cases c;exact hs
theorem at_at {u t:List UInt8} {c:UInt8} (hu:0<u.length) (hc:c=43\/c=45) (ht:NoSign t) {v:Nat} (hv:AtUp (u++c::t) (u++c::t).length v):v=u.length:=by
 have hcu:(u++c::t)[u.length]?=some c:=by simp
 have hlen:u.length<(u++c::t).length:=by simp
 have hns:¬(c≠43/\c≠45):=by rintro ⟨h1,h2⟩;rcases hc with h | h;exact h1 h;exact h2 h
 rcases hv with⟨_,h⟩ | ⟨h1,h2,⟨x,hx,hs⟩,h4⟩
 ·exact absurd (h u.length c (by omega) hlen hcu) hns
 ·rcases Nat.lt_trichotomy v u.length with h | h | h
  ·exact absurd (h4 u.length c h hlen hcu) hns
  ·exact h
  ·exfalso;rw[List.getElem?_append_right (by omega)] at hx;obtain⟨j,hj⟩:∃j,v-u.length=j+1:=⟨v-u.length-1,by omega⟩;rw[hj,List.getElem?_cons_succ] at hx;have:=ht x (List.mem_of_getElem? hx);rcases hs with rfl | rfl
   ·exact this.1 rfl
   ·exact this.2 rfl
theorem zPm {p t:List UInt8} (hp:p.length<=1) (ht:NoSign t) {v:Nat} {n:Nat} (hv:AtUp (p++t) n v):v=0:=by
 rcases hv with⟨h,_⟩ | ⟨h1,h2,⟨x,hx,hs⟩,_⟩
 ·exact h
 ·exfalso;rw[List.getElem?_append_right (by omega)] at hx;have:=ht x (List.mem_of_getElem? hx);rcases hs with rfl | rfl
  ·exact this.1 rfl
  ·exact this.2 rfl
theorem zFg {t:List UInt8} (h:NoSign t):NoSign (t++[105]):=by
 intro x hx;rcases List.mem_append.1 hx with hx | hx
 ·exact h x hx
 ·simp at hx;subst hx;decide
theorem zLk {a b:Int} (hb:Small b) (hb0:b≠0) {v:Nat} (hv:AtUp (body a b++[105]) (body a b++[105]).length v):
  (a=0/\v=0/\rimR (body a b)=some b)\/(a≠0/\0<v/\(body a b).take v=Lib.itoa a/\rimR ((body a b).drop v)=some b):=by
 by_cases ha:a=0
 ·left;have e:body a b=pre b:=by unfold body;rw[if_pos ha]
  rw[e] at hv ⊢;refine⟨ha,?_,zMq hb⟩;rcases zCb b with⟨_,h⟩ | ⟨_,r,h,hr⟩
  ·exact zPm (p:=[]) (by simp) (zFg h) hv
  ·rw [h] at hv;exact zPm (p:=[45]) (by simp) (zFg hr) hv
 ·right;have hl:0<(Lib.itoa a).length:=List.length_pos_iff.2 (zDl a).1;have key:v=(Lib.itoa a).length/\∃z,body a b=Lib.itoa a++z/\rimR z=some b:=by
   unfold body at hv ⊢;rw[if_neg ha] at hv ⊢;by_cases hp:0<b
   ·rw [if_pos hp] at hv ⊢;rcases zCb b with⟨_,h⟩ | ⟨h0,_⟩
    ·rw [List.append_assoc,List.cons_append] at hv;exact⟨at_at hl (Or.inl rfl) (zFg h) hv,_,rfl,zQ9 hb hp⟩
    ·omega
   ·rw [if_neg hp] at hv ⊢;rcases zCb b with⟨h0,h⟩ | ⟨_,r,h,hr⟩
    ·omega
    ·refine ⟨?_,_,rfl,zMq hb⟩;rw[h,List.append_assoc,List.cons_append] at hv;exact at_at hl (Or.inr rfl) (zFg hr) hv
  obtain⟨h1,z,h2,h3⟩:=key;subst h1;refine⟨ha,hl,?_,?_⟩
  ·rw [h2];simp
  ·rw [h2];simpa using h3
structure RPost (s:ByteArray) (w:World) (e:Ending) (w':World):Prop where
 out:∃(p q f:Int),e=.returned (.tuple #[.agg #[.int .i64 p,.int .i64 q],.int .i64 f])/\((f=0/\Small p/\Small q/\s.data.toList=text p q)\/(f=2/\p=0/\q=0/\¬IsText s))/\Below w.heap.size w w'
theorem zBi (a b:Int) (ha:Small a) (hb:Small b) (w:World) (hT:Tabs w):
  Calls Tryz.prog 199 #[.agg #[.int .i64 a,.int .i64 b]] w fun e w'=>e=.returned (.string (txt (text a b)))/\Below w.heap.size w w':=
 text_any a b ⟨by have:=ha.lo;omega,by have:=ha.hi;omega⟩ ⟨by have:=hb.lo;omega,by have:=hb.hi;omega⟩ w hT
theorem zA4 {a b:Int} (h:InB a b):Small a/\Small b:=⟨⟨h.1.1,h.1.2⟩,h.2.1,h.2.2⟩
theorem zA5 {a b:Int} (ha:Small a) (hb:Small b):InB a b:=⟨⟨ha.lo,ha.hi⟩,hb.lo,hb.hi⟩
def NotI (s:ByteArray):Prop:=∀r,s.data.toList≠r++[105]
theorem zF2 {s:ByteArray} (h:NotI s) {a b:Int} (e:s.data.toList=text a b):b=0/\s.data.toList=Lib.itoa a:=by
 by_cases hb:b=0
 ·subst hb;refine⟨rfl,?_⟩;rw[e];unfold text;rw[if_pos rfl]
 ·exfalso;rw[zCa hb] at e;exact h _ e
structure Pf (w:World) (B:Nat) (a b:Int):Prop where
 pr:Pr w B a b
 f0:w.frozen? ⟨B,0,none⟩=false
 f1:w.frozen? ⟨B,1,none⟩=false
theorem Pf.below {w w':World} {B:Nat} {a b:Int} (h:Pf w B a b) (hb:Below w.heap.size w w'):Pf w' B a b:=
 ⟨h.pr.below hb,(hb.frozen (p:=⟨B,0,none⟩) h.pr.lt).trans h.f0,(hb.frozen (p:=⟨B,1,none⟩) h.pr.lt).trans h.f1⟩
theorem Pf.old {w:World} {B:Nat} {a b:Int} (h:Pf w B a b) (o:Obj):Pf (w.alloc o) B a b:=h.below (below1 w o)
theorem Pf.new (w:World) (a b:Int):Pf (w.alloc (.cells #[.int .i64 a,.int .i64 b] 205)) w.heap.size a b:=
 ⟨Pr.new w a b,World.frozen?_alloc_at _ _ _ _ rfl,World.frozen?_alloc_at _ _ _ _ rfl⟩
theorem zAj {w:World} {B:Nat} {u v:Value} (c0:w.cell? ⟨B,0,none⟩=some u) (c1:w.cell? ⟨B,1,none⟩=some v) (a b:Value):
  ((w.setCell ⟨B,0,none⟩ a).setCell ⟨B,1,none⟩ b).cell? ⟨B,0,none⟩=some a/\((w.setCell ⟨B,0,none⟩ a).setCell ⟨B,1,none⟩ b).cell? ⟨B,1,none⟩=some b:=by
 have h0:(w.setCell ⟨B,0,none⟩ a).cell? ⟨B,0,none⟩=some a:=World.cell?_setCell_same _ _ _ c0;have h1:(w.setCell ⟨B,0,none⟩ a).cell? ⟨B,1,none⟩=some v:=(World.cell?_setCell_other _ ⟨B,0,none⟩ ⟨B,1,none⟩ _ (by intro h;cases h)).trans c1;exact⟨(World.cell?_setCell_other _ ⟨B,1,none⟩ ⟨B,0,none⟩ _ (by intro h;cases h)).trans h0,World.cell?_setCell_same _ _ _ h1⟩
theorem zJ5 (s:ByteArray) (h:s.size=0) (w:World) (hT:Tabs w):
  Calls Tryz.prog 167 #[.string s] w (RPost s w):=by
 have h0:(s.size:Int)=0:=by omega
 have hl:s.data.toList=[]:=List.length_eq_zero_iff.1 (by rw[<-Lib.size_eq];exact h);have hkey:Hid (∀a b,Small a->Small b->s.data.toList=text a b->(0:Int)=a/\(0:Int)=b):=hide (by
  intro a b ha hb e
  obtain⟨_,e2⟩:=zF2 (s:=s) (fun r e=>by rw[hl] at e;simp at e) e
  rw[hl] at e2
  exact absurd e2.symm (zDl a).1)
 clear hl h;go_enter Tryz.func167,Tryz.ntmps167;go_wp2_with (go_at_call 198;fail);by_cases hin:InB 0 0
 ·have hS:=zA4 hin;have hW:=fun w=>zAs 0 0 hin w
  unfold pairV at hW;have hX:=fun w hT=>zBi 0 0 hS.1 hS.2 w hT
  by_cases he:s.data.toList=text 0 0
  ·have hq:((txt (text 0 0)).toList==s.toList)=true:=by rw[zAb,Lib.toList_data,he];exact beq_self_eq_true _
   have hfin:Hid (Small 0/\Small 0/\s.data.toList=text 0 0):=hide ⟨hS.1,hS.2,he⟩;generalize txt (text 0 0)=S at hX hq;clear he hin hS hkey;go_wp2_with (first
    |(go_at_call 198;refine (hW _).mono ?_;rintro e w1 ⟨rfl,rfl⟩)
    |(go_at_call 199;fail))
   have hP0:=((Pf.new w 0 0).old (.cells #[.int .i64 0,.int .i64 0] 205)).old (.cells #[.int .i64 0,.int .i64 0] 205);have hP1:=(Pf.new (w.alloc (.cells #[.int .i64 0,.int .i64 0] 205)) 0 0).old (.cells #[.int .i64 0,.int .i64 0] 205);have hsz:(w.alloc (.cells #[.int .i64 0,.int .i64 0] 205)).heap.size=w.heap.size+1:=by simp
   rw[hsz] at hP1;have hc:=(below2 w (.cells #[.int .i64 0,.int .i64 0] 205) (.cells #[.int .i64 0,.int .i64 0] 205)).trans ((below1 _ (.cells #[.int .i64 0,.int .i64 0] 205)).mono (by simp<;>omega));have hT3:=hT.below hc;clear hsz;generalize ((w.alloc (.cells #[.int .i64 0,.int .i64 0] 205)).alloc (.cells #[.int .i64 0,.int .i64 0] 205)).alloc (.cells #[.int .i64 0,.int .i64 0] 205)=w3 at *;refine (hX _ hT3).mono ?_;rintro e w5 ⟨rfl,hb5⟩;have hc5:=hc.trans (hb5.mono hc.size);obtain⟨⟨c0,c1,_⟩,f0,f1⟩:=hP0.below hb5;obtain⟨⟨c2,c3,_⟩,_,_⟩:=hP1.below hb5;clear hP0 hP1 hb5 hX hW hT hT3 hc;go_wp2
   (try simp only[Exit.inBlock,Exit.then])
   obtain⟨g0,g1⟩:=zAj c0 c1 (.int .i64 0) (.int .i64 0);have hbe:=(hc5.setCell (p:=⟨w.heap.size,0,none⟩) (Nat.le_refl _) (.int .i64 0)).setCell (p:=⟨w.heap.size,1,none⟩) (Nat.le_refl _) (.int .i64 0);refine bodyPost_ret (v:=.tuple #[.agg #[.int .i64 0,.int .i64 0],.int .i64 0]) ?_ rfl ⟨0,0,0,rfl,Or.inl ⟨rfl,hfin.out.1,hfin.out.2.1,hfin.out.2.2⟩,hbe⟩;rw[results_cell_tmp rfl];go_simp
  ·have hnt:Hid (¬IsText s):=hide (by
    rintro ⟨a,b,ha,hb,e⟩
    obtain⟨e1,e2⟩:=hkey.out a b ha hb e
    exact he (e.trans (congr (congrArg text e1) e2).symm))
   have hq:((txt (text 0 0)).toList==s.toList)=false:=beq_false_of_ne (by rw[zAb,Lib.toList_data];exact fun e=>he e.symm);generalize txt (text 0 0)=S at hX hq;clear he hin hS hkey;go_wp2_with (first
    |(go_at_call 198;refine (hW _).mono ?_;rintro e w1 ⟨rfl,rfl⟩)
    |(go_at_call 199;fail))
   have hP0:=((Pf.new w 0 0).old (.cells #[.int .i64 0,.int .i64 0] 205)).old (.cells #[.int .i64 0,.int .i64 0] 205);have hP1:=(Pf.new (w.alloc (.cells #[.int .i64 0,.int .i64 0] 205)) 0 0).old (.cells #[.int .i64 0,.int .i64 0] 205);have hsz:(w.alloc (.cells #[.int .i64 0,.int .i64 0] 205)).heap.size=w.heap.size+1:=by simp
   rw[hsz] at hP1;have hc:=(below2 w (.cells #[.int .i64 0,.int .i64 0] 205) (.cells #[.int .i64 0,.int .i64 0] 205)).trans ((below1 _ (.cells #[.int .i64 0,.int .i64 0] 205)).mono (by simp<;>omega));have hT3:=hT.below hc;clear hsz;generalize ((w.alloc (.cells #[.int .i64 0,.int .i64 0] 205)).alloc (.cells #[.int .i64 0,.int .i64 0] 205)).alloc (.cells #[.int .i64 0,.int .i64 0] 205)=w3 at *;refine (hX _ hT3).mono ?_;rintro e w5 ⟨rfl,hb5⟩;have hc5:=hc.trans (hb5.mono hc.size);obtain⟨⟨c0,c1,_⟩,f0,f1⟩:=hP0.below hb5;obtain⟨⟨c2,c3,_⟩,_,_⟩:=hP1.below hb5;clear hP0 hP1 hb5 hX hW hT hT3 hc;go_wp2
   (try simp only[Exit.inBlock,Exit.then])
   obtain⟨g0,g1⟩:=zAj c0 c1 (.int .i64 0) (.int .i64 0);have hbe:=(hc5.setCell (p:=⟨w.heap.size,0,none⟩) (Nat.le_refl _) (.int .i64 0)).setCell (p:=⟨w.heap.size,1,none⟩) (Nat.le_refl _) (.int .i64 0);refine bodyPost_ret (v:=.tuple #[.agg #[.int .i64 0,.int .i64 0],.int .i64 2]) ?_ rfl ⟨0,0,2,rfl,Or.inr ⟨rfl,rfl,rfl,hnt.out⟩,hbe⟩;rw[results_cell_tmp rfl];go_simp
 ·have hnt:Hid (¬IsText s):=hide (by
   rintro ⟨a,b,ha,hb,e⟩
   obtain⟨e1,e2⟩:=hkey.out a b ha hb e
   exact hin (Eq.mpr (congr (congrArg InB e1) e2) (zA5 ha hb)))
  have hW:=fun w=>zAx 0 0 hin w
  unfold pairV at hW;clear hin hkey;go_wp2_with (go_at_call 198;refine (hW _).mono ?_;rintro e w1 ⟨rfl,rfl⟩)
  (try simp only[Exit.inBlock,Exit.then])
  refine bodyPost_ret (v:=.tuple #[.agg #[.int .i64 0,.int .i64 0],.int .i64 2]) ?_ rfl ⟨0,0,2,rfl,Or.inr ⟨rfl,rfl,rfl,hnt.out⟩,?_⟩
  ·rw [results_cell_tmp rfl];go_simp
  ·repeat' (first | exact Below.refl _ _ | refine Below.alloc ?_ (by simp<;>omega) _)
theorem zJw (s:ByteArray) (h1:0<s.size) (hs:s.size<=281474976710656) (h:NotI s) (w:World) (hT:Tabs w):
  Calls Tryz.prog 167 #[.string s] w (RPost s w):=by
 have hs1:(0:Int)<(s.size:Int):=by omega
 obtain⟨m,hm⟩:∃m,s.size=m+1:=⟨s.size-1,by omega⟩;have hmi:(s.size:Int)-1=(m:Int):=by omega
 have hml:m<s.size:=by omega
 have hmz:(m:Int)<(s.size:Int):=by omega
 obtain⟨x,hx⟩:∃x:UInt8,s[m]'hml=x:=⟨_,rfl⟩;have hxl:s.data.toList[m]?=some x:=by rw[<-hx];exact Lib.data_getElem? s m hml
 have hlen:s.data.toList.length=m+1:=by rw[<-Lib.size_eq];exact hm
 have hx105:((x.toNat:Int)==105)=false:=by refine beq_false_of_ne (fun e=>?_);have e1:x=105:=UInt8.toNat_inj.1 (by simp;omega);subst e1;refine h (s.data.toList.take m) ?_;rw[<-zE8 hxl,List.take_of_length_le (by omega)]
 have hX:(s.extract 0 s.size).data.toList=s.data.toList:=by rw[zC0,List.take_of_length_le (by rw[<-Lib.size_eq];exact Nat.le_refl _)]
 have hsn:((s.size:Nat):Int).toNat=s.size:=by omega
 generalize hgx:s.extract 0 s.size=X at hX;have hno:Hid (numP X.data.toList=none->¬IsText s):=hide (by
  rintro e ⟨a,b,ha,hb,e2⟩
  obtain⟨_,e3⟩:=zF2 h e2
  rw[hX,e3,zB7 ha] at e
  cases e)
 have hyes:Hid (∀n,numP X.data.toList=some n->∀a b,Small a->Small b->s.data.toList=text a b->n=a/\(0:Int)=b):=hide (by
  intro n e a b ha hb e2
  obtain⟨e4,e3⟩:=zF2 h e2
  rw[hX,e3,zB7 ha] at e
  exact⟨(Option.some.inj e).symm,e4.symm⟩)
 clear hX hxl hlen h hm h1;go_enter Tryz.func167,Tryz.ntmps167;go_wp2_with (go_at_call 197;fail);refine (zC8 X _).mono ?_;intro e w1 hh;obtain⟨n,ok,rfl,hnb,hnp,rfl⟩:=hh.out;clear hh;cases ok with
 | false=>
  have hnt:Hid (¬IsText s):=hide (hno.out hnp);clear hno hyes hnp;go_wp2
  (try simp only[Exit.inBlock,Exit.then])
  refine bodyPost_ret (v:=.tuple #[.agg #[.int .i64 0,.int .i64 0],.int .i64 2]) ?_ rfl ⟨0,0,2,rfl,Or.inr ⟨rfl,rfl,rfl,hnt.out⟩,?_⟩
  ·rw [results_cell_tmp rfl];go_simp
  ·repeat' (first | exact Below.refl _ _ | refine Below.alloc ?_ (by simp<;>omega) _)
 | true=>
  have hkey:Hid (∀a b,Small a->Small b->s.data.toList=text a b->n=a/\(0:Int)=b):=hide (hyes.out n hnp);clear hno hyes hnp;go_wp2_with (go_at_call 198;fail);by_cases hin:InB n 0
  ·have hS:=zA4 hin;have hW:=fun w=>zAs n 0 hin w
   unfold pairV at hW;have hX:=fun w hT=>zBi n 0 hS.1 hS.2 w hT
   by_cases he:s.data.toList=text n 0
   ·have hq:((txt (text n 0)).toList==s.toList)=true:=by rw[zAb,Lib.toList_data,he];exact beq_self_eq_true _
    have hfin:Hid (Small n/\Small 0/\s.data.toList=text n 0):=hide ⟨hS.1,hS.2,he⟩;generalize txt (text n 0)=S at hX hq;clear he hin hS hkey;go_wp2_with (first
     |(go_at_call 198;refine (hW _).mono ?_;rintro e w1 ⟨rfl,rfl⟩)
     |(go_at_call 199;fail))
    have hP0:=((Pf.new w 0 0).old (.cells #[.int .i64 n,.int .i64 0] 205)).old (.cells #[.int .i64 n,.int .i64 0] 205);have hP1:=(Pf.new (w.alloc (.cells #[.int .i64 0,.int .i64 0] 205)) n 0).old (.cells #[.int .i64 n,.int .i64 0] 205);have hsz:(w.alloc (.cells #[.int .i64 0,.int .i64 0] 205)).heap.size=w.heap.size+1:=by simp
    rw[hsz] at hP1;have hc:=(below2 w (.cells #[.int .i64 0,.int .i64 0] 205) (.cells #[.int .i64 n,.int .i64 0] 205)).trans ((below1 _ (.cells #[.int .i64 n,.int .i64 0] 205)).mono (by simp<;>omega));have hT3:=hT.below hc;clear hsz;generalize ((w.alloc (.cells #[.int .i64 0,.int .i64 0] 205)).alloc (.cells #[.int .i64 n,.int .i64 0] 205)).alloc (.cells #[.int .i64 n,.int .i64 0] 205)=w3 at *;refine (hX _ hT3).mono ?_;rintro e w5 ⟨rfl,hb5⟩;have hc5:=hc.trans (hb5.mono hc.size);obtain⟨⟨c0,c1,_⟩,f0,f1⟩:=hP0.below hb5;obtain⟨⟨c2,c3,_⟩,_,_⟩:=hP1.below hb5;clear hP0 hP1 hb5 hX hW hT hT3 hc;go_wp2
    (try simp only[Exit.inBlock,Exit.then])
    obtain⟨g0,g1⟩:=zAj c0 c1 (.int .i64 n) (.int .i64 0);have hbe:=(hc5.setCell (p:=⟨w.heap.size,0,none⟩) (Nat.le_refl _) (.int .i64 n)).setCell (p:=⟨w.heap.size,1,none⟩) (Nat.le_refl _) (.int .i64 0);refine bodyPost_ret (v:=.tuple #[.agg #[.int .i64 n,.int .i64 0],.int .i64 0]) ?_ rfl ⟨n,0,0,rfl,Or.inl ⟨rfl,hfin.out.1,hfin.out.2.1,hfin.out.2.2⟩,hbe⟩;rw[results_cell_tmp rfl];go_simp
   ·have hnt:Hid (¬IsText s):=hide (by
     rintro ⟨a,b,ha,hb,e⟩
     obtain⟨e1,e2⟩:=hkey.out a b ha hb e
     exact he (e.trans (congr (congrArg text e1) e2).symm))
    have hq:((txt (text n 0)).toList==s.toList)=false:=beq_false_of_ne (by rw[zAb,Lib.toList_data];exact fun e=>he e.symm);generalize txt (text n 0)=S at hX hq;clear he hin hS hkey;go_wp2_with (first
     |(go_at_call 198;refine (hW _).mono ?_;rintro e w1 ⟨rfl,rfl⟩)
     |(go_at_call 199;fail))
    have hP0:=((Pf.new w 0 0).old (.cells #[.int .i64 n,.int .i64 0] 205)).old (.cells #[.int .i64 n,.int .i64 0] 205);have hP1:=(Pf.new (w.alloc (.cells #[.int .i64 0,.int .i64 0] 205)) n 0).old (.cells #[.int .i64 n,.int .i64 0] 205);have hsz:(w.alloc (.cells #[.int .i64 0,.int .i64 0] 205)).heap.size=w.heap.size+1:=by simp
    rw[hsz] at hP1;have hc:=(below2 w (.cells #[.int .i64 0,.int .i64 0] 205) (.cells #[.int .i64 n,.int .i64 0] 205)).trans ((below1 _ (.cells #[.int .i64 n,.int .i64 0] 205)).mono (by simp<;>omega));have hT3:=hT.below hc;clear hsz;generalize ((w.alloc (.cells #[.int .i64 0,.int .i64 0] 205)).alloc (.cells #[.int .i64 n,.int .i64 0] 205)).alloc (.cells #[.int .i64 n,.int .i64 0] 205)=w3 at *;refine (hX _ hT3).mono ?_;rintro e w5 ⟨rfl,hb5⟩;have hc5:=hc.trans (hb5.mono hc.size);obtain⟨⟨c0,c1,_⟩,f0,f1⟩:=hP0.below hb5;obtain⟨⟨c2,c3,_⟩,_,_⟩:=hP1.below hb5;clear hP0 hP1 hb5 hX hW hT hT3 hc;go_wp2
    (try simp only[Exit.inBlock,Exit.then])
    obtain⟨g0,g1⟩:=zAj c0 c1 (.int .i64 0) (.int .i64 0);have hbe:=(hc5.setCell (p:=⟨w.heap.size,0,none⟩) (Nat.le_refl _) (.int .i64 0)).setCell (p:=⟨w.heap.size,1,none⟩) (Nat.le_refl _) (.int .i64 0);refine bodyPost_ret (v:=.tuple #[.agg #[.int .i64 0,.int .i64 0],.int .i64 2]) ?_ rfl ⟨0,0,2,rfl,Or.inr ⟨rfl,rfl,rfl,hnt.out⟩,hbe⟩;rw[results_cell_tmp rfl];go_simp
  ·have hnt:Hid (¬IsText s):=hide (by
    rintro ⟨a,b,ha,hb,e⟩
    obtain⟨e1,e2⟩:=hkey.out a b ha hb e
    exact hin (Eq.mpr (congr (congrArg InB e1) e2) (zA5 ha hb)))
   have hW:=fun w=>zAx n 0 hin w
   unfold pairV at hW;clear hin hkey;go_wp2_with (go_at_call 198;refine (hW _).mono ?_;rintro e w1 ⟨rfl,rfl⟩)
   (try simp only[Exit.inBlock,Exit.then])
   refine bodyPost_ret (v:=.tuple #[.agg #[.int .i64 0,.int .i64 0],.int .i64 2]) ?_ rfl ⟨0,0,2,rfl,Or.inr ⟨rfl,rfl,rfl,hnt.out⟩,?_⟩
   ·rw [results_cell_tmp rfl];go_simp
   ·repeat' (first | exact Below.refl _ _ | refine Below.alloc ?_ (by simp<;>omega) _)
inductive RCls (s:ByteArray):Prop where
 | none (h:s.toList.isEmpty=true) (hr:rimR s.data.toList=some 1)
 | plus (h:s.toList.isEmpty=false) (k:(s.toList==[43])=true) (hr:rimR s.data.toList=some 1)
 | minus (h:s.toList.isEmpty=false) (k:(s.toList==[43])=false) (m:(s.toList==[45])=true) (hr:rimR s.data.toList=some (-1))
 | num (h:s.toList.isEmpty=false) (k:(s.toList==[43])=false) (m:(s.toList==[45])=false) (hr:rimR s.data.toList=numP s.data.toList)
theorem r_cls (s:ByteArray):RCls s:=by
 have hl:=Lib.toList_data s;by_cases h0:s.data.toList=[]
 ·exact .none (by rw[hl,h0];rfl) (by rw[h0];rfl)
 ·have e0:s.toList.isEmpty=false:=by rw[hl];simpa using h0
  by_cases h1:s.data.toList=[43]
  ·exact .plus e0 (by rw[hl,h1];rfl) (by rw[h1];rfl)
  ·have e1:(s.toList==[43])=false:=by rw[hl];exact beq_false_of_ne h1
   by_cases h2:s.data.toList=[45]
   ·exact .minus e0 e1 (by rw[hl,h2];rfl) (by rw[h2];rfl)
   ·have e2:(s.toList==[45])=false:=by rw[hl];exact beq_false_of_ne h2
    refine .num e0 e1 e2 ?_;unfold rimR;rw[if_neg (by rintro (h | h);exact h0 h;exact h1 h),if_neg h2]
theorem zK6 (s:ByteArray) (r:List UInt8) (h:s.data.toList=r++[105]) (hs:s.size<=281474976710656) (w:World) (hT:Tabs w):
  Calls Tryz.prog 167 #[.string s] w (RPost s w):=by
 have hlen:s.size=r.length+1:=by rw[Lib.size_eq,h];simp
 have hs1:(0:Int)<(s.size:Int):=by omega
 obtain⟨m,hm⟩:∃m,r.length=m:=⟨_,rfl⟩;rw[hm] at hlen;have hmi:(s.size:Int)-1=(m:Int):=by omega
 have hml:m<s.size:=by omega
 have hmz:(m:Int)<(s.size:Int):=by omega
 obtain⟨x,hx⟩:∃x:UInt8,s[m]'hml=x:=⟨_,rfl⟩;have hxl:s.data.toList[m]?=some x:=by rw[<-hx];exact Lib.data_getElem? s m hml
 have hx5:x=105:=by rw[h,List.getElem?_append_right (by omega),hm,Nat.sub_self] at hxl;simpa using hxl.symm
 have hx105:((x.toNat:Int)==105)=true:=by rw[hx5];rfl
 have ht:Hid (∀a b,Small a->Small b->s.data.toList=text a b->b≠0/\r=body a b):=hide (by
  intro a b ha hb e
  have hb0:b≠0:=by
   rintro rfl
   have e2:text a 0=Lib.itoa a:=by unfold text;rw[if_pos rfl]
   have e3:=zG3 a
   rw[<-e2,<-e,h,(zEs r).1] at e3
   cases e3
  refine⟨hb0,?_⟩
  rw[h,zCa hb0] at e
  exact List.append_cancel_right e)
 clear hxl hx5;replace h:=hide h;go_enter Tryz.func167,Tryz.ntmps167;go_wp2
 go_loopg [4,5] m (fun g s4 s5 wx=>∃i v:Nat,1<=i/\i+g=s.size/\v<i/\s4=.int .i64 (v:Int)/\s5=.int .i64 (i:Int)/\wx=w.alloc (.cells #[.int .i64 0,.int .i64 0] 205)/\Hid (AtUp s.data.toList i v))
 case atStart=>exact⟨1,0,by omega,by omega,by omega,rfl,rfl,rfl,hide (AtUp.start _)⟩
 case round=>
  obtain⟨i,v,hi1,hig,hvi,rfl,rfl,rfl,hat⟩:=hrel;cases gk with
  | succ g=>
   have hi:i<s.size:=by omega
   have hiz:(i:Int)<(s.size:Int):=by omega
   obtain⟨y,hy⟩:∃y:UInt8,s[i]'hi=y:=⟨_,rfl⟩;have hyl:s.data.toList[i]?=some y:=by rw[<-hy];exact Lib.data_getElem? s i hi
   have Hy:=hide hyl;clear hyl;by_cases h43:y=43
   ·have e1:((y.toNat:Int)==43)=true:=by rw[h43];rfl
    go_wp2
    go_roundg g
    case measure=>omega
    case rel=>exact⟨i+1,i,by omega,by omega,by omega,rfl,by go_num,rfl,hide (AtUp.hit hi1 Hy.out (Or.inl h43))⟩
   ·have e1:((y.toNat:Int)==43)=false:=beq_false_of_ne (fun e=>h43 (UInt8.toNat_inj.1 (by simp;omega)));by_cases h45:y=45
    ·have e2:((y.toNat:Int)==45)=true:=by rw[h45];rfl
     go_wp2
     go_roundg g
     case measure=>omega
     case rel=>exact⟨i+1,i,by omega,by omega,by omega,rfl,by go_num,rfl,hide (AtUp.hit hi1 Hy.out (Or.inr h45))⟩
    ·have e2:((y.toNat:Int)==45)=false:=beq_false_of_ne (fun e=>h45 (UInt8.toNat_inj.1 (by simp;omega)));go_wp2
     go_roundg g
     case measure=>omega
     case rel=>exact⟨i+1,v,by omega,by omega,by omega,rfl,by go_num,rfl,hide (AtUp.miss hat.out Hy.out ⟨h43,h45⟩)⟩
  | zero=>
   obtain rfl:i=s.size:=by omega
   have hiz:¬((s.size:Int)<(s.size:Int)):=by omega
   have hB0:Hid (∀a b,Small a->Small b->s.data.toList=text a b->(a=0/\v=0/\rimR r=some b)\/(a≠0/\0<v/\r.take v=Lib.itoa a/\rimR (r.drop v)=some b)):=hide (by
    intro a b ha hb e
    obtain⟨hb0,e2⟩:=ht.out a b ha hb e
    have hat2:=hat.out
    rw[Lib.size_eq,h.out,e2] at hat2
    rw[e2]
    exact zLk hb hb0 hat2)
   have hmn:((m:Nat):Int).toNat=m:=by omega
   have hvn:((v:Nat):Int).toNat=v:=by omega
   have hY0:(s.extract v m).data.toList=r.drop v:=by
    simp only[ByteArray.data_extract,Array.toList_extract,List.extract_eq_take_drop,h.out];rw[<-hm];by_cases hv:v<=r.length
    ·rw [List.drop_append_of_le_length hv,List.take_append_of_le_length (by rw[List.length_drop];exact Nat.le_refl _),List.take_of_length_le (by rw[List.length_drop];exact Nat.le_refl _)]
    ·omega
   have hvm:v<=m:=by omega
   by_cases hv0:v=0
   ·subst hv0;have hB:Hid (∀a b,Small a->Small b->s.data.toList=text a b->(0:Int)=a/\rimR (s.extract 0 m).data.toList=some b):=hide (by
     intro a b ha hb e
     rw[hY0]
     rcases hB0.out a b ha hb e with⟨e1,_,e3⟩ | ⟨_,h2,_⟩
     ·exact ⟨e1.symm,e3⟩
     ·omega)
    generalize hgy:s.extract 0 m=Y at hB;clear hB0 hY0 hat ht h;have hz2:(0:Int)<=(m:Int):=by omega
    have hz3:(m:Int)<=(s.size:Int):=(by omega);rcases r_cls Y with⟨k0,kr⟩ | ⟨k0,k1,kr⟩ | ⟨k0,k1,k2,kr⟩ | ⟨k0,k1,k2,kr⟩
    ·have hkey:Hid (∀a b,Small a->Small b->s.data.toList=text a b->0=a/\(1:Int)=b):=hide (by
      intro a b ha hb e
      obtain⟨e1,e2⟩:=hB.out a b ha hb e
      exact⟨e1,Option.some.inj (kr.symm.trans e2)⟩)
     clear hB kr;go_wp2_with (go_at_call 198;fail);by_cases hin:InB 0 1
     ·have hS:=zA4 hin;have hW:=fun w=>zAs 0 1 hin w
      unfold pairV at hW;have hX:=fun w hT=>zBi 0 1 hS.1 hS.2 w hT
      by_cases he:s.data.toList=text 0 1
      ·have hq:((txt (text 0 1)).toList==s.toList)=true:=by rw[zAb,Lib.toList_data,he];exact beq_self_eq_true _
       have hfin:Hid (Small 0/\Small 1/\s.data.toList=text 0 1):=hide ⟨hS.1,hS.2,he⟩;generalize txt (text 0 1)=S at hX hq;clear he hin hS hkey;go_wp2_with (first
        |(go_at_call 198;refine (hW _).mono ?_;rintro e w1 ⟨rfl,rfl⟩)
        |(go_at_call 199;fail))
       have hP0:=((Pf.new w 0 0).old (.cells #[.int .i64 0,.int .i64 1] 205)).old (.cells #[.int .i64 0,.int .i64 1] 205);have hP1:=(Pf.new (w.alloc (.cells #[.int .i64 0,.int .i64 0] 205)) 0 1).old (.cells #[.int .i64 0,.int .i64 1] 205);have hsz:(w.alloc (.cells #[.int .i64 0,.int .i64 0] 205)).heap.size=w.heap.size+1:=by simp
       rw[hsz] at hP1;have hc:=(below2 w (.cells #[.int .i64 0,.int .i64 0] 205) (.cells #[.int .i64 0,.int .i64 1] 205)).trans ((below1 _ (.cells #[.int .i64 0,.int .i64 1] 205)).mono (by simp<;>omega));have hT3:=hT.below hc;clear hsz;generalize ((w.alloc (.cells #[.int .i64 0,.int .i64 0] 205)).alloc (.cells #[.int .i64 0,.int .i64 1] 205)).alloc (.cells #[.int .i64 0,.int .i64 1] 205)=w3 at *;refine (hX _ hT3).mono ?_;rintro e w5 ⟨rfl,hb5⟩;have hc5:=hc.trans (hb5.mono hc.size);obtain⟨⟨c0,c1,_⟩,f0,f1⟩:=hP0.below hb5;obtain⟨⟨c2,c3,_⟩,_,_⟩:=hP1.below hb5;clear hP0 hP1 hb5 hX hW hT hT3 hc;go_wp2
       (try simp only[Exit.inBlock,Exit.then])
       obtain⟨g0,g1⟩:=zAj c0 c1 (.int .i64 0) (.int .i64 1);have hbe:=(hc5.setCell (p:=⟨w.heap.size,0,none⟩) (Nat.le_refl _) (.int .i64 0)).setCell (p:=⟨w.heap.size,1,none⟩) (Nat.le_refl _) (.int .i64 1);refine bodyPost_ret (v:=.tuple #[.agg #[.int .i64 0,.int .i64 1],.int .i64 0]) ?_ rfl ⟨0,1,0,rfl,Or.inl ⟨rfl,hfin.out.1,hfin.out.2.1,hfin.out.2.2⟩,hbe⟩;rw[results_cell_tmp rfl];go_simp
      ·have hnt:Hid (¬IsText s):=hide (by
        rintro ⟨a,b,ha,hb,e⟩
        obtain⟨e1,e2⟩:=hkey.out a b ha hb e
        exact he (e.trans (congr (congrArg text e1) e2).symm))
       have hq:((txt (text 0 1)).toList==s.toList)=false:=beq_false_of_ne (by rw[zAb,Lib.toList_data];exact fun e=>he e.symm);generalize txt (text 0 1)=S at hX hq;clear he hin hS hkey;go_wp2_with (first
        |(go_at_call 198;refine (hW _).mono ?_;rintro e w1 ⟨rfl,rfl⟩)
        |(go_at_call 199;fail))
       have hP0:=((Pf.new w 0 0).old (.cells #[.int .i64 0,.int .i64 1] 205)).old (.cells #[.int .i64 0,.int .i64 1] 205);have hP1:=(Pf.new (w.alloc (.cells #[.int .i64 0,.int .i64 0] 205)) 0 1).old (.cells #[.int .i64 0,.int .i64 1] 205);have hsz:(w.alloc (.cells #[.int .i64 0,.int .i64 0] 205)).heap.size=w.heap.size+1:=by simp
       rw[hsz] at hP1;have hc:=(below2 w (.cells #[.int .i64 0,.int .i64 0] 205) (.cells #[.int .i64 0,.int .i64 1] 205)).trans ((below1 _ (.cells #[.int .i64 0,.int .i64 1] 205)).mono (by simp<;>omega));have hT3:=hT.below hc;clear hsz;generalize ((w.alloc (.cells #[.int .i64 0,.int .i64 0] 205)).alloc (.cells #[.int .i64 0,.int .i64 1] 205)).alloc (.cells #[.int .i64 0,.int .i64 1] 205)=w3 at *;refine (hX _ hT3).mono ?_;rintro e w5 ⟨rfl,hb5⟩;have hc5:=hc.trans (hb5.mono hc.size);obtain⟨⟨c0,c1,_⟩,f0,f1⟩:=hP0.below hb5;obtain⟨⟨c2,c3,_⟩,_,_⟩:=hP1.below hb5;clear hP0 hP1 hb5 hX hW hT hT3 hc;go_wp2
       (try simp only[Exit.inBlock,Exit.then])
       obtain⟨g0,g1⟩:=zAj c0 c1 (.int .i64 0) (.int .i64 0);have hbe:=(hc5.setCell (p:=⟨w.heap.size,0,none⟩) (Nat.le_refl _) (.int .i64 0)).setCell (p:=⟨w.heap.size,1,none⟩) (Nat.le_refl _) (.int .i64 0);refine bodyPost_ret (v:=.tuple #[.agg #[.int .i64 0,.int .i64 0],.int .i64 2]) ?_ rfl ⟨0,0,2,rfl,Or.inr ⟨rfl,rfl,rfl,hnt.out⟩,hbe⟩;rw[results_cell_tmp rfl];go_simp
     ·have hnt:Hid (¬IsText s):=hide (by
       rintro ⟨a,b,ha,hb,e⟩
       obtain⟨e1,e2⟩:=hkey.out a b ha hb e
       exact hin (Eq.mpr (congr (congrArg InB e1) e2) (zA5 ha hb)))
      have hW:=fun w=>zAx 0 1 hin w
      unfold pairV at hW;clear hin hkey;go_wp2_with (go_at_call 198;refine (hW _).mono ?_;rintro e w1 ⟨rfl,rfl⟩)
      (try simp only[Exit.inBlock,Exit.then])
      refine bodyPost_ret (v:=.tuple #[.agg #[.int .i64 0,.int .i64 0],.int .i64 2]) ?_ rfl ⟨0,0,2,rfl,Or.inr ⟨rfl,rfl,rfl,hnt.out⟩,?_⟩
      ·rw [results_cell_tmp rfl];go_simp
      ·repeat' (first | exact Below.refl _ _ | refine Below.alloc ?_ (by simp<;>omega) _)
    ·have hkey:Hid (∀a b,Small a->Small b->s.data.toList=text a b->0=a/\(1:Int)=b):=hide (by
      intro a b ha hb e
      obtain⟨e1,e2⟩:=hB.out a b ha hb e
      exact⟨e1,Option.some.inj (kr.symm.trans e2)⟩)
     clear hB kr;go_wp2_with (go_at_call 198;fail);by_cases hin:InB 0 1
     ·have hS:=zA4 hin;have hW:=fun w=>zAs 0 1 hin w
      unfold pairV at hW;have hX:=fun w hT=>zBi 0 1 hS.1 hS.2 w hT
      by_cases he:s.data.toList=text 0 1
      ·have hq:((txt (text 0 1)).toList==s.toList)=true:=by rw[zAb,Lib.toList_data,he];exact beq_self_eq_true _
       have hfin:Hid (Small 0/\Small 1/\s.data.toList=text 0 1):=hide ⟨hS.1,hS.2,he⟩;generalize txt (text 0 1)=S at hX hq;clear he hin hS hkey;go_wp2_with (first
        |(go_at_call 198;refine (hW _).mono ?_;rintro e w1 ⟨rfl,rfl⟩)
        |(go_at_call 199;fail))
       have hP0:=((Pf.new w 0 0).old (.cells #[.int .i64 0,.int .i64 1] 205)).old (.cells #[.int .i64 0,.int .i64 1] 205);have hP1:=(Pf.new (w.alloc (.cells #[.int .i64 0,.int .i64 0] 205)) 0 1).old (.cells #[.int .i64 0,.int .i64 1] 205);have hsz:(w.alloc (.cells #[.int .i64 0,.int .i64 0] 205)).heap.size=w.heap.size+1:=by simp
       rw[hsz] at hP1;have hc:=(below2 w (.cells #[.int .i64 0,.int .i64 0] 205) (.cells #[.int .i64 0,.int .i64 1] 205)).trans ((below1 _ (.cells #[.int .i64 0,.int .i64 1] 205)).mono (by simp<;>omega));have hT3:=hT.below hc;clear hsz;generalize ((w.alloc (.cells #[.int .i64 0,.int .i64 0] 205)).alloc (.cells #[.int .i64 0,.int .i64 1] 205)).alloc (.cells #[.int .i64 0,.int .i64 1] 205)=w3 at *;refine (hX _ hT3).mono ?_;rintro e w5 ⟨rfl,hb5⟩;have hc5:=hc.trans (hb5.mono hc.size);obtain⟨⟨c0,c1,_⟩,f0,f1⟩:=hP0.below hb5;obtain⟨⟨c2,c3,_⟩,_,_⟩:=hP1.below hb5;clear hP0 hP1 hb5 hX hW hT hT3 hc;go_wp2
       (try simp only[Exit.inBlock,Exit.then])
       obtain⟨g0,g1⟩:=zAj c0 c1 (.int .i64 0) (.int .i64 1);have hbe:=(hc5.setCell (p:=⟨w.heap.size,0,none⟩) (Nat.le_refl _) (.int .i64 0)).setCell (p:=⟨w.heap.size,1,none⟩) (Nat.le_refl _) (.int .i64 1);refine bodyPost_ret (v:=.tuple #[.agg #[.int .i64 0,.int .i64 1],.int .i64 0]) ?_ rfl ⟨0,1,0,rfl,Or.inl ⟨rfl,hfin.out.1,hfin.out.2.1,hfin.out.2.2⟩,hbe⟩;rw[results_cell_tmp rfl];go_simp
      ·have hnt:Hid (¬IsText s):=hide (by
        rintro ⟨a,b,ha,hb,e⟩
        obtain⟨e1,e2⟩:=hkey.out a b ha hb e
        exact he (e.trans (congr (congrArg text e1) e2).symm))
       have hq:((txt (text 0 1)).toList==s.toList)=false:=beq_false_of_ne (by rw[zAb,Lib.toList_data];exact fun e=>he e.symm);generalize txt (text 0 1)=S at hX hq;clear he hin hS hkey;go_wp2_with (first
        |(go_at_call 198;refine (hW _).mono ?_;rintro e w1 ⟨rfl,rfl⟩)
        |(go_at_call 199;fail))
       have hP0:=((Pf.new w 0 0).old (.cells #[.int .i64 0,.int .i64 1] 205)).old (.cells #[.int .i64 0,.int .i64 1] 205);have hP1:=(Pf.new (w.alloc (.cells #[.int .i64 0,.int .i64 0] 205)) 0 1).old (.cells #[.int .i64 0,.int .i64 1] 205);have hsz:(w.alloc (.cells #[.int .i64 0,.int .i64 0] 205)).heap.size=w.heap.size+1:=by simp
       rw[hsz] at hP1;have hc:=(below2 w (.cells #[.int .i64 0,.int .i64 0] 205) (.cells #[.int .i64 0,.int .i64 1] 205)).trans ((below1 _ (.cells #[.int .i64 0,.int .i64 1] 205)).mono (by simp<;>omega));have hT3:=hT.below hc;clear hsz;generalize ((w.alloc (.cells #[.int .i64 0,.int .i64 0] 205)).alloc (.cells #[.int .i64 0,.int .i64 1] 205)).alloc (.cells #[.int .i64 0,.int .i64 1] 205)=w3 at *;refine (hX _ hT3).mono ?_;rintro e w5 ⟨rfl,hb5⟩;have hc5:=hc.trans (hb5.mono hc.size);obtain⟨⟨c0,c1,_⟩,f0,f1⟩:=hP0.below hb5;obtain⟨⟨c2,c3,_⟩,_,_⟩:=hP1.below hb5;clear hP0 hP1 hb5 hX hW hT hT3 hc;go_wp2
       (try simp only[Exit.inBlock,Exit.then])
       obtain⟨g0,g1⟩:=zAj c0 c1 (.int .i64 0) (.int .i64 0);have hbe:=(hc5.setCell (p:=⟨w.heap.size,0,none⟩) (Nat.le_refl _) (.int .i64 0)).setCell (p:=⟨w.heap.size,1,none⟩) (Nat.le_refl _) (.int .i64 0);refine bodyPost_ret (v:=.tuple #[.agg #[.int .i64 0,.int .i64 0],.int .i64 2]) ?_ rfl ⟨0,0,2,rfl,Or.inr ⟨rfl,rfl,rfl,hnt.out⟩,hbe⟩;rw[results_cell_tmp rfl];go_simp
     ·have hnt:Hid (¬IsText s):=hide (by
       rintro ⟨a,b,ha,hb,e⟩
       obtain⟨e1,e2⟩:=hkey.out a b ha hb e
       exact hin (Eq.mpr (congr (congrArg InB e1) e2) (zA5 ha hb)))
      have hW:=fun w=>zAx 0 1 hin w
      unfold pairV at hW;clear hin hkey;go_wp2_with (go_at_call 198;refine (hW _).mono ?_;rintro e w1 ⟨rfl,rfl⟩)
      (try simp only[Exit.inBlock,Exit.then])
      refine bodyPost_ret (v:=.tuple #[.agg #[.int .i64 0,.int .i64 0],.int .i64 2]) ?_ rfl ⟨0,0,2,rfl,Or.inr ⟨rfl,rfl,rfl,hnt.out⟩,?_⟩
      ·rw [results_cell_tmp rfl];go_simp
      ·repeat' (first | exact Below.refl _ _ | refine Below.alloc ?_ (by simp<;>omega) _)
    ·have hkey:Hid (∀a b,Small a->Small b->s.data.toList=text a b->0=a/\(-1:Int)=b):=hide (by
      intro a b ha hb e
      obtain⟨e1,e2⟩:=hB.out a b ha hb e
      exact⟨e1,Option.some.inj (kr.symm.trans e2)⟩)
     clear hB kr;go_wp2_with (go_at_call 198;fail);by_cases hin:InB 0 (-1)
     ·have hS:=zA4 hin;have hW:=fun w=>zAs 0 (-1) hin w
      unfold pairV at hW;have hX:=fun w hT=>zBi 0 (-1) hS.1 hS.2 w hT
      by_cases he:s.data.toList=text 0 (-1)
      ·have hq:((txt (text 0 (-1))).toList==s.toList)=true:=by rw[zAb,Lib.toList_data,he];exact beq_self_eq_true _
       have hfin:Hid (Small 0/\Small (-1)/\s.data.toList=text 0 (-1)):=hide ⟨hS.1,hS.2,he⟩;generalize txt (text 0 (-1))=S at hX hq;clear he hin hS hkey;go_wp2_with (first
        |(go_at_call 198;refine (hW _).mono ?_;rintro e w1 ⟨rfl,rfl⟩)
        |(go_at_call 199;fail))
       have hP0:=((Pf.new w 0 0).old (.cells #[.int .i64 0,.int .i64 (-1)] 205)).old (.cells #[.int .i64 0,.int .i64 (-1)] 205);have hP1:=(Pf.new (w.alloc (.cells #[.int .i64 0,.int .i64 0] 205)) 0 (-1)).old (.cells #[.int .i64 0,.int .i64 (-1)] 205);have hsz:(w.alloc (.cells #[.int .i64 0,.int .i64 0] 205)).heap.size=w.heap.size+1:=by simp
       rw[hsz] at hP1;have hc:=(below2 w (.cells #[.int .i64 0,.int .i64 0] 205) (.cells #[.int .i64 0,.int .i64 (-1)] 205)).trans ((below1 _ (.cells #[.int .i64 0,.int .i64 (-1)] 205)).mono (by simp<;>omega));have hT3:=hT.below hc;clear hsz;generalize ((w.alloc (.cells #[.int .i64 0,.int .i64 0] 205)).alloc (.cells #[.int .i64 0,.int .i64 (-1)] 205)).alloc (.cells #[.int .i64 0,.int .i64 (-1)] 205)=w3 at *;refine (hX _ hT3).mono ?_;rintro e w5 ⟨rfl,hb5⟩;have hc5:=hc.trans (hb5.mono hc.size);obtain⟨⟨c0,c1,_⟩,f0,f1⟩:=hP0.below hb5;obtain⟨⟨c2,c3,_⟩,_,_⟩:=hP1.below hb5;clear hP0 hP1 hb5 hX hW hT hT3 hc;go_wp2
       (try simp only[Exit.inBlock,Exit.then])
       obtain⟨g0,g1⟩:=zAj c0 c1 (.int .i64 0) (.int .i64 (-1));have hbe:=(hc5.setCell (p:=⟨w.heap.size,0,none⟩) (Nat.le_refl _) (.int .i64 0)).setCell (p:=⟨w.heap.size,1,none⟩) (Nat.le_refl _) (.int .i64 (-1));refine bodyPost_ret (v:=.tuple #[.agg #[.int .i64 0,.int .i64 (-1)],.int .i64 0]) ?_ rfl ⟨0,(-1),0,rfl,Or.inl ⟨rfl,hfin.out.1,hfin.out.2.1,hfin.out.2.2⟩,hbe⟩;rw[results_cell_tmp rfl];go_simp
      ·have hnt:Hid (¬IsText s):=hide (by
        rintro ⟨a,b,ha,hb,e⟩
        obtain⟨e1,e2⟩:=hkey.out a b ha hb e
        exact he (e.trans (congr (congrArg text e1) e2).symm))
       have hq:((txt (text 0 (-1))).toList==s.toList)=false:=beq_false_of_ne (by rw[zAb,Lib.toList_data];exact fun e=>he e.symm);generalize txt (text 0 (-1))=S at hX hq;clear he hin hS hkey;go_wp2_with (first
        |(go_at_call 198;refine (hW _).mono ?_;rintro e w1 ⟨rfl,rfl⟩)
        |(go_at_call 199;fail))
       have hP0:=((Pf.new w 0 0).old (.cells #[.int .i64 0,.int .i64 (-1)] 205)).old (.cells #[.int .i64 0,.int .i64 (-1)] 205);have hP1:=(Pf.new (w.alloc (.cells #[.int .i64 0,.int .i64 0] 205)) 0 (-1)).old (.cells #[.int .i64 0,.int .i64 (-1)] 205);have hsz:(w.alloc (.cells #[.int .i64 0,.int .i64 0] 205)).heap.size=w.heap.size+1:=by simp
       rw[hsz] at hP1;have hc:=(below2 w (.cells #[.int .i64 0,.int .i64 0] 205) (.cells #[.int .i64 0,.int .i64 (-1)] 205)).trans ((below1 _ (.cells #[.int .i64 0,.int .i64 (-1)] 205)).mono (by simp<;>omega));have hT3:=hT.below hc;clear hsz;generalize ((w.alloc (.cells #[.int .i64 0,.int .i64 0] 205)).alloc (.cells #[.int .i64 0,.int .i64 (-1)] 205)).alloc (.cells #[.int .i64 0,.int .i64 (-1)] 205)=w3 at *;refine (hX _ hT3).mono ?_;rintro e w5 ⟨rfl,hb5⟩;have hc5:=hc.trans (hb5.mono hc.size);obtain⟨⟨c0,c1,_⟩,f0,f1⟩:=hP0.below hb5;obtain⟨⟨c2,c3,_⟩,_,_⟩:=hP1.below hb5;clear hP0 hP1 hb5 hX hW hT hT3 hc;go_wp2
       (try simp only[Exit.inBlock,Exit.then])
       obtain⟨g0,g1⟩:=zAj c0 c1 (.int .i64 0) (.int .i64 0);have hbe:=(hc5.setCell (p:=⟨w.heap.size,0,none⟩) (Nat.le_refl _) (.int .i64 0)).setCell (p:=⟨w.heap.size,1,none⟩) (Nat.le_refl _) (.int .i64 0);refine bodyPost_ret (v:=.tuple #[.agg #[.int .i64 0,.int .i64 0],.int .i64 2]) ?_ rfl ⟨0,0,2,rfl,Or.inr ⟨rfl,rfl,rfl,hnt.out⟩,hbe⟩;rw[results_cell_tmp rfl];go_simp
     ·have hnt:Hid (¬IsText s):=hide (by
       rintro ⟨a,b,ha,hb,e⟩
       obtain⟨e1,e2⟩:=hkey.out a b ha hb e
       exact hin (Eq.mpr (congr (congrArg InB e1) e2) (zA5 ha hb)))
      have hW:=fun w=>zAx 0 (-1) hin w
      unfold pairV at hW;clear hin hkey;go_wp2_with (go_at_call 198;refine (hW _).mono ?_;rintro e w1 ⟨rfl,rfl⟩)
      (try simp only[Exit.inBlock,Exit.then])
      refine bodyPost_ret (v:=.tuple #[.agg #[.int .i64 0,.int .i64 0],.int .i64 2]) ?_ rfl ⟨0,0,2,rfl,Or.inr ⟨rfl,rfl,rfl,hnt.out⟩,?_⟩
      ·rw [results_cell_tmp rfl];go_simp
      ·repeat' (first | exact Below.refl _ _ | refine Below.alloc ?_ (by simp<;>omega) _)
    ·replace kr:=hide kr;go_wp2_with (go_at_call 197;fail);refine (zC8 Y _).mono ?_;intro e w2 hh;obtain⟨n2,ok2,rfl,hnb2,hnp2,rfl⟩:=hh.out;clear hh;cases ok2 with
     | false=>
      have hnt:Hid (¬IsText s):=hide (by
       rintro ⟨a,b,ha,hb,e⟩
       obtain⟨e1,e2⟩:=hB.out a b ha hb e
       rw[kr.out,hnp2] at e2
       cases e2)
      clear hB kr hnp2;go_wp2
      (try simp only[Exit.inBlock,Exit.then])
      refine bodyPost_ret (v:=.tuple #[.agg #[.int .i64 0,.int .i64 0],.int .i64 2]) ?_ rfl ⟨0,0,2,rfl,Or.inr ⟨rfl,rfl,rfl,hnt.out⟩,?_⟩
      ·rw [results_cell_tmp rfl];go_simp
      ·repeat' (first | exact Below.refl _ _ | refine Below.alloc ?_ (by simp<;>omega) _)
     | true=>
      have hkey:Hid (∀a b,Small a->Small b->s.data.toList=text a b->0=a/\n2=b):=hide (by
       intro a b ha hb e
       obtain⟨e1,e2⟩:=hB.out a b ha hb e
       rw[kr.out,hnp2] at e2
       exact⟨e1,Option.some.inj e2⟩)
      clear hB kr hnp2;go_wp2_with (go_at_call 198;fail);by_cases hin:InB 0 n2
      ·have hS:=zA4 hin;have hW:=fun w=>zAs 0 n2 hin w
       unfold pairV at hW;have hX:=fun w hT=>zBi 0 n2 hS.1 hS.2 w hT
       by_cases he:s.data.toList=text 0 n2
       ·have hq:((txt (text 0 n2)).toList==s.toList)=true:=by rw[zAb,Lib.toList_data,he];exact beq_self_eq_true _
        have hfin:Hid (Small 0/\Small n2/\s.data.toList=text 0 n2):=hide ⟨hS.1,hS.2,he⟩;generalize txt (text 0 n2)=S at hX hq;clear he hin hS hkey;go_wp2_with (first
         |(go_at_call 198;refine (hW _).mono ?_;rintro e w1 ⟨rfl,rfl⟩)
         |(go_at_call 199;fail))
        have hP0:=((Pf.new w 0 0).old (.cells #[.int .i64 0,.int .i64 n2] 205)).old (.cells #[.int .i64 0,.int .i64 n2] 205);have hP1:=(Pf.new (w.alloc (.cells #[.int .i64 0,.int .i64 0] 205)) 0 n2).old (.cells #[.int .i64 0,.int .i64 n2] 205);have hsz:(w.alloc (.cells #[.int .i64 0,.int .i64 0] 205)).heap.size=w.heap.size+1:=by simp
        rw[hsz] at hP1;have hc:=(below2 w (.cells #[.int .i64 0,.int .i64 0] 205) (.cells #[.int .i64 0,.int .i64 n2] 205)).trans ((below1 _ (.cells #[.int .i64 0,.int .i64 n2] 205)).mono (by simp<;>omega));have hT3:=hT.below hc;clear hsz;generalize ((w.alloc (.cells #[.int .i64 0,.int .i64 0] 205)).alloc (.cells #[.int .i64 0,.int .i64 n2] 205)).alloc (.cells #[.int .i64 0,.int .i64 n2] 205)=w3 at *;refine (hX _ hT3).mono ?_;rintro e w5 ⟨rfl,hb5⟩;have hc5:=hc.trans (hb5.mono hc.size);obtain⟨⟨c0,c1,_⟩,f0,f1⟩:=hP0.below hb5;obtain⟨⟨c2,c3,_⟩,_,_⟩:=hP1.below hb5;clear hP0 hP1 hb5 hX hW hT hT3 hc;go_wp2
        (try simp only[Exit.inBlock,Exit.then])
        obtain⟨g0,g1⟩:=zAj c0 c1 (.int .i64 0) (.int .i64 n2);have hbe:=(hc5.setCell (p:=⟨w.heap.size,0,none⟩) (Nat.le_refl _) (.int .i64 0)).setCell (p:=⟨w.heap.size,1,none⟩) (Nat.le_refl _) (.int .i64 n2);refine bodyPost_ret (v:=.tuple #[.agg #[.int .i64 0,.int .i64 n2],.int .i64 0]) ?_ rfl ⟨0,n2,0,rfl,Or.inl ⟨rfl,hfin.out.1,hfin.out.2.1,hfin.out.2.2⟩,hbe⟩;rw[results_cell_tmp rfl];go_simp
       ·have hnt:Hid (¬IsText s):=hide (by
         rintro ⟨a,b,ha,hb,e⟩
         obtain⟨e1,e2⟩:=hkey.out a b ha hb e
         exact he (e.trans (congr (congrArg text e1) e2).symm))
        have hq:((txt (text 0 n2)).toList==s.toList)=false:=beq_false_of_ne (by rw[zAb,Lib.toList_data];exact fun e=>he e.symm);generalize txt (text 0 n2)=S at hX hq;clear he hin hS hkey;go_wp2_with (first
         |(go_at_call 198;refine (hW _).mono ?_;rintro e w1 ⟨rfl,rfl⟩)
         |(go_at_call 199;fail))
        have hP0:=((Pf.new w 0 0).old (.cells #[.int .i64 0,.int .i64 n2] 205)).old (.cells #[.int .i64 0,.int .i64 n2] 205);have hP1:=(Pf.new (w.alloc (.cells #[.int .i64 0,.int .i64 0] 205)) 0 n2).old (.cells #[.int .i64 0,.int .i64 n2] 205);have hsz:(w.alloc (.cells #[.int .i64 0,.int .i64 0] 205)).heap.size=w.heap.size+1:=by simp
        rw[hsz] at hP1;have hc:=(below2 w (.cells #[.int .i64 0,.int .i64 0] 205) (.cells #[.int .i64 0,.int .i64 n2] 205)).trans ((below1 _ (.cells #[.int .i64 0,.int .i64 n2] 205)).mono (by simp<;>omega));have hT3:=hT.below hc;clear hsz;generalize ((w.alloc (.cells #[.int .i64 0,.int .i64 0] 205)).alloc (.cells #[.int .i64 0,.int .i64 n2] 205)).alloc (.cells #[.int .i64 0,.int .i64 n2] 205)=w3 at *;refine (hX _ hT3).mono ?_;rintro e w5 ⟨rfl,hb5⟩;have hc5:=hc.trans (hb5.mono hc.size);obtain⟨⟨c0,c1,_⟩,f0,f1⟩:=hP0.below hb5;obtain⟨⟨c2,c3,_⟩,_,_⟩:=hP1.below hb5;clear hP0 hP1 hb5 hX hW hT hT3 hc;go_wp2
        (try simp only[Exit.inBlock,Exit.then])
        obtain⟨g0,g1⟩:=zAj c0 c1 (.int .i64 0) (.int .i64 0);have hbe:=(hc5.setCell (p:=⟨w.heap.size,0,none⟩) (Nat.le_refl _) (.int .i64 0)).setCell (p:=⟨w.heap.size,1,none⟩) (Nat.le_refl _) (.int .i64 0);refine bodyPost_ret (v:=.tuple #[.agg #[.int .i64 0,.int .i64 0],.int .i64 2]) ?_ rfl ⟨0,0,2,rfl,Or.inr ⟨rfl,rfl,rfl,hnt.out⟩,hbe⟩;rw[results_cell_tmp rfl];go_simp
      ·have hnt:Hid (¬IsText s):=hide (by
        rintro ⟨a,b,ha,hb,e⟩
        obtain⟨e1,e2⟩:=hkey.out a b ha hb e
        exact hin (Eq.mpr (congr (congrArg InB e1) e2) (zA5 ha hb)))
       have hW:=fun w=>zAx 0 n2 hin w
       unfold pairV at hW;clear hin hkey;go_wp2_with (go_at_call 198;refine (hW _).mono ?_;rintro e w1 ⟨rfl,rfl⟩)
       (try simp only[Exit.inBlock,Exit.then])
       refine bodyPost_ret (v:=.tuple #[.agg #[.int .i64 0,.int .i64 0],.int .i64 2]) ?_ rfl ⟨0,0,2,rfl,Or.inr ⟨rfl,rfl,rfl,hnt.out⟩,?_⟩
       ·rw [results_cell_tmp rfl];go_simp
       ·repeat' (first | exact Below.refl _ _ | refine Below.alloc ?_ (by simp<;>omega) _)
   ·have hvz:(0:Int)<(v:Int):=by omega
    have hX0:(s.extract 0 v).data.toList=r.take v:=(by rw[zC0,h.out,List.take_append_of_le_length (by omega)]);have hvs:(v:Int)<=(s.size:Int):=(by omega);have hvs2:(v:Int)<(s.size:Int):=(by omega);have hvm2:(v:Int)<=(m:Int):=(by omega);have hz3:(m:Int)<=(s.size:Int):=by omega
    have hA:Hid (∀a b,Small a->Small b->s.data.toList=text a b->numP (s.extract 0 v).data.toList=some a/\rimR (s.extract v m).data.toList=some b):=hide (by
     intro a b ha hb e
     rw[hX0,hY0]
     rcases hB0.out a b ha hb e with⟨_,e2,_⟩ | ⟨_,_,e3,e4⟩
     ·omega
     ·rw [e3];exact⟨zB7 ha,e4⟩)
    generalize hgx:s.extract 0 v=X at hA;generalize hgy:s.extract v m=Y at hA;clear hB0 hY0 hX0 hat ht h;go_wp2_with (go_at_call 197;fail);refine (zC8 X _).mono ?_;intro e w1 hh;obtain⟨n,ok,rfl,hnb,hnp,rfl⟩:=hh.out;clear hh;cases ok with
    | false=>
     have hnt:Hid (¬IsText s):=hide (by
      rintro ⟨a,b,ha,hb,e⟩
      obtain⟨e1,_⟩:=hA.out a b ha hb e
      rw[hnp] at e1
      cases e1)
     clear hA hnp;go_wp2
     (try simp only[Exit.inBlock,Exit.then])
     refine bodyPost_ret (v:=.tuple #[.agg #[.int .i64 0,.int .i64 0],.int .i64 2]) ?_ rfl ⟨0,0,2,rfl,Or.inr ⟨rfl,rfl,rfl,hnt.out⟩,?_⟩
     ·rw [results_cell_tmp rfl];go_simp
     ·repeat' (first | exact Below.refl _ _ | refine Below.alloc ?_ (by simp<;>omega) _)
    | true=>
     have hB:Hid (∀a b,Small a->Small b->s.data.toList=text a b->n=a/\rimR Y.data.toList=some b):=hide (by
      intro a b ha hb e
      obtain⟨e1,e2⟩:=hA.out a b ha hb e
      rw[hnp] at e1
      exact⟨Option.some.inj e1,e2⟩)
     clear hA hnp;rcases r_cls Y with⟨k0,kr⟩ | ⟨k0,k1,kr⟩ | ⟨k0,k1,k2,kr⟩ | ⟨k0,k1,k2,kr⟩
     ·have hkey:Hid (∀a b,Small a->Small b->s.data.toList=text a b->n=a/\(1:Int)=b):=hide (by
       intro a b ha hb e
       obtain⟨e1,e2⟩:=hB.out a b ha hb e
       exact⟨e1,Option.some.inj (kr.symm.trans e2)⟩)
      clear hB kr;go_wp2_with (go_at_call 198;fail);by_cases hin:InB n 1
      ·have hS:=zA4 hin;have hW:=fun w=>zAs n 1 hin w
       unfold pairV at hW;have hX:=fun w hT=>zBi n 1 hS.1 hS.2 w hT
       by_cases he:s.data.toList=text n 1
       ·have hq:((txt (text n 1)).toList==s.toList)=true:=by rw[zAb,Lib.toList_data,he];exact beq_self_eq_true _
        have hfin:Hid (Small n/\Small 1/\s.data.toList=text n 1):=hide ⟨hS.1,hS.2,he⟩;generalize txt (text n 1)=S at hX hq;clear he hin hS hkey;go_wp2_with (first
         |(go_at_call 198;refine (hW _).mono ?_;rintro e w1 ⟨rfl,rfl⟩)
         |(go_at_call 199;fail))
        have hP0:=((Pf.new w 0 0).old (.cells #[.int .i64 n,.int .i64 1] 205)).old (.cells #[.int .i64 n,.int .i64 1] 205);have hP1:=(Pf.new (w.alloc (.cells #[.int .i64 0,.int .i64 0] 205)) n 1).old (.cells #[.int .i64 n,.int .i64 1] 205);have hsz:(w.alloc (.cells #[.int .i64 0,.int .i64 0] 205)).heap.size=w.heap.size+1:=by simp
        rw[hsz] at hP1;have hc:=(below2 w (.cells #[.int .i64 0,.int .i64 0] 205) (.cells #[.int .i64 n,.int .i64 1] 205)).trans ((below1 _ (.cells #[.int .i64 n,.int .i64 1] 205)).mono (by simp<;>omega));have hT3:=hT.below hc;clear hsz;generalize ((w.alloc (.cells #[.int .i64 0,.int .i64 0] 205)).alloc (.cells #[.int .i64 n,.int .i64 1] 205)).alloc (.cells #[.int .i64 n,.int .i64 1] 205)=w3 at *;refine (hX _ hT3).mono ?_;rintro e w5 ⟨rfl,hb5⟩;have hc5:=hc.trans (hb5.mono hc.size);obtain⟨⟨c0,c1,_⟩,f0,f1⟩:=hP0.below hb5;obtain⟨⟨c2,c3,_⟩,_,_⟩:=hP1.below hb5;clear hP0 hP1 hb5 hX hW hT hT3 hc;go_wp2
        (try simp only[Exit.inBlock,Exit.then])
        obtain⟨g0,g1⟩:=zAj c0 c1 (.int .i64 n) (.int .i64 1);have hbe:=(hc5.setCell (p:=⟨w.heap.size,0,none⟩) (Nat.le_refl _) (.int .i64 n)).setCell (p:=⟨w.heap.size,1,none⟩) (Nat.le_refl _) (.int .i64 1);refine bodyPost_ret (v:=.tuple #[.agg #[.int .i64 n,.int .i64 1],.int .i64 0]) ?_ rfl ⟨n,1,0,rfl,Or.inl ⟨rfl,hfin.out.1,hfin.out.2.1,hfin.out.2.2⟩,hbe⟩;rw[results_cell_tmp rfl];go_simp
       ·have hnt:Hid (¬IsText s):=hide (by
         rintro ⟨a,b,ha,hb,e⟩
         obtain⟨e1,e2⟩:=hkey.out a b ha hb e
         exact he (e.trans (congr (congrArg text e1) e2).symm))
        have hq:((txt (text n 1)).toList==s.toList)=false:=beq_false_of_ne (by rw[zAb,Lib.toList_data];exact fun e=>he e.symm);generalize txt (text n 1)=S at hX hq;clear he hin hS hkey;go_wp2_with (first
         |(go_at_call 198;refine (hW _).mono ?_;rintro e w1 ⟨rfl,rfl⟩)
         |(go_at_call 199;fail))
        have hP0:=((Pf.new w 0 0).old (.cells #[.int .i64 n,.int .i64 1] 205)).old (.cells #[.int .i64 n,.int .i64 1] 205);have hP1:=(Pf.new (w.alloc (.cells #[.int .i64 0,.int .i64 0] 205)) n 1).old (.cells #[.int .i64 n,.int .i64 1] 205);have hsz:(w.alloc (.cells #[.int .i64 0,.int .i64 0] 205)).heap.size=w.heap.size+1:=by simp
        rw[hsz] at hP1;have hc:=(below2 w (.cells #[.int .i64 0,.int .i64 0] 205) (.cells #[.int .i64 n,.int .i64 1] 205)).trans ((below1 _ (.cells #[.int .i64 n,.int .i64 1] 205)).mono (by simp<;>omega));have hT3:=hT.below hc;clear hsz;generalize ((w.alloc (.cells #[.int .i64 0,.int .i64 0] 205)).alloc (.cells #[.int .i64 n,.int .i64 1] 205)).alloc (.cells #[.int .i64 n,.int .i64 1] 205)=w3 at *;refine (hX _ hT3).mono ?_;rintro e w5 ⟨rfl,hb5⟩;have hc5:=hc.trans (hb5.mono hc.size);obtain⟨⟨c0,c1,_⟩,f0,f1⟩:=hP0.below hb5;obtain⟨⟨c2,c3,_⟩,_,_⟩:=hP1.below hb5;clear hP0 hP1 hb5 hX hW hT hT3 hc;go_wp2
        (try simp only[Exit.inBlock,Exit.then])
        obtain⟨g0,g1⟩:=zAj c0 c1 (.int .i64 0) (.int .i64 0);have hbe:=(hc5.setCell (p:=⟨w.heap.size,0,none⟩) (Nat.le_refl _) (.int .i64 0)).setCell (p:=⟨w.heap.size,1,none⟩) (Nat.le_refl _) (.int .i64 0);refine bodyPost_ret (v:=.tuple #[.agg #[.int .i64 0,.int .i64 0],.int .i64 2]) ?_ rfl ⟨0,0,2,rfl,Or.inr ⟨rfl,rfl,rfl,hnt.out⟩,hbe⟩;rw[results_cell_tmp rfl];go_simp
      ·have hnt:Hid (¬IsText s):=hide (by
        rintro ⟨a,b,ha,hb,e⟩
        obtain⟨e1,e2⟩:=hkey.out a b ha hb e
        exact hin (Eq.mpr (congr (congrArg InB e1) e2) (zA5 ha hb)))
       have hW:=fun w=>zAx n 1 hin w
       unfold pairV at hW;clear hin hkey;go_wp2_with (go_at_call 198;refine (hW _).mono ?_;rintro e w1 ⟨rfl,rfl⟩)
       (try simp only[Exit.inBlock,Exit.then])
       refine bodyPost_ret (v:=.tuple #[.agg #[.int .i64 0,.int .i64 0],.int .i64 2]) ?_ rfl ⟨0,0,2,rfl,Or.inr ⟨rfl,rfl,rfl,hnt.out⟩,?_⟩
       ·rw [results_cell_tmp rfl];go_simp
       ·repeat' (first | exact Below.refl _ _ | refine Below.alloc ?_ (by simp<;>omega) _)
     ·have hkey:Hid (∀a b,Small a->Small b->s.data.toList=text a b->n=a/\(1:Int)=b):=hide (by
       intro a b ha hb e
       obtain⟨e1,e2⟩:=hB.out a b ha hb e
       exact⟨e1,Option.some.inj (kr.symm.trans e2)⟩)
      clear hB kr;go_wp2_with (go_at_call 198;fail);by_cases hin:InB n 1
      ·have hS:=zA4 hin;have hW:=fun w=>zAs n 1 hin w
       unfold pairV at hW;have hX:=fun w hT=>zBi n 1 hS.1 hS.2 w hT
       by_cases he:s.data.toList=text n 1
       ·have hq:((txt (text n 1)).toList==s.toList)=true:=by rw[zAb,Lib.toList_data,he];exact beq_self_eq_true _
        have hfin:Hid (Small n/\Small 1/\s.data.toList=text n 1):=hide ⟨hS.1,hS.2,he⟩;generalize txt (text n 1)=S at hX hq;clear he hin hS hkey;go_wp2_with (first
         |(go_at_call 198;refine (hW _).mono ?_;rintro e w1 ⟨rfl,rfl⟩)
         |(go_at_call 199;fail))
        have hP0:=((Pf.new w 0 0).old (.cells #[.int .i64 n,.int .i64 1] 205)).old (.cells #[.int .i64 n,.int .i64 1] 205);have hP1:=(Pf.new (w.alloc (.cells #[.int .i64 0,.int .i64 0] 205)) n 1).old (.cells #[.int .i64 n,.int .i64 1] 205);have hsz:(w.alloc (.cells #[.int .i64 0,.int .i64 0] 205)).heap.size=w.heap.size+1:=by simp
        rw[hsz] at hP1;have hc:=(below2 w (.cells #[.int .i64 0,.int .i64 0] 205) (.cells #[.int .i64 n,.int .i64 1] 205)).trans ((below1 _ (.cells #[.int .i64 n,.int .i64 1] 205)).mono (by simp<;>omega));have hT3:=hT.below hc;clear hsz;generalize ((w.alloc (.cells #[.int .i64 0,.int .i64 0] 205)).alloc (.cells #[.int .i64 n,.int .i64 1] 205)).alloc (.cells #[.int .i64 n,.int .i64 1] 205)=w3 at *;refine (hX _ hT3).mono ?_;rintro e w5 ⟨rfl,hb5⟩;have hc5:=hc.trans (hb5.mono hc.size);obtain⟨⟨c0,c1,_⟩,f0,f1⟩:=hP0.below hb5;obtain⟨⟨c2,c3,_⟩,_,_⟩:=hP1.below hb5;clear hP0 hP1 hb5 hX hW hT hT3 hc;go_wp2
        (try simp only[Exit.inBlock,Exit.then])
        obtain⟨g0,g1⟩:=zAj c0 c1 (.int .i64 n) (.int .i64 1);have hbe:=(hc5.setCell (p:=⟨w.heap.size,0,none⟩) (Nat.le_refl _) (.int .i64 n)).setCell (p:=⟨w.heap.size,1,none⟩) (Nat.le_refl _) (.int .i64 1);refine bodyPost_ret (v:=.tuple #[.agg #[.int .i64 n,.int .i64 1],.int .i64 0]) ?_ rfl ⟨n,1,0,rfl,Or.inl ⟨rfl,hfin.out.1,hfin.out.2.1,hfin.out.2.2⟩,hbe⟩;rw[results_cell_tmp rfl];go_simp
       ·have hnt:Hid (¬IsText s):=hide (by
         rintro ⟨a,b,ha,hb,e⟩
         obtain⟨e1,e2⟩:=hkey.out a b ha hb e
         exact he (e.trans (congr (congrArg text e1) e2).symm))
        have hq:((txt (text n 1)).toList==s.toList)=false:=beq_false_of_ne (by rw[zAb,Lib.toList_data];exact fun e=>he e.symm);generalize txt (text n 1)=S at hX hq;clear he hin hS hkey;go_wp2_with (first
         |(go_at_call 198;refine (hW _).mono ?_;rintro e w1 ⟨rfl,rfl⟩)
         |(go_at_call 199;fail))
        have hP0:=((Pf.new w 0 0).old (.cells #[.int .i64 n,.int .i64 1] 205)).old (.cells #[.int .i64 n,.int .i64 1] 205);have hP1:=(Pf.new (w.alloc (.cells #[.int .i64 0,.int .i64 0] 205)) n 1).old (.cells #[.int .i64 n,.int .i64 1] 205);have hsz:(w.alloc (.cells #[.int .i64 0,.int .i64 0] 205)).heap.size=w.heap.size+1:=by simp
        rw[hsz] at hP1;have hc:=(below2 w (.cells #[.int .i64 0,.int .i64 0] 205) (.cells #[.int .i64 n,.int .i64 1] 205)).trans ((below1 _ (.cells #[.int .i64 n,.int .i64 1] 205)).mono (by simp<;>omega));have hT3:=hT.below hc;clear hsz;generalize ((w.alloc (.cells #[.int .i64 0,.int .i64 0] 205)).alloc (.cells #[.int .i64 n,.int .i64 1] 205)).alloc (.cells #[.int .i64 n,.int .i64 1] 205)=w3 at *;refine (hX _ hT3).mono ?_;rintro e w5 ⟨rfl,hb5⟩;have hc5:=hc.trans (hb5.mono hc.size);obtain⟨⟨c0,c1,_⟩,f0,f1⟩:=hP0.below hb5;obtain⟨⟨c2,c3,_⟩,_,_⟩:=hP1.below hb5;clear hP0 hP1 hb5 hX hW hT hT3 hc;go_wp2
        (try simp only[Exit.inBlock,Exit.then])
        obtain⟨g0,g1⟩:=zAj c0 c1 (.int .i64 0) (.int .i64 0);have hbe:=(hc5.setCell (p:=⟨w.heap.size,0,none⟩) (Nat.le_refl _) (.int .i64 0)).setCell (p:=⟨w.heap.size,1,none⟩) (Nat.le_refl _) (.int .i64 0);refine bodyPost_ret (v:=.tuple #[.agg #[.int .i64 0,.int .i64 0],.int .i64 2]) ?_ rfl ⟨0,0,2,rfl,Or.inr ⟨rfl,rfl,rfl,hnt.out⟩,hbe⟩;rw[results_cell_tmp rfl];go_simp
      ·have hnt:Hid (¬IsText s):=hide (by
        rintro ⟨a,b,ha,hb,e⟩
        obtain⟨e1,e2⟩:=hkey.out a b ha hb e
        exact hin (Eq.mpr (congr (congrArg InB e1) e2) (zA5 ha hb)))
       have hW:=fun w=>zAx n 1 hin w
       unfold pairV at hW;clear hin hkey;go_wp2_with (go_at_call 198;refine (hW _).mono ?_;rintro e w1 ⟨rfl,rfl⟩)
       (try simp only[Exit.inBlock,Exit.then])
       refine bodyPost_ret (v:=.tuple #[.agg #[.int .i64 0,.int .i64 0],.int .i64 2]) ?_ rfl ⟨0,0,2,rfl,Or.inr ⟨rfl,rfl,rfl,hnt.out⟩,?_⟩
       ·rw [results_cell_tmp rfl];go_simp
       ·repeat' (first | exact Below.refl _ _ | refine Below.alloc ?_ (by simp<;>omega) _)
     ·have hkey:Hid (∀a b,Small a->Small b->s.data.toList=text a b->n=a/\(-1:Int)=b):=hide (by
       intro a b ha hb e
       obtain⟨e1,e2⟩:=hB.out a b ha hb e
       exact⟨e1,Option.some.inj (kr.symm.trans e2)⟩)
      clear hB kr;go_wp2_with (go_at_call 198;fail);by_cases hin:InB n (-1)
      ·have hS:=zA4 hin;have hW:=fun w=>zAs n (-1) hin w
       unfold pairV at hW;have hX:=fun w hT=>zBi n (-1) hS.1 hS.2 w hT
       by_cases he:s.data.toList=text n (-1)
       ·have hq:((txt (text n (-1))).toList==s.toList)=true:=by rw[zAb,Lib.toList_data,he];exact beq_self_eq_true _
        have hfin:Hid (Small n/\Small (-1)/\s.data.toList=text n (-1)):=hide ⟨hS.1,hS.2,he⟩;generalize txt (text n (-1))=S at hX hq;clear he hin hS hkey;go_wp2_with (first
         |(go_at_call 198;refine (hW _).mono ?_;rintro e w1 ⟨rfl,rfl⟩)
         |(go_at_call 199;fail))
        have hP0:=((Pf.new w 0 0).old (.cells #[.int .i64 n,.int .i64 (-1)] 205)).old (.cells #[.int .i64 n,.int .i64 (-1)] 205);have hP1:=(Pf.new (w.alloc (.cells #[.int .i64 0,.int .i64 0] 205)) n (-1)).old (.cells #[.int .i64 n,.int .i64 (-1)] 205);have hsz:(w.alloc (.cells #[.int .i64 0,.int .i64 0] 205)).heap.size=w.heap.size+1:=by simp
        rw[hsz] at hP1;have hc:=(below2 w (.cells #[.int .i64 0,.int .i64 0] 205) (.cells #[.int .i64 n,.int .i64 (-1)] 205)).trans ((below1 _ (.cells #[.int .i64 n,.int .i64 (-1)] 205)).mono (by simp<;>omega));have hT3:=hT.below hc;clear hsz;generalize ((w.alloc (.cells #[.int .i64 0,.int .i64 0] 205)).alloc (.cells #[.int .i64 n,.int .i64 (-1)] 205)).alloc (.cells #[.int .i64 n,.int .i64 (-1)] 205)=w3 at *;refine (hX _ hT3).mono ?_;rintro e w5 ⟨rfl,hb5⟩;have hc5:=hc.trans (hb5.mono hc.size);obtain⟨⟨c0,c1,_⟩,f0,f1⟩:=hP0.below hb5;obtain⟨⟨c2,c3,_⟩,_,_⟩:=hP1.below hb5;clear hP0 hP1 hb5 hX hW hT hT3 hc;go_wp2
        (try simp only[Exit.inBlock,Exit.then])
        obtain⟨g0,g1⟩:=zAj c0 c1 (.int .i64 n) (.int .i64 (-1));have hbe:=(hc5.setCell (p:=⟨w.heap.size,0,none⟩) (Nat.le_refl _) (.int .i64 n)).setCell (p:=⟨w.heap.size,1,none⟩) (Nat.le_refl _) (.int .i64 (-1));refine bodyPost_ret (v:=.tuple #[.agg #[.int .i64 n,.int .i64 (-1)],.int .i64 0]) ?_ rfl ⟨n,(-1),0,rfl,Or.inl ⟨rfl,hfin.out.1,hfin.out.2.1,hfin.out.2.2⟩,hbe⟩;rw[results_cell_tmp rfl];go_simp
       ·have hnt:Hid (¬IsText s):=hide (by
         rintro ⟨a,b,ha,hb,e⟩
         obtain⟨e1,e2⟩:=hkey.out a b ha hb e
         exact he (e.trans (congr (congrArg text e1) e2).symm))
        have hq:((txt (text n (-1))).toList==s.toList)=false:=beq_false_of_ne (by rw[zAb,Lib.toList_data];exact fun e=>he e.symm);generalize txt (text n (-1))=S at hX hq;clear he hin hS hkey;go_wp2_with (first
         |(go_at_call 198;refine (hW _).mono ?_;rintro e w1 ⟨rfl,rfl⟩)
         |(go_at_call 199;fail))
        have hP0:=((Pf.new w 0 0).old (.cells #[.int .i64 n,.int .i64 (-1)] 205)).old (.cells #[.int .i64 n,.int .i64 (-1)] 205);have hP1:=(Pf.new (w.alloc (.cells #[.int .i64 0,.int .i64 0] 205)) n (-1)).old (.cells #[.int .i64 n,.int .i64 (-1)] 205);have hsz:(w.alloc (.cells #[.int .i64 0,.int .i64 0] 205)).heap.size=w.heap.size+1:=by simp
        rw[hsz] at hP1;have hc:=(below2 w (.cells #[.int .i64 0,.int .i64 0] 205) (.cells #[.int .i64 n,.int .i64 (-1)] 205)).trans ((below1 _ (.cells #[.int .i64 n,.int .i64 (-1)] 205)).mono (by simp<;>omega));have hT3:=hT.below hc;clear hsz;generalize ((w.alloc (.cells #[.int .i64 0,.int .i64 0] 205)).alloc (.cells #[.int .i64 n,.int .i64 (-1)] 205)).alloc (.cells #[.int .i64 n,.int .i64 (-1)] 205)=w3 at *;refine (hX _ hT3).mono ?_;rintro e w5 ⟨rfl,hb5⟩;have hc5:=hc.trans (hb5.mono hc.size);obtain⟨⟨c0,c1,_⟩,f0,f1⟩:=hP0.below hb5;obtain⟨⟨c2,c3,_⟩,_,_⟩:=hP1.below hb5;clear hP0 hP1 hb5 hX hW hT hT3 hc;go_wp2
        (try simp only[Exit.inBlock,Exit.then])
        obtain⟨g0,g1⟩:=zAj c0 c1 (.int .i64 0) (.int .i64 0);have hbe:=(hc5.setCell (p:=⟨w.heap.size,0,none⟩) (Nat.le_refl _) (.int .i64 0)).setCell (p:=⟨w.heap.size,1,none⟩) (Nat.le_refl _) (.int .i64 0);refine bodyPost_ret (v:=.tuple #[.agg #[.int .i64 0,.int .i64 0],.int .i64 2]) ?_ rfl ⟨0,0,2,rfl,Or.inr ⟨rfl,rfl,rfl,hnt.out⟩,hbe⟩;rw[results_cell_tmp rfl];go_simp
      ·have hnt:Hid (¬IsText s):=hide (by
        rintro ⟨a,b,ha,hb,e⟩
        obtain⟨e1,e2⟩:=hkey.out a b ha hb e
        exact hin (Eq.mpr (congr (congrArg InB e1) e2) (zA5 ha hb)))
       have hW:=fun w=>zAx n (-1) hin w
       unfold pairV at hW;clear hin hkey;go_wp2_with (go_at_call 198;refine (hW _).mono ?_;rintro e w1 ⟨rfl,rfl⟩)
       (try simp only[Exit.inBlock,Exit.then])
       refine bodyPost_ret (v:=.tuple #[.agg #[.int .i64 0,.int .i64 0],.int .i64 2]) ?_ rfl ⟨0,0,2,rfl,Or.inr ⟨rfl,rfl,rfl,hnt.out⟩,?_⟩
       ·rw [results_cell_tmp rfl];go_simp
       ·repeat' (first | exact Below.refl _ _ | refine Below.alloc ?_ (by simp<;>omega) _)
     ·replace kr:=hide kr;go_wp2_with (go_at_call 197;fail);refine (zC8 Y _).mono ?_;intro e w2 hh;obtain⟨n2,ok2,rfl,hnb2,hnp2,rfl⟩:=hh.out;clear hh;cases ok2 with
      | false=>
       have hnt:Hid (¬IsText s):=hide (by
        rintro ⟨a,b,ha,hb,e⟩
        obtain⟨e1,e2⟩:=hB.out a b ha hb e
        rw[kr.out,hnp2] at e2
        cases e2)
       clear hB kr hnp2;go_wp2
       (try simp only[Exit.inBlock,Exit.then])
       refine bodyPost_ret (v:=.tuple #[.agg #[.int .i64 0,.int .i64 0],.int .i64 2]) ?_ rfl ⟨0,0,2,rfl,Or.inr ⟨rfl,rfl,rfl,hnt.out⟩,?_⟩
       ·rw [results_cell_tmp rfl];go_simp
       ·repeat' (first | exact Below.refl _ _ | refine Below.alloc ?_ (by simp<;>omega) _)
      | true=>
       have hkey:Hid (∀a b,Small a->Small b->s.data.toList=text a b->n=a/\n2=b):=hide (by
        intro a b ha hb e
        obtain⟨e1,e2⟩:=hB.out a b ha hb e
        rw[kr.out,hnp2] at e2
        exact⟨e1,Option.some.inj e2⟩)
       clear hB kr hnp2;go_wp2_with (go_at_call 198;fail);by_cases hin:InB n n2
       ·have hS:=zA4 hin;have hW:=fun w=>zAs n n2 hin w
        unfold pairV at hW;have hX:=fun w hT=>zBi n n2 hS.1 hS.2 w hT
        by_cases he:s.data.toList=text n n2
        ·have hq:((txt (text n n2)).toList==s.toList)=true:=by rw[zAb,Lib.toList_data,he];exact beq_self_eq_true _
         have hfin:Hid (Small n/\Small n2/\s.data.toList=text n n2):=hide ⟨hS.1,hS.2,he⟩;generalize txt (text n n2)=S at hX hq;clear he hin hS hkey;go_wp2_with (first
          |(go_at_call 198;refine (hW _).mono ?_;rintro e w1 ⟨rfl,rfl⟩)
          |(go_at_call 199;fail))
         have hP0:=((Pf.new w 0 0).old (.cells #[.int .i64 n,.int .i64 n2] 205)).old (.cells #[.int .i64 n,.int .i64 n2] 205);have hP1:=(Pf.new (w.alloc (.cells #[.int .i64 0,.int .i64 0] 205)) n n2).old (.cells #[.int .i64 n,.int .i64 n2] 205);have hsz:(w.alloc (.cells #[.int .i64 0,.int .i64 0] 205)).heap.size=w.heap.size+1:=by simp
         rw[hsz] at hP1;have hc:=(below2 w (.cells #[.int .i64 0,.int .i64 0] 205) (.cells #[.int .i64 n,.int .i64 n2] 205)).trans ((below1 _ (.cells #[.int .i64 n,.int .i64 n2] 205)).mono (by simp<;>omega));have hT3:=hT.below hc;clear hsz;generalize ((w.alloc (.cells #[.int .i64 0,.int .i64 0] 205)).alloc (.cells #[.int .i64 n,.int .i64 n2] 205)).alloc (.cells #[.int .i64 n,.int .i64 n2] 205)=w3 at *;refine (hX _ hT3).mono ?_;rintro e w5 ⟨rfl,hb5⟩;have hc5:=hc.trans (hb5.mono hc.size);obtain⟨⟨c0,c1,_⟩,f0,f1⟩:=hP0.below hb5;obtain⟨⟨c2,c3,_⟩,_,_⟩:=hP1.below hb5;clear hP0 hP1 hb5 hX hW hT hT3 hc;go_wp2
         (try simp only[Exit.inBlock,Exit.then])
         obtain⟨g0,g1⟩:=zAj c0 c1 (.int .i64 n) (.int .i64 n2);have hbe:=(hc5.setCell (p:=⟨w.heap.size,0,none⟩) (Nat.le_refl _) (.int .i64 n)).setCell (p:=⟨w.heap.size,1,none⟩) (Nat.le_refl _) (.int .i64 n2);refine bodyPost_ret (v:=.tuple #[.agg #[.int .i64 n,.int .i64 n2],.int .i64 0]) ?_ rfl ⟨n,n2,0,rfl,Or.inl ⟨rfl,hfin.out.1,hfin.out.2.1,hfin.out.2.2⟩,hbe⟩;rw[results_cell_tmp rfl];go_simp
        ·have hnt:Hid (¬IsText s):=hide (by
          rintro ⟨a,b,ha,hb,e⟩
          obtain⟨e1,e2⟩:=hkey.out a b ha hb e
          exact he (e.trans (congr (congrArg text e1) e2).symm))
         have hq:((txt (text n n2)).toList==s.toList)=false:=beq_false_of_ne (by rw[zAb,Lib.toList_data];exact fun e=>he e.symm);generalize txt (text n n2)=S at hX hq;clear he hin hS hkey;go_wp2_with (first
          |(go_at_call 198;refine (hW _).mono ?_;rintro e w1 ⟨rfl,rfl⟩)
          |(go_at_call 199;fail))
         have hP0:=((Pf.new w 0 0).old (.cells #[.int .i64 n,.int .i64 n2] 205)).old (.cells #[.int .i64 n,.int .i64 n2] 205);have hP1:=(Pf.new (w.alloc (.cells #[.int .i64 0,.int .i64 0] 205)) n n2).old (.cells #[.int .i64 n,.int .i64 n2] 205);have hsz:(w.alloc (.cells #[.int .i64 0,.int .i64 0] 205)).heap.size=w.heap.size+1:=by simp
         rw[hsz] at hP1;have hc:=(below2 w (.cells #[.int .i64 0,.int .i64 0] 205) (.cells #[.int .i64 n,.int .i64 n2] 205)).trans ((below1 _ (.cells #[.int .i64 n,.int .i64 n2] 205)).mono (by simp<;>omega));have hT3:=hT.below hc;clear hsz;generalize ((w.alloc (.cells #[.int .i64 0,.int .i64 0] 205)).alloc (.cells #[.int .i64 n,.int .i64 n2] 205)).alloc (.cells #[.int .i64 n,.int .i64 n2] 205)=w3 at *;refine (hX _ hT3).mono ?_;rintro e w5 ⟨rfl,hb5⟩;have hc5:=hc.trans (hb5.mono hc.size);obtain⟨⟨c0,c1,_⟩,f0,f1⟩:=hP0.below hb5;obtain⟨⟨c2,c3,_⟩,_,_⟩:=hP1.below hb5;clear hP0 hP1 hb5 hX hW hT hT3 hc;go_wp2
         (try simp only[Exit.inBlock,Exit.then])
         obtain⟨g0,g1⟩:=zAj c0 c1 (.int .i64 0) (.int .i64 0);have hbe:=(hc5.setCell (p:=⟨w.heap.size,0,none⟩) (Nat.le_refl _) (.int .i64 0)).setCell (p:=⟨w.heap.size,1,none⟩) (Nat.le_refl _) (.int .i64 0);refine bodyPost_ret (v:=.tuple #[.agg #[.int .i64 0,.int .i64 0],.int .i64 2]) ?_ rfl ⟨0,0,2,rfl,Or.inr ⟨rfl,rfl,rfl,hnt.out⟩,hbe⟩;rw[results_cell_tmp rfl];go_simp
       ·have hnt:Hid (¬IsText s):=hide (by
         rintro ⟨a,b,ha,hb,e⟩
         obtain⟨e1,e2⟩:=hkey.out a b ha hb e
         exact hin (Eq.mpr (congr (congrArg InB e1) e2) (zA5 ha hb)))
        have hW:=fun w=>zAx n n2 hin w
        unfold pairV at hW;clear hin hkey;go_wp2_with (go_at_call 198;refine (hW _).mono ?_;rintro e w1 ⟨rfl,rfl⟩)
        (try simp only[Exit.inBlock,Exit.then])
        refine bodyPost_ret (v:=.tuple #[.agg #[.int .i64 0,.int .i64 0],.int .i64 2]) ?_ rfl ⟨0,0,2,rfl,Or.inr ⟨rfl,rfl,rfl,hnt.out⟩,?_⟩
        ·rw [results_cell_tmp rfl];go_simp
        ·repeat' (first | exact Below.refl _ _ | refine Below.alloc ?_ (by simp<;>omega) _)
theorem zHo (s:ByteArray) (hs:s.size<=281474976710656) (w:World) (hT:Tabs w):
  Calls Tryz.prog 167 #[.string s] w (RPost s w):=by
 by_cases h0:s.size=0
 ·exact zJ5 s h0 w hT
 ·by_cases h:NotI s
  ·exact zJw s (by omega) hs h w hT
  ·have h2:∃r,s.data.toList=r++[105]:=Classical.byContradiction fun hn=>h (fun r e=>hn ⟨r,e⟩)
   obtain⟨r,hr⟩:=h2;exact zK6 s r hr hs w hT
theorem at_ex (l:List UInt8):∀k,k+1<=l.length->∃v,AtUp l (k+1) v
 | 0,_=>⟨0,AtUp.start l⟩
 | k+1,h=>by
  obtain⟨v,hv⟩:=at_ex l k (by omega);have hx:l[k+1]?=some l[k+1]:=List.getElem?_eq_getElem (by omega);by_cases h1:l[k+1]=43
  ·exact ⟨k+1,AtUp.hit (by omega) hx (Or.inl h1)⟩
  ·by_cases h2:l[k+1]=45
   ·exact ⟨k+1,AtUp.hit (by omega) hx (Or.inr h2)⟩
   ·exact ⟨v,hv.miss hx ⟨h1,h2⟩⟩
theorem zMk {a b:Int} (ha:Small a) (hb:Small b) (h:Lib.itoa a=Lib.itoa b):a=b:=by
 have h1:=zB7 ha;rw[h,zB7 hb] at h1;exact (Option.some.inj h1).symm
theorem text_inj {a b c d:Int} (ha:Small a) (hb:Small b) (hc:Small c) (hd:Small d) (h:text a b=text c d):a=c/\b=d:=by
 have hs:=zCm (a:=a) (b:=b);rw[h,zCm] at hs;by_cases hb0:b=0
 ·have hd0:d=0:=by simpa[hb0] using hs
  subst hb0;subst hd0;unfold text at h;rw[if_pos rfl,if_pos rfl] at h;exact⟨zMk ha hc h,rfl⟩
 ·have hd0:d≠0:=by
   intro e;simp[hb0,e] at hs
  rw[zCa hb0,zCa hd0] at h;have e:=List.append_cancel_right h;obtain⟨v,hv⟩:=at_ex (body a b++[105]) (body a b).length (by simp);have hv1:AtUp (body a b++[105]) (body a b++[105]).length v:=by simpa using hv
  have hv2:AtUp (body c d++[105]) (body c d++[105]).length v:=by rw[<-e];exact hv1
  have k1:=zLk hb hb0 hv1;have k2:=zLk hd hd0 hv2;rw[<-e] at k2;rcases k1 with⟨e1,e2,e3⟩ | ⟨e1,e2,e3,e4⟩
  ·rcases k2 with⟨f1,f2,f3⟩ | ⟨f1,f2,f3,f4⟩
   ·exact ⟨e1.trans f1.symm,Option.some.inj (e3.symm.trans f3)⟩
   ·omega
  ·rcases k2 with⟨f1,f2,f3⟩ | ⟨f1,f2,f3,f4⟩
   ·omega
   ·exact ⟨zMk ha hc (e3.symm.trans f3),Option.some.inj (e4.symm.trans f4)⟩
structure PA (s:ByteArray) (x y:Nat) (p q f:Int):Prop where
 one:∀w,Tabs w->Calls Tryz.prog 246 #[.string s] w fun e w'=>e=.returned (.tuple #[.complex .f64 x y,.int .i64 f])/\Below w.heap.size w w'
 ref:∀w,Tabs w->Calls Tryz.prog 167 #[.string s] w fun e w'=>e=.returned (.tuple #[.agg #[.int .i64 p,.int .i64 q],.int .i64 f])/\Below w.heap.size w w'
 o1:(FloatKind.f64.format.order x (fl p)==some .eq)=true
 o2:(FloatKind.f64.format.order y (fl q)==some .eq)=true
end Go.Proofs.YtdkekamkmlpnhaaGreatDoor
