/- The statement's digits: an integer's text. By an AI agent. -/
import Derived.Test.YtadlmhclpaifoaaGreatDoorMC
set_option linter.unusedSimpArgs false
set_option linter.unusedVariables false
set_option maxRecDepth 100000
set_option maxHeartbeats 8000000
namespace Go.Proofs.YtadlmhclpaifoaaGreatDoor
open Go.RowKit
structure Dg9 (M m:Nat) (L:List UInt8):Prop where
 out:(L=[]/\m=M)\/(L≠[]/\Lib.decDigits M=(if m=0 then [] else Lib.decDigits m)++L)
theorem Dg9.step {M m:Nat} {L:List UInt8} (h:Dg9 M m L) (hm:0<m\/L=[]):Dg9 M (m/10) (UInt8.ofNat (48+m % 10)::L):=by
 refine⟨Or.inr ⟨by simp,?_⟩⟩;have key:Lib.decDigits m=(if m/10=0 then [] else Lib.decDigits (m/10))++[UInt8.ofNat (48+m % 10)]:=by
  by_cases h10:m<10
  ·rw [Lib.decDigits,dif_pos h10,if_pos (by omega)];have:m % 10=m:=by omega
   rw[this];rfl
  ·rw [Lib.decDigits,dif_neg h10,if_neg (by omega)]
 rcases h.out with⟨rfl,rfl⟩ | ⟨hL,e⟩
 ·exact key
 ·have hm0:m≠0:=by rcases hm with h | h;omega;exact absurd h hL
  rw[if_neg hm0,key] at e;rw[e];simp
theorem Dg9.done {M:Nat} {L:List UInt8} (h:Dg9 M 0 L) (hL:L≠[]):Lib.decDigits M=L:=by
 rcases h.out with⟨h1,_⟩ | ⟨_,e⟩
 ·exact absurd h1 hL
 ·simpa using e
theorem digits9_any (n:Int) (h0: -999999999999999999<=n) (h1:n<=999999999999999999) (w:World):
  Calls Tryz.prog 24 #[.int .i64 n] w fun e w'=>e=.returned (.string (txt (Lib.itoa n)))/\Below w.heap.size w w':=by
 have hmax:max n (-n)=(n.natAbs:Int):=by omega
 go_enter Tryz.func24,Tryz.ntmps24;go_wp2
 go_loopg [3,4] 19 (fun k s3 s4 wx=>∃(m:Nat) (L:List UInt8),m<10 ^ k/\(L=[]->1<=k)/\L.length+k<=19/\m<=999999999999999999/\s3=.string (txt L)/\s4=.int .i64 (m:Int)/\Hid (Dg9 n.natAbs m L)/\Below w.heap.size w wx)
 case atStart=>exact⟨n.natAbs,[],by omega,fun _=>by omega,by simp,by omega,rfl,rfl,hide ⟨Or.inl ⟨rfl,rfl⟩⟩,Below.refl _ _⟩
 case round=>
  obtain⟨m,L,hmk,hLk,hL19,hm9,rfl,rfl,hd,hb⟩:=hrel;have hXs:(txt L).size<=19:=by rw[zAg];omega
  replace hL19:=hide hL19;have hm18:Hid (m<10 ^ gk):=hide hmk;by_cases hex:m=0/\L≠[]
  ·obtain ⟨rfl,hL⟩:=hex;have hdone:=hd.out.done hL;have hE:(txt L).toList.isEmpty=false:=by rw[zAe];simpa using hL
   have hneg:Hid ((⟨#[45]⟩:ByteArray)++txt L=txt (45::L)):=hide (zBi [45] L);have hit:Lib.itoa n=if n<0 then 45::L else L:=by
    unfold Lib.itoa;split
    ·rw [hdone]
    ·rw [<-hdone];congr 1;omega
   have hr:=hide hit;clear hd hdone hL hLk hmk hit hm18;by_cases hn:n<0
   ·have hr2:=hide (hr.out.trans (if_pos hn));generalize txt L=X at *;clear hr;go_wp2;go_ret;exact⟨by rw[hr2.out];exact congrArg (fun z=>Ending.returned (Value.string z)) hneg.out,hb⟩
   ·have hr2:=hide (hr.out.trans (if_neg hn));generalize hX:txt L=X at *;clear hr hneg;go_wp2;go_ret;exact⟨by rw[hr2.out,hX];rfl,hb⟩
  ·cases gk with
   | zero=>
    exfalso;have:m=0:=by omega
    exact hex ⟨this,fun e=>by have:=hLk e;omega⟩
   | succ g=>
    have hcond:0<m\/L=[]:=by
     by_cases h:L=[]
     ·exact Or.inr h
     ·rcases Nat.eq_zero_or_pos m with h0 | h0
      ·exact absurd ⟨h0,h⟩ hex
      ·exact Or.inl h0
    have hstep:=hide (hd.out.step hcond);have hm2:Hid (m/10<10 ^ g):=hide (by rw[Nat.pow_succ] at hmk;omega);have hone:=one8 wr (UInt8.ofNat (48+m % 10));have ht8:=txt8 _ 1 (Has.own hone);have hcat:Hid (txt [UInt8.ofNat (48+m % 10)]++txt L=txt (UInt8.ofNat (48+m % 10)::L)):=hide (zBi _ L);rw[c8_ofNat,show ((48+m % 10:Nat):Int) % 256=48+(m:Int) % 10 by omega] at ht8;have hDs:(txt [UInt8.ofNat (48+m % 10)]).size<=1:=by rw[zAg];simp
    generalize txt [UInt8.ofNat (48+m % 10)]=D at *;generalize hX:txt L=X at *;clear hone hd hmk hLk hex;have hfin:Hid (m/10<=999999999999999999):=hide (by omega);by_cases hpos:0<m
    ·have hpz:(0:Int)<(m:Int):=by omega
     clear hcond;go_wp2
     go_roundg g
     case measure=>omega
     case rel=>exact⟨m/10,UInt8.ofNat (48+m % 10)::L,hm2.out,fun e=>(by cases e),by have:=hL19.out;simp;omega,hfin.out,by rw[hcat.out],by go_num,hstep,hb.trans ((below1 wr _).mono hb.size)⟩
    ·have hL0:L=[]:=hcond.resolve_left hpos;have hE:X.toList.isEmpty=true:=by rw[<-hX,hL0,zAe];rfl
     have hpz:¬(0:Int)<(m:Int):=(by omega);clear hcond;go_wp2
     go_roundg g
     case measure=>omega
     case rel=>exact⟨m/10,UInt8.ofNat (48+m % 10)::L,hm2.out,fun e=>(by cases e),by have:=hL19.out;simp;omega,hfin.out,by rw[hcat.out],by go_num,hstep,hb.trans ((below1 wr _).mono hb.size)⟩
end Go.Proofs.YtadlmhclpaifoaaGreatDoor
