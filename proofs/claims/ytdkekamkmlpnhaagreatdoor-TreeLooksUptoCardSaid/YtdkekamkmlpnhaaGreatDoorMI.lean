/- Several texts in one: QConcat, QJoin, QMove, QFacts, QFew, QSame, QValue, QPValue. By an AI agent. -/
import Derived.Lib.AppendZeros
import Derived.Test.YtdkekamkmlpnhaaGreatDoorMH
set_option linter.unusedSimpArgs false
set_option linter.unusedVariables false
set_option maxRecDepth 100000
set_option maxHeartbeats 16000000
namespace Go.Proofs.YtdkekamkmlpnhaaGreatDoor
open Go.RowKit
structure Two (w:World) (h:Nat) (u v:Value):Prop where
 c0:w.cell? ⟨h,0,none⟩=some u
 c1:w.cell? ⟨h,1,none⟩=some v
 lt:h<w.heap.size
structure Above (l p:List UInt8):Prop where
 len:p.length<=1000
 und:underV l p=true
 deep:depthV p+1=depthV l
 le:depthV l<=12
theorem zJa (l:List UInt8):(∃p,parentV l=(p,true)/\Above l p)\/parentV l=([],false):=by
 cases rkey l with
 | no y e1 e2 h=>exact Or.inr (by unfold parentV;rw[h])
 | ok T ho h=>
  cases T with
  | nil=>exact Or.inr (by unfold parentV;rw[h])
  | cons t T=>
   have h2:=zBf ho.tail;refine Or.inl ⟨joinC T,by unfold parentV;rw[h],ho.tail.len,?_,?_,?_⟩
   ·unfold underV;rw[h,h2];exact und_app [t] T
   ·unfold depthV;rw[h,h2];rfl
   ·unfold depthV;rw[h];exact ho.le
theorem zBt {l:List UInt8} (h:(normT l).2=0):normT (normT l).1=normT l/\(normT l).1.length<=1000:=by
 cases pt l with
 | no e he h'=>rw[norm_no' h'] at h;simp only at h;omega
 | ok T ho h'=>
  rw[norm_yes' h'];exact⟨norm_yes' (zBf ho),ho.len⟩
noncomputable def valV (n v:List UInt8):List UInt8 × Int:=
 if (typ n).2≠5 then norm n v
 else if v.length<1\/200<v.length then ([],2)
 else if (normT v).2=0 then normT v
 else ([],2)
inductive Vway (n v:List UInt8):Prop where
 | other (h:((typ n).2==5)=false) (e:valV n v=norm n v)
 | short (h:((typ n).2==5)=true) (hv:v.length<1) (e:valV n v=([],2))
 | long (h:((typ n).2==5)=true) (hv:1<=v.length) (hw:200<v.length) (e:valV n v=([],2))
 | none (h:((typ n).2==5)=true) (hv:1<=v.length) (hw:v.length<=200) (hn:((normT v).2==0)=false) (e:valV n v=([],2))
 | name (h:((typ n).2==5)=true) (hv:1<=v.length) (hw:v.length<=200) (x:List UInt8) (hn:normT v=(x,0)) (e:valV n v=(x,0))
theorem vway (n v:List UInt8):Vway n v:=by
 by_cases h:(typ n).2=5
 ·have hb:((typ n).2==5)=true:=by rw[h];rfl
  by_cases h1:v.length<1
  ·exact .short hb h1 (by unfold valV;rw[if_neg (by simp[h]),if_pos (Or.inl h1)])
  ·by_cases h2:200<v.length
   ·exact .long hb (by omega) h2 (by unfold valV;rw[if_neg (by simp[h]),if_pos (Or.inr h2)])
   ·by_cases h3:(normT v).2=0
    ·have e:normT v=((normT v).1,0):=Prod.ext rfl h3;exact .name hb (by omega) (by omega) (normT v).1 e (by unfold valV;rw[if_neg (by simp[h]),if_neg (by omega),if_pos h3];exact e)
    ·exact .none hb (by omega) (by omega) (beq_false_of_ne h3) (by unfold valV;rw[if_neg (by simp[h]),if_neg (by omega),if_neg h3])
 ·exact .other (beq_false_of_ne h) (by unfold valV;rw[if_pos h])
theorem zC1 (n v:List UInt8) (hn:n.length<=1000000) (hv:v.length<=1000000) (w:World) (hT:TM w):
  Calls Tryz.prog 71 #[.string (txt n),.string (txt v)] w fun e w'=>e=.returned (.tuple #[.string (txt (valV n v).1),.int .i64 (valV n v).2])/\Below w.heap.size w w':=by
 have hTy:=fun w=>zB8 (txt n) (by rw[zAg];omega) w
 simp only[zAf] at hTy;have hsz:(txt v).size=v.length:=zAg v;obtain⟨M,hM⟩:∃M,txt (typ n).1=M:=⟨_,rfl⟩;obtain⟨x,hx⟩:∃x,(typ n).2=x:=⟨_,rfl⟩;rw[hM,hx] at hTy;cases vway n v with
 | other h e=>
  have hNo:=fun w hT=>zDw (txt n) (txt v) (by rw[zAg];omega) (by rw[zAg];omega) w hT
  simp only[zAf] at hNo;rw[hx] at h;rw[e];generalize txt (norm n v).1=X at *;generalize (norm n v).2=y at *;generalize txt n=s at *;generalize txt v=t at *;have h2:(x !=5)=true:=by unfold bne;rw[h];rfl
  clear hM hx e hsz hn hv;go_enter Tryz.func71,Tryz.ntmps71;go_wp2_with (go_at_call 118;fail);refine (hTy _).mono ?_;rintro e w1 ⟨rfl,hb1⟩;go_wp2_with (go_at_call 124;fail);refine (hNo _ (hT.below hb1).tt).mono ?_;rintro e w2 ⟨rfl,hb2⟩;have hb3:=hb1.trans (hb2.mono hb1.size);clear hb1 hb2 hTy hNo;go_wp2;go_ret2;exact⟨rfl,hb3⟩
 | short h h1 e=>
  rw[hx] at h;rw[e];have z1:((txt v).size:Int)<1:=by omega
  generalize txt n=s at *;generalize txt v=t at *;have h2:(x !=5)=false:=by unfold bne;rw[h];rfl
  clear hM hx e hsz hn hv;go_enter Tryz.func71,Tryz.ntmps71;go_wp2_with (go_at_call 118;fail);refine (hTy _).mono ?_;rintro e w1 ⟨rfl,hb1⟩;clear hTy;go_wp2;go_ret2;exact⟨rfl,hb1⟩
 | long h h1 h3 e=>
  rw[hx] at h;rw[e];have z1:¬((txt v).size:Int)<1:=by omega
  have z2:(200:Int)<((txt v).size:Int):=by omega
  generalize txt n=s at *;generalize txt v=t at *;have h2:(x !=5)=false:=by unfold bne;rw[h];rfl
  clear hM hx e hsz hn hv h1 h3;go_enter Tryz.func71,Tryz.ntmps71;go_wp2_with (go_at_call 118;fail);refine (hTy _).mono ?_;rintro e w1 ⟨rfl,hb1⟩;clear hTy;go_wp2;go_ret2;exact⟨rfl,hb1⟩
 | none h h1 h3 hno e=>
  have hNo:=fun w hT=>zBl v (by omega) w hT
  rw[hx] at h;rw[e];have z1:¬((txt v).size:Int)<1:=by omega
  have z2:¬(200:Int)<((txt v).size:Int):=by omega
  have hno2:((normT v).2 !=0)=true:=by unfold bne;rw[hno];rfl
  generalize txt (normT v).1=X at *;generalize (normT v).2=y at *;generalize txt n=s at *;generalize txt v=t at *;have h2:(x !=5)=false:=by unfold bne;rw[h];rfl
  clear hM hx e hsz hn hv h1 h3;go_enter Tryz.func71,Tryz.ntmps71;go_wp2_with (go_at_call 118;fail);refine (hTy _).mono ?_;rintro e w1 ⟨rfl,hb1⟩;go_wp2_with (go_at_call 46;fail);refine (hNo _ (hT.below hb1)).mono ?_;rintro e w2 ⟨rfl,hb2⟩;have hb3:=hb1.trans (hb2.mono hb1.size);clear hb1 hb2 hTy hNo;go_wp2;go_ret2;exact⟨rfl,hb3⟩
 | name h h1 h3 u hno e=>
  have hNo:=fun w hT=>zBl v (by omega) w hT
  rw[hno] at hNo;rw[hx] at h;rw[e];have z1:¬((txt v).size:Int)<1:=by omega
  have z2:¬(200:Int)<((txt v).size:Int):=by omega
  simp only at hNo ⊢;generalize txt u=X at *;generalize txt n=s at *;generalize txt v=t at *;have h2:(x !=5)=false:=by unfold bne;rw[h];rfl
  clear hM hx e hsz hn hv h1 h3 hno;go_enter Tryz.func71,Tryz.ntmps71;go_wp2_with (go_at_call 118;fail);refine (hTy _).mono ?_;rintro e w1 ⟨rfl,hb1⟩;go_wp2_with (go_at_call 46;fail);refine (hNo _ (hT.below hb1)).mono ?_;rintro e w2 ⟨rfl,hb2⟩;have hb3:=hb1.trans (hb2.mono hb1.size);clear hb1 hb2 hTy hNo;go_wp2;go_ret2;exact⟨rfl,hb3⟩
theorem zB9 (n v:List UInt8) (hn:n.length<=1000000) (hv:v.length<=1000000) (w:World) (hT:TM w):
  Calls Tryz.prog 148 #[.string (txt n),.string (txt v)] w fun e w'=>e=.returned (.tuple #[.string (txt (valV n v).1),.int .i64 (valV n v).2])/\Below w.heap.size w w':=by
 have hTy:=fun w hT=>zB1 (txt n) w hT
 simp only[zAf] at hTy;have hsz:(txt v).size=v.length:=zAg v;obtain⟨M,hM⟩:∃M,txt (typ n).1=M:=⟨_,rfl⟩;obtain⟨x,hx⟩:∃x,(typ n).2=x:=⟨_,rfl⟩;rw[hM,hx] at hTy;cases vway n v with
 | other h e=>
  have hNo:=fun w hT=>zEt (txt n) (txt v) (by rw[zAg];omega) w hT
  simp only[zAf] at hNo;rw[hx] at h;rw[e];generalize txt (norm n v).1=X at *;generalize (norm n v).2=y at *;generalize txt n=s at *;generalize txt v=t at *;have h2:(x !=5)=true:=by unfold bne;rw[h];rfl
  clear hM hx e hsz hn hv;go_enter Tryz.func148,Tryz.ntmps148;go_wp2_with (go_at_call 104;fail);refine (hTy _ hT.tt.types).mono ?_;rintro e w1 ⟨rfl,hb1⟩;go_wp2_with (go_at_call 188;fail);refine (hNo _ (hT.below hb1).tt).mono ?_;rintro e w2 ⟨rfl,hb2⟩;have hb3:=hb1.trans (hb2.mono hb1.size);clear hb1 hb2 hTy hNo;go_wp2;go_ret2;exact⟨rfl,hb3⟩
 | short h h1 e=>
  rw[hx] at h;rw[e];have e0:((txt v).toList==[])=true:=by cases v with | nil=>exact zIr | cons a r=>simp at h1
  generalize txt n=s at *;generalize txt v=t at *;have h2:(x !=5)=false:=by unfold bne;rw[h];rfl
  clear hM hx e hsz hn hv;go_enter Tryz.func148,Tryz.ntmps148;go_wp2_with (go_at_call 104;fail);refine (hTy _ hT.tt.types).mono ?_;rintro e w1 ⟨rfl,hb1⟩;clear hTy;go_wp2;go_ret2;exact⟨rfl,hb1⟩
 | long h h1 h3 e=>
  rw[hx] at h;rw[e];have e0:((txt v).toList==[])=false:=zBw (by rintro rfl;simp at h1);have z2:(200:Int)<((txt v).size:Int):=by omega
  generalize txt n=s at *;generalize txt v=t at *;have h2:(x !=5)=false:=by unfold bne;rw[h];rfl
  clear hM hx e hsz hn hv h1 h3;go_enter Tryz.func148,Tryz.ntmps148;go_wp2_with (go_at_call 104;fail);refine (hTy _ hT.tt.types).mono ?_;rintro e w1 ⟨rfl,hb1⟩;clear hTy;go_wp2;go_ret2;exact⟨rfl,hb1⟩
 | none h h1 h3 hno e=>
  have hNo:=fun w hT=>zBk v (by omega) w hT
  rw[hx] at h;rw[e];have e0:((txt v).toList==[])=false:=zBw (by rintro rfl;simp at h1);have z2:¬(200:Int)<((txt v).size:Int):=by omega
  have hno2:((normT v).2 !=0)=true:=by unfold bne;rw[hno];rfl
  generalize txt (normT v).1=X at *;generalize (normT v).2=y at *;generalize txt n=s at *;generalize txt v=t at *;have h2:(x !=5)=false:=by unfold bne;rw[h];rfl
  clear hM hx e hsz hn hv h1 h3;go_enter Tryz.func148,Tryz.ntmps148;go_wp2_with (go_at_call 104;fail);refine (hTy _ hT.tt.types).mono ?_;rintro e w1 ⟨rfl,hb1⟩;go_wp2_with (go_at_call 42;fail);refine (hNo _ (hT.below hb1)).mono ?_;rintro e w2 ⟨rfl,hb2⟩;have hb3:=hb1.trans (hb2.mono hb1.size);clear hb1 hb2 hTy hNo;go_wp2;go_ret2;exact⟨rfl,hb3⟩
 | name h h1 h3 u hno e=>
  have hNo:=fun w hT=>zBk v (by omega) w hT
  rw[hno] at hNo;rw[hx] at h;rw[e];have e0:((txt v).toList==[])=false:=zBw (by rintro rfl;simp at h1);have z2:¬(200:Int)<((txt v).size:Int):=by omega
  simp only at hNo ⊢;generalize txt u=X at *;generalize txt n=s at *;generalize txt v=t at *;have h2:(x !=5)=false:=by unfold bne;rw[h];rfl
  clear hM hx e hsz hn hv h1 h3 hno;go_enter Tryz.func148,Tryz.ntmps148;go_wp2_with (go_at_call 104;fail);refine (hTy _ hT.tt.types).mono ?_;rintro e w1 ⟨rfl,hb1⟩;go_wp2_with (go_at_call 42;fail);refine (hNo _ (hT.below hb1)).mono ?_;rintro e w2 ⟨rfl,hb2⟩;have hb3:=hb1.trans (hb2.mono hb1.size);clear hb1 hb2 hTy hNo;go_wp2;go_ret2;exact⟨rfl,hb3⟩
end Go.Proofs.YtdkekamkmlpnhaaGreatDoor
