/- Several texts in one: Sums, RefSums, Adds, Norm, Back, Whole, ReckA, Reck, Cmp, Comp, Prints, RefNum, RefParse, Parses. By an AI agent. -/
import Derived.Test.YtaolhefllfnmiaaGreatDoorMA
import Derived.Laws.ComplexArith
import Derived.BigQuiet
import Derived.Deep.QuietTactic
import Derived.Handy
import Derived.Deep.LoopGhost
set_option maxRecDepth 100000
set_option maxHeartbeats 4000000
namespace Go.Proofs.YtaolhefllfnmiaaGreatDoor
open Go.RowKit Flt
set_option linter.unusedVariables false
structure Sn (x:Nat) (s:Bool) (n:Int):Prop where
 lt:x<2 ^ 64
 num:IsN (Ieee.double.read x) s n
structure Fw (x:Nat) (n:Int):Prop where
 lt:x<2 ^ 64
 num:IsN (Ieee.double.read x) (decide (n<0)) n
theorem Fw.sn {x:Nat} {n:Int} (h:Fw x n):Sn x (decide (n<0)) n:=⟨h.lt,h.num⟩
theorem part_fw {x:Nat} {n:Int} (h:Part x n):Fw x n:=⟨h.1,h.2.1⟩
theorem sn_write {d:Ieee.Datum} {s:Bool} {n:Int} (hd:IsN d s n) (hn:n.natAbs<2 ^ 53):Sn (Ieee.double.write d) s n:=⟨Ieee.Format.write_lt Ieee.double d,write_num hd hn⟩
theorem f_add {x y:Nat} {s t:Bool} {n m:Int} (hx:Sn x s n) (hy:Sn y t m) (hb:(n+m).natAbs<2 ^ 53):
  ∃r,floatBits .add .f64 x y=some r∧Sn r (if n+m=0 then s&&t else decide (n+m<0)) (n+m):=by
 obtain⟨d,e,hd⟩:=sum_num hx.num hy.num
 refine⟨Ieee.double.write d,?_,sn_write hd hb⟩
 show ((Ieee.double.read x).sum (Ieee.double.read y)).map Ieee.double.write=_
 rw[e];rfl
theorem f_sub {x y:Nat} {s t:Bool} {n m:Int} (hx:Sn x s n) (hy:Sn y t m) (hb:(n-m).natAbs<2 ^ 53):
  ∃r,floatBits .sub .f64 x y=some r∧∃u,Sn r u (n-m):=by
 obtain⟨d,e,hd⟩:=sum_num hx.num (opp_num hy.num)
 rw[←Int.sub_eq_add_neg] at hd
 refine⟨Ieee.double.write d,?_,_,sn_write hd hb⟩
 show ((Ieee.double.read x).sum (Ieee.double.read y).opposite).map Ieee.double.write=_
 rw[e];rfl
theorem f_mul {x y:Nat} {s t:Bool} {n m:Int} (hx:Sn x s n) (hy:Sn y t m) (hb:(n*m).natAbs<2 ^ 53):
  ∃r,floatBits .mul .f64 x y=some r∧Sn r (s ^^ t) (n*m):=by
 obtain⟨d,e,hd⟩:=product_num hx.num hy.num
 refine⟨Ieee.double.write d,?_,sn_write hd hb⟩
 show ((Ieee.double.read x).product (Ieee.double.read y)).map Ieee.double.write=_
 rw[e];rfl
theorem abs_small {a:Int} (h0: -1000000≤a) (h1:a≤1000000):a.natAbs≤1000000:=by omega
theorem mul_abs {a b:Int} (ha:a.natAbs≤1000000) (hb:b.natAbs≤1000000):(a*b).natAbs≤1000000000000:=by
 rw[Int.natAbs_mul];exact Nat.mul_le_mul ha hb
end Go.Proofs.YtaolhefllfnmiaaGreatDoor
namespace Go.Proofs.YtaolhefllfnmiaaGreatDoor
open Go.RowKit Flt
set_option linter.unusedVariables false
end Go.Proofs.YtaolhefllfnmiaaGreatDoor
namespace Go.Proofs.YtaolhefllfnmiaaGreatDoor
open Go.RowKit Flt
set_option linter.unusedVariables false
end Go.Proofs.YtaolhefllfnmiaaGreatDoor
namespace Go.Proofs.YtaolhefllfnmiaaGreatDoor
open Go.RowKit Flt
set_option linter.unusedVariables false
theorem xor_top (x:Nat) (hx:x<2 ^ 64):x ^^^ 2 ^ 63=Ieee.double.word (!decide (2 ^ 63≤x)) (x % 2 ^ 63):=by
 have hw:Ieee.double.signWeight=2 ^ 63:=rfl
 have hr:x % 2 ^ 63<2 ^ 63:=Nat.mod_lt _ (Nat.two_pow_pos 63)
 have key:∀q,q=0∨q=1→(2 ^ 63*q+x % 2 ^ 63) ^^^ 2 ^ 63=2 ^ 63*(1-q)+x % 2 ^ 63:=by
  intro q hq
  apply Nat.eq_of_testBit_eq
  intro j
  rw[Nat.testBit_xor,Nat.testBit_two_pow_mul_add _ hr,Nat.testBit_two_pow_mul_add _ hr,Nat.testBit_two_pow]
  by_cases hj:j<63
  ·simp [hj,show ¬63=j by omega]
  ·rcases hq with rfl | rfl
   ·by_cases h63:63=j
    ·subst h63;simp
    ·obtain ⟨k,hk⟩:∃k,j-63=k+1:=⟨j-64,by omega⟩
     simp only[hj,if_false,h63,hk]
     simp[Nat.testBit_succ]
   ·by_cases h63:63=j
    ·subst h63;simp
    ·obtain ⟨k,hk⟩:∃k,j-63=k+1:=⟨j-64,by omega⟩
     simp only[hj,if_false,h63,hk]
     simp[Nat.testBit_succ]
 by_cases h:2 ^ 63≤x
 ·have e:x=2 ^ 63*1+x % 2 ^ 63:=by omega
  have k:=key 1 (Or.inr rfl)
  rw[←e] at k
  rw[k]
  simp[Ieee.Format.word,h]
 ·have e:x=2 ^ 63*0+x % 2 ^ 63:=by omega
  have k:=key 0 (Or.inl rfl)
  rw[←e] at k
  rw[k]
  simp[Ieee.Format.word,h,hw]
theorem read_neg (x:Nat) (hx:x<2 ^ 64):Ieee.double.read (x ^^^ 2 ^ 63)=(Ieee.double.read x).opposite:=by
 rw[xor_top x hx,read_word _ _ (Nat.mod_lt _ (Nat.two_pow_pos 63)),read_eq x hx]
 by_cases h1:x % 2 ^ 63<2 ^ 52
 ·simp only[if_pos h1];rfl
 ·by_cases h2:x % 2 ^ 63<2047*2 ^ 52
  ·simp only[if_neg h1,if_pos h2];rfl
  ·by_cases h3:x % 2 ^ 63=2047*2 ^ 52
   ·simp only[if_neg h1,if_neg h2,if_pos h3];rfl
   ·simp only[if_neg h1,if_neg h2,if_neg h3];rfl
theorem neg_sn {x:Nat} {s:Bool} {n:Int} (h:Sn x s n):Sn (Op.negFloat .f64 x) (!s) (-n):=by
 have e:Op.negFloat .f64 x=x ^^^ 2 ^ 63:=rfl
 rw[e]
 refine⟨?_,by rw[read_neg x h.lt];exact opp_num h.num⟩
 rw[xor_top x h.lt]
 have hw:Ieee.double.signWeight=2 ^ 63:=rfl
 unfold Ieee.Format.word
 split<;>omega
theorem c_norm {x y:Nat} {a b:Int} (h:Num x y a b):∃r i,cMulBits x y x (Op.negFloat .f64 y)=some (r,i)∧∃s,Sn r s (a*a+b*b):=by
 obtain⟨⟨_,_,a0,a1⟩,⟨_,_,b0,b1⟩⟩:=id h
 have ha:=abs_small a0 a1
 have hb:=abs_small b0 b1
 have hb':(-b).natAbs≤1000000:=by omega
 have e1:=mul_abs ha ha
 have e2:=mul_abs hb hb'
 have e3:=mul_abs ha hb'
 have e4:=mul_abs hb ha
 have sx:=(part_fw h.1).sn
 have sy:=(part_fw h.2).sn
 have sn:=neg_sn sy
 obtain⟨ac,h1,f1⟩:=f_mul sx sx (by omega)
 obtain⟨bd,h2,f2⟩:=f_mul sy sn (by omega)
 obtain⟨r,h3,s3,f3⟩:=f_sub f1 f2 (by omega)
 obtain⟨ad,h4,f4⟩:=f_mul sx sn (by omega)
 obtain⟨bc,h5,f5⟩:=f_mul sy sx (by omega)
 obtain⟨i,h6,f6⟩:=f_add f4 f5 (by omega)
 refine⟨r,i,?_,s3,?_⟩
 ·unfold cMulBits
  rw[h1,h2];simp only[Option.bind_some]
  rw[h3,h4,h5];simp only[Option.bind_some]
  rw[h6];rfl
 ·have e:a*a-b* -b=a*a+b*b:=by rw[Int.mul_neg];omega
  rw[←e];exact f3
theorem sn_int {x:Nat} {s:Bool} {n:Int} (h:Sn x s n) (h0: -9000000000000000≤n) (h1:n≤9000000000000000):floatToIntVal .f64 x .i64=some n:=by
 have h2:(FloatKind.f64.decode x).toInt .zero=some n:=toInt_num h.num
 unfold floatToIntVal
 rw[h2]
 have e1:IntKind.min .i64= -9223372036854775808:=rfl
 have e2:IntKind.max .i64=9223372036854775807:=rfl
 simp only[e1,e2]
 rw[if_pos (by omega)]
theorem sq_bounds {a b:Int} (a0: -1000000≤a) (a1:a≤1000000) (b0: -1000000≤b) (b1:b≤1000000):0≤a*a+b*b∧a*a+b*b≤2000000000000:=by
 have h1:=mul_abs (abs_small a0 a1) (abs_small a0 a1)
 have h2:=mul_abs (abs_small b0 b1) (abs_small b0 b1)
 have h3:0≤a*a:=by
  rcases Int.le_total 0 a with h | h
  ·exact Int.mul_nonneg h h
  ·exact Int.mul_nonneg_of_nonpos_of_nonpos h h
 have h4:0≤b*b:=by
  rcases Int.le_total 0 b with h | h
  ·exact Int.mul_nonneg h h
  ·exact Int.mul_nonneg_of_nonpos_of_nonpos h h
 omega
theorem norm_yes (x y:Nat) (a b:Int) (h:Num x y a b) (w:World):
  Calls Tryz.prog 127 #[.complex .f64 x y] w fun e w'=>e=.returned (.int .i64 (a*a+b*b))∧Below w.heap.size w w':=by
 have hF:=fun w=>formed_yes x y a b h w
 obtain⟨r,i,hm,s,hs⟩:=c_norm h
 have hb:=sq_bounds h.1.2.2.1 h.1.2.2.2 h.2.2.2.1 h.2.2.2.2
 have hi:=sn_int hs (by omega) (by omega)
 have hmul:∀W:World,(binOp .mul 129 (.complex .f64 x y) (.complex .f64 x (Op.negFloat .f64 y))).run Tryz.prog W=.ok (.complex .f64 r i) W:=fun W=>run_complex_mul W _ _ _ _ _ _ _ hm
 have hc:=conv64 r _ hi
 generalize a*a+b*b=N at hc ⊢
 have hneg:Op.unary .neg (.float .f64 y)=pure (.float .f64 (Op.negFloat .f64 y)):=rfl
 generalize Op.negFloat .f64 y=ny at hmul hneg
 clear h hm hs hi hb
 go_enter Tryz.func127,Tryz.ntmps127
 go_wp2_with (go_at_call 152;refine (hF _).mono ?_;rintro e w1 ⟨rfl,hb1⟩)
 go_ret
 exact⟨rfl,hb1⟩
end Go.Proofs.YtaolhefllfnmiaaGreatDoor
namespace Go.Proofs.YtaolhefllfnmiaaGreatDoor
open Go.RowKit Flt
set_option linter.unusedVariables false
theorem num_fl {a b:Int} (ha:Small a) (hb:Small b):Num (fl a) (fl b) a b:=⟨part_fl' ha,part_fl' hb⟩
end Go.Proofs.YtaolhefllfnmiaaGreatDoor
namespace Go.Proofs.YtaolhefllfnmiaaGreatDoor
open Go.RowKit Flt
set_option linter.unusedVariables false
end Go.Proofs.YtaolhefllfnmiaaGreatDoor
namespace Go.Proofs.YtaolhefllfnmiaaGreatDoor
open Go.RowKit Flt
set_option linter.unusedVariables false
end Go.Proofs.YtaolhefllfnmiaaGreatDoor
namespace Go.Proofs.YtaolhefllfnmiaaGreatDoor
open Go.RowKit Flt
set_option linter.unusedVariables false
theorem below_of_alloc {w w':World} {o:Obj} (h:Below (w.alloc o).heap.size (w.alloc o) w'):Below w.heap.size w w':=
 (below1 w o).trans (h.mono (below1 w o).size)
end Go.Proofs.YtaolhefllfnmiaaGreatDoor
namespace Go.Proofs.YtaolhefllfnmiaaGreatDoor
open Go.RowKit Flt
set_option linter.unusedVariables false
def cmpI (a b:Int):Int:=if a<b then -1 else if b<a then 1 else 0
def cmp3 (n a b m c d:Int):Int:=if cmpI n m≠0 then cmpI n m else if cmpI a c≠0 then cmpI a c else cmpI b d
theorem nan_int (a:Int) (w:World):
  Calls Tryz.prog 149 #[.int .i64 a] w fun e w'=>e=.returned (.bool false)∧w'=w:=by
 go_enter Tryz.func149,Tryz.ntmps149
 go_wp2
 go_ret
 exact⟨by first | rfl | simp,rfl⟩
theorem cmp_int (a b:Int) (w:World):
  Calls Tryz.prog 122 #[.int .i64 a,.int .i64 b] w fun e w'=>e=.returned (.int .i64 (cmpI a b))∧w'=w:=by
 unfold cmpI
 have hn:=fun a w=>nan_int a w
 rcases Int.lt_trichotomy a b with h | h | h
 ·go_enter Tryz.func122,Tryz.ntmps122
  go_wp2_with (go_at_call 149;refine (hn _ _).mono ?_;rintro e w1 ⟨rfl,rfl⟩)
  go_ret
  exact⟨by first | rfl | simp,rfl⟩
 ·subst h
  have h1:¬a<a:=by omega
  go_enter Tryz.func122,Tryz.ntmps122
  go_wp2_with (go_at_call 149;refine (hn _ _).mono ?_;rintro e w1 ⟨rfl,rfl⟩)
  go_ret
  exact⟨by first | rfl | simp,rfl⟩
 ·have h1:¬a<b:=by omega
  go_enter Tryz.func122,Tryz.ntmps122
  go_wp2_with (go_at_call 149;refine (hn _ _).mono ?_;rintro e w1 ⟨rfl,rfl⟩)
  go_ret
  exact⟨by first | rfl | simp,rfl⟩
theorem nan_part (x:Nat) (a:Int) (h:Part x a) (w:World):
  Calls Tryz.prog 184 #[.float .f64 x] w fun e w'=>e=.returned (.bool false)∧w'=w:=by
 have h1:FloatKind.f64.format.order x x=some .eq:=part_same h h
 go_enter Tryz.func184,Tryz.ntmps184
 go_wp2
 go_ret
 exact⟨by first | rfl | simp,rfl⟩
theorem cmp_part (x y:Nat) (a b:Int) (h:Part x a) (k:Part y b) (w:World):
  Calls Tryz.prog 154 #[.float .f64 x,.float .f64 y] w fun e w'=>e=.returned (.int .i64 (cmpI a b))∧w'=w:=by
 have hx:=fun w=>nan_part x a h w
 have hy:=fun w=>nan_part y b k w
 have ho:FloatKind.f64.format.order x y=some (compare a b):=order_num h.2.1 k.2.1
 clear h k
 unfold cmpI
 rcases Int.lt_trichotomy a b with h | h | h
 ·rw [Int.compare_eq_lt.2 h] at ho
  go_enter Tryz.func154,Tryz.ntmps154
  go_wp2_with (go_at_call 184;fail)
  refine (hx _).mono ?_
  rintro e w1 ⟨rfl,rfl⟩
  go_wp2_with (go_at_call 184;fail)
  refine (hy _).mono ?_
  rintro e w1 ⟨rfl,rfl⟩
  go_wp2
  go_ret
  exact⟨by first | rfl | simp,rfl⟩
 ·subst h
  rw[Int.compare_eq_eq.2 rfl] at ho
  go_enter Tryz.func154,Tryz.ntmps154
  go_wp2_with (go_at_call 184;fail)
  refine (hx _).mono ?_
  rintro e w1 ⟨rfl,rfl⟩
  go_wp2_with (go_at_call 184;fail)
  refine (hy _).mono ?_
  rintro e w1 ⟨rfl,rfl⟩
  go_wp2
  go_ret
  exact⟨by first | rfl | simp,rfl⟩
 ·have h1:¬a<b:=by omega
  rw[Int.compare_eq_gt.2 h] at ho
  go_enter Tryz.func154,Tryz.ntmps154
  go_wp2_with (go_at_call 184;fail)
  refine (hx _).mono ?_
  rintro e w1 ⟨rfl,rfl⟩
  go_wp2_with (go_at_call 184;fail)
  refine (hy _).mono ?_
  rintro e w1 ⟨rfl,rfl⟩
  go_wp2
  go_ret
  exact⟨by first | rfl | simp,rfl⟩
def or3 (a b c:Int):Int:=if a≠0 then a else if b≠0 then b else c
theorem or_any (B:Nat) (a b c:Int) (w:World) (c0:w.cell? ⟨B,0,none⟩=some (.int .i64 a)) (c1:w.cell? ⟨B,1,none⟩=some (.int .i64 b)) (c2:w.cell? ⟨B,2,none⟩=some (.int .i64 c)):
  Calls Tryz.prog 153 #[.slice (some ⟨B,0,none⟩) 3 3] w fun e w'=>e=.returned (.int .i64 (or3 a b c))∧Below w.heap.size w w':=by
 unfold or3
 by_cases h0:a=0
 ·subst h0
  by_cases h1:b=0
  ·subst h1
   by_cases h2:c=0
   ·subst h2
    go_enter Tryz.func153,Tryz.ntmps153
    go_wp2
    go_rounds 4
    all_goals go_ret
    all_goals exact⟨rfl,Below.refl _ _⟩
   ·have e2:(c==0)=false:=beq_false_of_ne h2
    go_enter Tryz.func153,Tryz.ntmps153
    go_wp2
    go_rounds 4
    all_goals go_ret
    all_goals exact⟨rfl,Below.refl _ _⟩
  ·have e1:(b==0)=false:=beq_false_of_ne h1
   go_enter Tryz.func153,Tryz.ntmps153
   go_wp2
   go_rounds 4
   all_goals go_ret
   all_goals exact⟨rfl,Below.refl _ _⟩
 ·have e0:(a==0)=false:=beq_false_of_ne h0
  go_enter Tryz.func153,Tryz.ntmps153
  go_wp2
  go_rounds 4
  all_goals go_ret
  all_goals exact⟨rfl,Below.refl _ _⟩
end Go.Proofs.YtaolhefllfnmiaaGreatDoor
namespace Go.Proofs.YtaolhefllfnmiaaGreatDoor
open Go.RowKit Flt
set_option linter.unusedVariables false
def cmpP (a b c d:Int):Int:=cmp3 (a*a+b*b) a b (c*c+d*d) c d
theorem compare_num (x y u v:Nat) (a b c d:Int) (h:Num x y a b) (k:Num u v c d) (w:World):
  Calls Tryz.prog 124 #[.complex .f64 x y,.complex .f64 u v] w fun e w'=>e=.returned (.int .i64 (cmpP a b c d))∧Below w.heap.size w w':=by
 have hF:=fun w=>formed_yes x y a b h w
 have hG:=fun w=>formed_yes u v c d k w
 have hN:=fun w=>norm_yes x y a b h w
 have hM:=fun w=>norm_yes u v c d k w
 have hR:=fun w=>cmp_part x u a c h.1 k.1 w
 have hI:=fun w=>cmp_part y v b d h.2 k.2 w
 have hres:or3 (cmpI (a*a+b*b) (c*c+d*d)) (cmpI a c) (cmpI b d)=cmpP a b c d:=rfl
 generalize cmpP a b c d=P at hres ⊢
 generalize a*a+b*b=n at *
 generalize c*c+d*d=m at *
 have hC:=fun w=>cmp_int n m w
 generalize hv1:cmpI n m=v1 at *
 generalize hv2:cmpI a c=v2 at *
 generalize hv3:cmpI b d=v3 at *
 replace hres:=hide hres
 clear h k hv1 hv2 hv3
 go_enter Tryz.func124,Tryz.ntmps124
 go_wp2_with (go_at_call 152;fail)
 refine (hF _).mono ?_
 rintro e w1 ⟨rfl,hb1⟩
 go_wp2_with (go_at_call 152;fail)
 refine (hG _).mono ?_
 rintro e w2 ⟨rfl,hb2⟩
 have hc2:=hb1.trans (hb2.mono hb1.size)
 clear hb1 hb2
 go_wp2_with (go_at_call 127;fail)
 refine (hN _).mono ?_
 rintro e w3 ⟨rfl,hb3⟩
 have hc3:=hc2.trans (hb3.mono hc2.size)
 clear hb3
 go_wp2_with (go_at_call 127;fail)
 refine (hM _).mono ?_
 rintro e w4 ⟨rfl,hb4⟩
 have hc4:=hc3.trans (hb4.mono hc3.size)
 clear hb4
 go_wp2_with (first
  |(go_at_call 122;refine (hC _).mono ?_;rintro e w5 ⟨rfl,rfl⟩)
  |(go_at_call 154;fail))
 refine (hR _).mono ?_
 rintro e w6 ⟨rfl,rfl⟩
 go_wp2_with (go_at_call 154;fail)
 refine (hI _).mono ?_
 rintro e w7 ⟨rfl,rfl⟩
 go_wp2_with (go_at_call 153;fail)
 refine (or_any w7.heap.size v1 v2 v3 _ (by rw[World.cell?_alloc_at (hn:=by simp)];rfl) (by rw[World.cell?_alloc_at (hn:=by simp)];rfl) (by rw[World.cell?_alloc_at (hn:=by simp)];rfl)).mono ?_
 rintro e w8 ⟨rfl,hb8⟩
 rw[hres.out]
 go_wp2
 go_ret
 exact⟨rfl,hc4.trans ((below_of_alloc hb8).mono hc4.size)⟩
end Go.Proofs.YtaolhefllfnmiaaGreatDoor
namespace Go.Proofs.YtaolhefllfnmiaaGreatDoor
open Go.RowKit Flt
end Go.Proofs.YtaolhefllfnmiaaGreatDoor
namespace Go.Proofs.YtaolhefllfnmiaaGreatDoor
open Go.RowKit Flt
set_option linter.unusedVariables false
end Go.Proofs.YtaolhefllfnmiaaGreatDoor
namespace Go.Proofs.YtaolhefllfnmiaaGreatDoor
open Go.RowKit Flt
set_option linter.unusedVariables false
theorem end_cells {w:World} {B:Nat} {u v:Value} (c0:w.cell? ⟨B,0,none⟩=some u) (c1:w.cell? ⟨B,1,none⟩=some v) (a b:Value):
  ((w.setCell ⟨B,0,none⟩ a).setCell ⟨B,1,none⟩ b).cell? ⟨B,0,none⟩=some a∧((w.setCell ⟨B,0,none⟩ a).setCell ⟨B,1,none⟩ b).cell? ⟨B,1,none⟩=some b:=by
 have h0:(w.setCell ⟨B,0,none⟩ a).cell? ⟨B,0,none⟩=some a:=World.cell?_setCell_same _ _ _ c0
 have h1:(w.setCell ⟨B,0,none⟩ a).cell? ⟨B,1,none⟩=some v:=(World.cell?_setCell_other _ ⟨B,0,none⟩ ⟨B,1,none⟩ _ (by intro h;cases h)).trans c1
 exact⟨(World.cell?_setCell_other _ ⟨B,1,none⟩ ⟨B,0,none⟩ _ (by intro h;cases h)).trans h0,World.cell?_setCell_same _ _ _ h1⟩
end Go.Proofs.YtaolhefllfnmiaaGreatDoor
namespace Go.Proofs.YtaolhefllfnmiaaGreatDoor
open Go.RowKit Flt
set_option linter.unusedVariables false
end Go.Proofs.YtaolhefllfnmiaaGreatDoor
