/- Several texts in one: RBoth, RSame, RCmpMath, RCompare, RRCompare, RNearMath, RBare, RNear. By an AI agent. -/
import Derived.Test.YtaolhefllfnmiaaGreatDoorMC
import Derived.OwnWalk
import Derived.Test.YtaolhefllfnmiaaGreatDoorMB
import Derived.Lib.Bytealg
import Derived.Test.YtaolhefllfnmiaaGreatDoorWords
import Derived.Lib.Replace
import Derived.Lib.SplitLaws
import Derived.Lib.IndexBytes
import Derived.Lib.IndexLaws
set_option maxRecDepth 100000
set_option maxHeartbeats 16000000
namespace Go.Proofs.YtaolhefllfnmiaaGreatDoor
open Go.RowKit
set_option linter.unusedVariables false
inductive BothIs (n a b:List UInt8):List UInt8→List UInt8→Int→Prop where
 | fst (h:(norm n a).2≠0):BothIs n a b [] [] (norm n a).2
 | snd (h0:(norm n a).2=0) (h:(norm n b).2≠0):BothIs n a b [] [] (norm n b).2
 | ok (h0:(norm n a).2=0) (h1:(norm n b).2=0):BothIs n a b (norm n a).1 (norm n b).1 0
theorem both_or (n a b:List UInt8):∃x y f,BothIs n a b x y f:=by
 by_cases h0:(norm n a).2=0
 ·by_cases h1:(norm n b).2=0
  ·exact ⟨_,_,_,.ok h0 h1⟩
  ·exact ⟨_,_,_,.snd h0 h1⟩
 ·exact ⟨_,_,_,.fst h0⟩
theorem norm_is {n v:List UInt8} (h:(norm n v).2=0):(1≤(typ n).2∧(typ n).2≤4)∧((typ n).2=3→∃p,IsInt (norm n v).1 p)∧((typ n).2=4→∃a b,Small a∧Small b∧(norm n v).1=text a b):=by
 cases road n v with
 | none _ r=>rw[r] at h;simp at h
 | name _ r=>rw[r] at h;simp at h
 | short _ _ r=>rw[r] at h;simp at h
 | long _ _ r=>rw[r] at h;simp at h
 | form _ _ _ r=>rw[r] at h;simp at h
 | text ht k f r=>exact⟨by omega,fun e=>(by omega),fun e=>(by omega)⟩
 | same hh k f r=>
  rw[r]
  exact⟨by omega,fun e=>f.nu e,fun e=>f.pl e⟩
theorem both_cases {n a b x y:List UInt8} {f:Int} (h:BothIs n a b x y f):(f≠0∧x=[]∧y=[]∧¬((norm n a).2=0∧(norm n b).2=0))∨(f=0∧(norm n a).2=0∧(norm n b).2=0∧x=(norm n a).1∧y=(norm n b).1):=by
 cases h with
 | fst h=>exact Or.inl ⟨h,rfl,rfl,fun k=>h k.1⟩
 | snd _ h=>exact Or.inl ⟨h,rfl,rfl,fun k=>h k.2⟩
 | ok h0 h1=>exact Or.inr ⟨rfl,h0,h1,rfl,rfl⟩
theorem both_len {n a b x y:List UInt8} {f:Int} (h:BothIs n a b x y f):x.length≤200∧y.length≤200:=by
 rcases both_cases h with⟨_,rfl,rfl,_⟩ | ⟨_,_,_,rfl,rfl⟩
 ·simp
 ·exact ⟨norm_len _ _,norm_len _ _⟩
theorem both_any (n a b:ByteArray) (ha:a.size≤281474976710656) (hb:b.size≤281474976710656) (x y:List UInt8) (f:Int) (h:BothIs n.data.toList a.data.toList b.data.toList x y f) (w:World) (hT:TT w):
  Calls Tryz.prog 120 #[.string n,.string a,.string b] w fun e w'=>e=.returned (.tuple #[.string (txt x),.string (txt y),.int .i64 f])∧Below w.heap.size w w':=by
 have hA:=fun w hT=>normal_any n a ha w hT
 have hB:=fun w hT=>normal_any n b hb w hT
 cases h with
 | fst h=>
  have hz:((norm n.data.toList a.data.toList).2==0)=false:=beq_false_of_ne h
  generalize txt (norm n.data.toList a.data.toList).1=X at *
  generalize (norm n.data.toList a.data.toList).2=q at *
  clear h hB
  go_enter Tryz.func120,Tryz.ntmps120
  go_wp2_with (go_at_call 116;fail)
  refine (hA _ hT).mono ?_
  rintro e w1 ⟨rfl,hb1⟩
  go_wp2
  go_ret3
  exact⟨rfl,hb1⟩
 | snd h0 h=>
  simp only[h0] at hA
  have hz:((norm n.data.toList b.data.toList).2==0)=false:=beq_false_of_ne h
  generalize txt (norm n.data.toList a.data.toList).1=X at *
  generalize txt (norm n.data.toList b.data.toList).1=Y at *
  generalize (norm n.data.toList b.data.toList).2=q at *
  clear h h0
  go_enter Tryz.func120,Tryz.ntmps120
  go_wp2_with (go_at_call 116;fail)
  refine (hA _ hT).mono ?_
  rintro e w1 ⟨rfl,hb1⟩
  go_wp2_with (go_at_call 116;fail)
  refine (hB _ (hT.below hb1)).mono ?_
  rintro e w2 ⟨rfl,hb2⟩
  go_wp2
  go_ret3
  exact⟨rfl,hb1.trans (hb2.mono hb1.size)⟩
 | ok h0 h1=>
  simp only[h0] at hA
  simp only[h1] at hB
  generalize txt (norm n.data.toList a.data.toList).1=X at *
  generalize txt (norm n.data.toList b.data.toList).1=Y at *
  clear h0 h1
  go_enter Tryz.func120,Tryz.ntmps120
  go_wp2_with (go_at_call 116;fail)
  refine (hA _ hT).mono ?_
  rintro e w1 ⟨rfl,hb1⟩
  go_wp2_with (go_at_call 116;fail)
  refine (hB _ (hT.below hb1)).mono ?_
  rintro e w2 ⟨rfl,hb2⟩
  go_wp2
  go_ret3
  exact⟨rfl,hb1.trans (hb2.mono hb1.size)⟩
theorem rboth_any (n a b:ByteArray) (hn:n.size≤281474976710656) (ha:a.size≤281474976710656) (hb:b.size≤281474976710656) (x y:List UInt8) (f:Int) (h:BothIs n.data.toList a.data.toList b.data.toList x y f) (w:World) (hT:TT w):
  Calls Tryz.prog 133 #[.string n,.string a,.string b] w fun e w'=>e=.returned (.tuple #[.string (txt x),.string (txt y),.int .i64 f])∧Below w.heap.size w w':=by
 have hA:=fun w hT=>rnormal_any n a hn ha w hT
 have hB:=fun w hT=>rnormal_any n b hn hb w hT
 cases h with
 | fst h=>
  have hz:((norm n.data.toList a.data.toList).2==0)=false:=beq_false_of_ne h
  generalize txt (norm n.data.toList a.data.toList).1=X at *
  generalize (norm n.data.toList a.data.toList).2=q at *
  clear h hB
  go_enter Tryz.func133,Tryz.ntmps133
  go_wp2_with (go_at_call 77;fail)
  refine (hA _ hT).mono ?_
  rintro e w1 ⟨rfl,hb1⟩
  go_wp2
  go_ret3
  exact⟨rfl,hb1⟩
 | snd h0 h=>
  simp only[h0] at hA
  have hz:((norm n.data.toList b.data.toList).2==0)=false:=beq_false_of_ne h
  generalize txt (norm n.data.toList a.data.toList).1=X at *
  generalize txt (norm n.data.toList b.data.toList).1=Y at *
  generalize (norm n.data.toList b.data.toList).2=q at *
  clear h h0
  go_enter Tryz.func133,Tryz.ntmps133
  go_wp2_with (go_at_call 77;fail)
  refine (hA _ hT).mono ?_
  rintro e w1 ⟨rfl,hb1⟩
  go_wp2_with (go_at_call 77;fail)
  refine (hB _ (hT.below hb1)).mono ?_
  rintro e w2 ⟨rfl,hb2⟩
  go_wp2
  go_ret3
  exact⟨rfl,hb1.trans (hb2.mono hb1.size)⟩
 | ok h0 h1=>
  simp only[h0] at hA
  simp only[h1] at hB
  generalize txt (norm n.data.toList a.data.toList).1=X at *
  generalize txt (norm n.data.toList b.data.toList).1=Y at *
  clear h0 h1
  go_enter Tryz.func133,Tryz.ntmps133
  go_wp2_with (go_at_call 77;fail)
  refine (hA _ hT).mono ?_
  rintro e w1 ⟨rfl,hb1⟩
  go_wp2_with (go_at_call 77;fail)
  refine (hB _ (hT.below hb1)).mono ?_
  rintro e w2 ⟨rfl,hb2⟩
  go_wp2
  go_ret3
  exact⟨rfl,hb1.trans (hb2.mono hb1.size)⟩
end Go.Proofs.YtaolhefllfnmiaaGreatDoor
namespace Go.Proofs.YtaolhefllfnmiaaGreatDoor
open Go.RowKit
set_option linter.unusedVariables false
end Go.Proofs.YtaolhefllfnmiaaGreatDoor
namespace Go.Proofs.YtaolhefllfnmiaaGreatDoor
open Go.RowKit
set_option linter.unusedVariables false
theorem u8_lt {a b:UInt8}:a<b↔a.toNat<b.toNat:=Iff.rfl
theorem bytes_cmp:∀(x y:List UInt8),Lib.compareBytes x y=if Op.bytesLess x y then -1 else if Op.bytesLess y x then 1 else 0
 | [],[]=>by simp[Lib.compareBytes,Op.bytesLess]
 | [],_::_=>by simp[Lib.compareBytes,Op.bytesLess]
 | _::_,[]=>by simp[Lib.compareBytes,Op.bytesLess]
 | a::x,b::y=>by
  have ih:=bytes_cmp x y
  unfold Lib.compareBytes Op.bytesLess
  by_cases h1:a<b
  ·simp [h1]
  ·by_cases h2:b<a
   ·have:a≠b:=by rintro rfl;exact h1 h2
    simp[h1,h2,this]
   ·obtain rfl:a=b:=u8_ext (by rw[u8_lt] at h1 h2;omega)
    simp[h1,ih]
theorem cb_zero:∀(x y:List UInt8),Lib.compareBytes x y=0↔x=y
 | [],[]=>by simp[Lib.compareBytes]
 | [],_::_=>by simp[Lib.compareBytes]
 | _::_,[]=>by simp[Lib.compareBytes]
 | a::x,b::y=>by
  have ih:=cb_zero x y
  unfold Lib.compareBytes
  by_cases h1:a<b
  ·have:a≠b:=by rintro rfl;rw[u8_lt] at h1;omega
   simp[h1,this]
  ·by_cases h2:b<a
   ·have:a≠b:=by rintro rfl;rw[u8_lt] at h2;omega
    simp[h1,h2,this]
   ·obtain rfl:a=b:=u8_ext (by rw[u8_lt] at h1 h2;omega)
    simp[h1,ih]
theorem bytes_cmp2 (x y:List UInt8):Lib.compareBytes x y=if Op.bytesLess x y then -1 else if x==y then 0 else 1:=by
 have h:=bytes_cmp x y
 have h0:=cb_zero x y
 by_cases h1:Op.bytesLess x y=true
 ·rw [h,if_pos h1,if_pos h1]
 ·rw [if_neg h1] at h ⊢
  by_cases h2:x=y
  ·rw [if_pos (by simp[h2])];exact h0.2 h2
  ·rw [if_neg (by simp[h2])]
   split at h
   ·exact h
   ·exact absurd (h0.1 h) h2
def cmpQ (a b c d:Int):Int:=cmp3 (a*a+b*b) a b (c*c+d*d) c d
inductive CmpIs (n a b:List UInt8):List UInt8→List UInt8→Int→Int→Prop where
 | err {f:Int} (h:BothIs n a b [] [] f) (hf:f≠0):CmpIs n a b [] [] 0 f
 | int {x y:List UInt8} {p q:Int} (ht:(typ n).2=3) (h:BothIs n a b x y 0) (hp:IsInt x p) (hq:IsInt y q):CmpIs n a b x y (cmpI p q) 0
 | plane {x y:List UInt8} {p q r s:Int} (ht:(typ n).2=4) (h:BothIs n a b x y 0) (hp:Small p) (hq:Small q) (hr:Small r) (hs:Small s) (hx:x=text p q) (hy:y=text r s):CmpIs n a b x y (cmpQ p q r s) 0
 | text {x y:List UInt8} (ht:(typ n).2=1∨(typ n).2=2) (h:BothIs n a b x y 0):CmpIs n a b x y (Lib.compareBytes x y) 0
theorem cmp_or (n a b:List UInt8):∃x y c f,CmpIs n a b x y c f:=by
 obtain⟨x,y,f,h⟩:=both_or n a b
 rcases both_cases h with⟨hf,rfl,rfl,_⟩ | ⟨rfl,h0,h1,hx,hy⟩
 ·exact ⟨_,_,_,_,.err h hf⟩
 ·obtain ⟨hr,h3,h4⟩:=norm_is h0
  obtain⟨_,k3,k4⟩:=norm_is h1
  have:((typ n).2=1∨(typ n).2=2)∨(typ n).2=3∨(typ n).2=4:=by omega
  rcases this with e | e | e
  ·exact ⟨_,_,_,_,.text e h⟩
  ·obtain ⟨p,hp⟩:=h3 e
   obtain⟨q,hq⟩:=k3 e
   rw[←hx] at hp
   rw[←hy] at hq
   exact⟨_,_,_,_,.int e h hp hq⟩
  ·obtain ⟨p,q,hp,hq,ex⟩:=h4 e
   obtain⟨r,s,hr',hs,ey⟩:=k4 e
   rw[←hx] at ex
   rw[←hy] at ey
   exact⟨_,_,_,_,.plane e h hp hq hr' hs ex ey⟩
end Go.Proofs.YtaolhefllfnmiaaGreatDoor
namespace Go.Proofs.YtaolhefllfnmiaaGreatDoor
open Go.RowKit
set_option linter.unusedVariables false
theorem rcmp_any (n a b:ByteArray) (ha:a.size≤281474976710656) (hb:b.size≤281474976710656) (x y:List UInt8) (c f:Int) (h:CmpIs n.data.toList a.data.toList b.data.toList x y c f) (w:World) (hT:TT w):
  Calls Tryz.prog 97 #[.string n,.string a,.string b] w fun e w'=>e=.returned (.tuple #[.int .i64 c,.int .i64 f])∧Below w.heap.size w w':=by
 have hTy:=fun w hT=>type_any n w hT
 cases h with
 | err h hf=>
  have hB:=fun w hT=>both_any n a b ha hb _ _ _ h w hT
  have hz:(f==0)=false:=beq_false_of_ne hf
  generalize txt []=X at *
  clear h hTy
  go_enter Tryz.func97,Tryz.ntmps97
  go_wp2_with (go_at_call 120;fail)
  refine (hB _ hT).mono ?_
  rintro e w1 ⟨rfl,hb1⟩
  have hc1:=hb1
  go_wp2
  go_ret2
  exact⟨rfl,hc1⟩
 | @int x y p q ht h hp hq=>
  have hB:=fun w hT=>both_any n a b ha hb _ _ _ h w hT
  have hlen:=both_len h
  have hI:=fun w hT=>integer_yes (txt x) (by rw[txt_size];omega) p (by rw[txt_toList];exact hp) w hT
  have hJ:=fun w hT=>integer_yes (txt y) (by rw[txt_size];omega) q (by rw[txt_toList];exact hq) w hT
  have hC:=fun w=>cmp_int p q w
  simp only[ht] at hTy
  generalize txt (typ n.data.toList).1=Z at *
  generalize txt x=X at *
  generalize txt y=Y at *
  generalize cmpI p q=C at *
  clear h ht hp hq hlen
  go_enter Tryz.func97,Tryz.ntmps97
  go_wp2_with (go_at_call 120;fail)
  refine (hB _ hT).mono ?_
  rintro e w1 ⟨rfl,hb1⟩
  have hc1:=hb1
  go_wp2_with (go_at_call 69;fail)
  refine (hTy _ (hT.below hc1).types).mono ?_
  rintro e w2 ⟨rfl,hb2⟩
  have hc2:=hc1.trans (hb2.mono hc1.size)
  go_wp2_with (go_at_call 121;fail)
  refine (hI _ (hT.below hc2).tabs).mono ?_
  rintro e w3 ⟨rfl,hb3⟩
  have hc3:=hc2.trans (hb3.mono hc2.size)
  go_wp2_with (go_at_call 121;fail)
  refine (hJ _ (hT.below hc3).tabs).mono ?_
  rintro e w4 ⟨rfl,hb4⟩
  have hc4:=hc3.trans (hb4.mono hc3.size)
  go_wp2_with (go_at_call 122;fail)
  refine (hC _).mono ?_
  rintro e w5 ⟨rfl,rfl⟩
  have hc5:=hc4
  go_wp2
  go_ret2
  exact⟨rfl,hc5⟩
 | @plane x y p q r s ht h hp hq hr hs hx hy=>
  have hB:=fun w hT=>both_any n a b ha hb _ _ _ h w hT
  have hlen:=both_len h
  have hP:=fun w hT=>parse_yes (txt x) (by rw[txt_size];omega) p q hp hq (by rw[txt_toList];exact hx) w hT
  have hQ:=fun w hT=>parse_yes (txt y) (by rw[txt_size];omega) r s hr hs (by rw[txt_toList];exact hy) w hT
  have hC:=fun w=>compare_num (fl p) (fl q) (fl r) (fl s) p q r s (num_fl hp hq) (num_fl hr hs) w
  simp only[ht] at hTy
  generalize txt (typ n.data.toList).1=Z at *
  generalize txt x=X at *
  generalize txt y=Y at *
  have hcp:cmpP p q r s=cmpQ p q r s:=rfl
  rw[hcp] at hC
  generalize cmpQ p q r s=C at *
  generalize fl p=P at *
  generalize fl q=Q at *
  generalize fl r=R at *
  generalize fl s=S at *
  clear h ht hp hq hr hs hx hy hlen hcp
  go_enter Tryz.func97,Tryz.ntmps97
  go_wp2_with (go_at_call 120;fail)
  refine (hB _ hT).mono ?_
  rintro e w1 ⟨rfl,hb1⟩
  have hc1:=hb1
  go_wp2_with (go_at_call 69;fail)
  refine (hTy _ (hT.below hc1).types).mono ?_
  rintro e w2 ⟨rfl,hb2⟩
  have hc2:=hc1.trans (hb2.mono hc1.size)
  go_wp2_with (go_at_call 123;fail)
  refine (hP _ (hT.below hc2).tabs).mono ?_
  rintro e w3 ⟨rfl,hb3⟩
  have hc3:=hc2.trans (hb3.mono hc2.size)
  go_wp2_with (go_at_call 123;fail)
  refine (hQ _ (hT.below hc3).tabs).mono ?_
  rintro e w4 ⟨rfl,hb4⟩
  have hc4:=hc3.trans (hb4.mono hc3.size)
  go_wp2_with (go_at_call 124;fail)
  refine (hC _).mono ?_
  rintro e w5 ⟨rfl,hb5⟩
  have hc5:=hc4.trans (hb5.mono hc4.size)
  go_wp2
  go_ret2
  exact⟨rfl,hc5⟩
 | text ht h=>
  have hB:=fun w hT=>both_any n a b ha hb _ _ _ h w hT
  have hC:=fun w=>Tryz.strings_Compare (txt x) (txt y) w
  simp only[txt_toList] at hC
  generalize txt (typ n.data.toList).1=Z at *
  generalize txt x=X at *
  generalize txt y=Y at *
  generalize Lib.compareBytes x y=C at *
  rcases ht with ht | ht
  ·simp only[ht] at hTy
   clear h ht
   go_enter Tryz.func97,Tryz.ntmps97
   go_wp2_with (go_at_call 120;fail)
   refine (hB _ hT).mono ?_
   rintro e w1 ⟨rfl,hb1⟩
   have hc1:=hb1
   go_wp2_with (go_at_call 69;fail)
   refine (hTy _ (hT.below hc1).types).mono ?_
   rintro e w2 ⟨rfl,hb2⟩
   have hc2:=hc1.trans (hb2.mono hc1.size)
   go_wp2_with (go_at_call 125;fail)
   refine (hC _).mono ?_
   rintro e w3 ⟨rfl,rfl⟩
   have hc3:=hc2
   go_wp2
   go_ret2
   exact⟨rfl,hc3⟩
  ·simp only[ht] at hTy
   clear h ht
   go_enter Tryz.func97,Tryz.ntmps97
   go_wp2_with (go_at_call 120;fail)
   refine (hB _ hT).mono ?_
   rintro e w1 ⟨rfl,hb1⟩
   have hc1:=hb1
   go_wp2_with (go_at_call 69;fail)
   refine (hTy _ (hT.below hc1).types).mono ?_
   rintro e w2 ⟨rfl,hb2⟩
   have hc2:=hc1.trans (hb2.mono hc1.size)
   go_wp2_with (go_at_call 125;fail)
   refine (hC _).mono ?_
   rintro e w3 ⟨rfl,rfl⟩
   have hc3:=hc2
   go_wp2
   go_ret2
   exact⟨rfl,hc3⟩
end Go.Proofs.YtaolhefllfnmiaaGreatDoor
namespace Go.Proofs.YtaolhefllfnmiaaGreatDoor
open Go.RowKit
set_option linter.unusedVariables false
theorem rrcmp_any (n a b:ByteArray) (hn:n.size≤281474976710656) (ha:a.size≤281474976710656) (hb:b.size≤281474976710656) (x y:List UInt8) (c f:Int) (h:CmpIs n.data.toList a.data.toList b.data.toList x y c f) (w:World) (hT:TT w):
  Calls Tryz.prog 107 #[.string n,.string a,.string b] w fun e w'=>e=.returned (.tuple #[.int .i64 c,.int .i64 f])∧Below w.heap.size w w':=by
 have hTy:=fun w=>rtype_any n hn w
 cases h with
 | err h hf=>
  have hB:=fun w hT=>rboth_any n a b hn ha hb _ _ _ h w hT
  have hz:(f==0)=false:=beq_false_of_ne hf
  generalize txt []=X at *
  clear h hTy
  go_enter Tryz.func107,Tryz.ntmps107
  go_wp2_with (go_at_call 133;fail)
  refine (hB _ hT).mono ?_
  rintro e w1 ⟨rfl,hb1⟩
  have hc1:=hb1
  go_wp2
  go_ret2
  exact⟨rfl,hc1⟩
 | @int x y p q ht h hp hq=>
  have hB:=fun w hT=>rboth_any n a b hn ha hb _ _ _ h w hT
  have hI:=fun w=>rinteger_yes (txt x) p (by rw[txt_toList];exact hp) w
  have hJ:=fun w=>rinteger_yes (txt y) q (by rw[txt_toList];exact hq) w
  simp only[ht] at hTy
  generalize txt (typ n.data.toList).1=Z at *
  generalize txt x=X at *
  generalize txt y=Y at *
  clear h ht hp hq
  by_cases hlt:p<q
  ·have hr:Hid (cmpI p q= -1):=hide (by unfold cmpI;rw[if_pos hlt])
   go_enter Tryz.func107,Tryz.ntmps107
   go_wp2_with (go_at_call 133;fail)
   refine (hB _ hT).mono ?_
   rintro e w1 ⟨rfl,hb1⟩
   have hc1:=hb1
   go_wp2_with (go_at_call 74;fail)
   refine (hTy _).mono ?_
   rintro e w2 ⟨rfl,hb2⟩
   have hc2:=hc1.trans (hb2.mono hc1.size)
   go_wp2_with (go_at_call 102;fail)
   refine (hI _).mono ?_
   rintro e w3 ⟨rfl,hb3⟩
   have hc3:=hc2.trans (hb3.mono hc2.size)
   go_wp2_with (go_at_call 102;fail)
   refine (hJ _).mono ?_
   rintro e w4 ⟨rfl,hb4⟩
   have hc4:=hc3.trans (hb4.mono hc3.size)
   go_wp2
   go_ret2
   exact⟨by rw[hr.out];rfl,hc4⟩
  ·by_cases hgt:q<p
   ·have hr:Hid (cmpI p q=1):=hide (by unfold cmpI;rw[if_neg hlt,if_pos hgt])
    go_enter Tryz.func107,Tryz.ntmps107
    go_wp2_with (go_at_call 133;fail)
    refine (hB _ hT).mono ?_
    rintro e w1 ⟨rfl,hb1⟩
    have hc1:=hb1
    go_wp2_with (go_at_call 74;fail)
    refine (hTy _).mono ?_
    rintro e w2 ⟨rfl,hb2⟩
    have hc2:=hc1.trans (hb2.mono hc1.size)
    go_wp2_with (go_at_call 102;fail)
    refine (hI _).mono ?_
    rintro e w3 ⟨rfl,hb3⟩
    have hc3:=hc2.trans (hb3.mono hc2.size)
    go_wp2_with (go_at_call 102;fail)
    refine (hJ _).mono ?_
    rintro e w4 ⟨rfl,hb4⟩
    have hc4:=hc3.trans (hb4.mono hc3.size)
    go_wp2
    go_ret2
    exact⟨by rw[hr.out];rfl,hc4⟩
   ·have hr:Hid (cmpI p q=0):=hide (by unfold cmpI;rw[if_neg hlt,if_neg hgt])
    go_enter Tryz.func107,Tryz.ntmps107
    go_wp2_with (go_at_call 133;fail)
    refine (hB _ hT).mono ?_
    rintro e w1 ⟨rfl,hb1⟩
    have hc1:=hb1
    go_wp2_with (go_at_call 74;fail)
    refine (hTy _).mono ?_
    rintro e w2 ⟨rfl,hb2⟩
    have hc2:=hc1.trans (hb2.mono hc1.size)
    go_wp2_with (go_at_call 102;fail)
    refine (hI _).mono ?_
    rintro e w3 ⟨rfl,hb3⟩
    have hc3:=hc2.trans (hb3.mono hc2.size)
    go_wp2_with (go_at_call 102;fail)
    refine (hJ _).mono ?_
    rintro e w4 ⟨rfl,hb4⟩
    have hc4:=hc3.trans (hb4.mono hc3.size)
    go_wp2
    go_ret2
    exact⟨by rw[hr.out];rfl,hc4⟩
 | @plane x y p q r s ht h hp hq hr hs hx hy=>
  have hB:=fun w hT=>rboth_any n a b hn ha hb _ _ _ h w hT
  have hlen:=both_len h
  have hP:=fun w hT=>rparse_yes (txt x) (by rw[txt_size];omega) p q hp hq (by rw[txt_toList];exact hx) w hT
  have hQ:=fun w hT=>rparse_yes (txt y) (by rw[txt_size];omega) r s hr hs (by rw[txt_toList];exact hy) w hT
  have hC:=fun w=>rcompare_any p q r s ⟨hp.lo,hp.hi⟩ ⟨hq.lo,hq.hi⟩ ⟨hr.lo,hr.hi⟩ ⟨hs.lo,hs.hi⟩ w
  simp only[ht] at hTy
  generalize txt (typ n.data.toList).1=Z at *
  generalize txt x=X at *
  generalize txt y=Y at *
  have hcp:cmpP p q r s=cmpQ p q r s:=rfl
  rw[hcp] at hC
  generalize cmpQ p q r s=C at *
  clear h ht hp hq hr hs hx hy hlen hcp
  go_enter Tryz.func107,Tryz.ntmps107
  go_wp2_with (go_at_call 133;fail)
  refine (hB _ hT).mono ?_
  rintro e w1 ⟨rfl,hb1⟩
  have hc1:=hb1
  go_wp2_with (go_at_call 74;fail)
  refine (hTy _).mono ?_
  rintro e w2 ⟨rfl,hb2⟩
  have hc2:=hc1.trans (hb2.mono hc1.size)
  go_wp2_with (go_at_call 103;fail)
  refine (hP _ (hT.below hc2).tabs).mono ?_
  rintro e w3 ⟨rfl,hb3⟩
  have hc3:=hc2.trans (hb3.mono hc2.size)
  have hc4:=hc3.trans ((below1 w3 (.cells #[.int .i64 p,.int .i64 q] 113)).mono hc3.size)
  go_wp2_with (go_at_call 103;fail)
  refine (hQ _ (hT.below hc4).tabs).mono ?_
  rintro e w5 ⟨rfl,hb5⟩
  have hc5:=hc4.trans (hb5.mono hc4.size)
  have hc6:=hc5.trans ((below1 w5 (.cells #[.int .i64 r,.int .i64 s] 113)).mono hc5.size)
  have hPr:=(Pr.new w3 p q).below hb5
  have hlt:w3.heap.size<w5.heap.size:=by
   have:=hb5.size
   simp at this
   omega
  obtain⟨q0,q1,_⟩:=hPr
  go_wp2_with (go_at_call 136;fail)
  refine (hC _).mono ?_
  rintro e w7 ⟨rfl,hb7⟩
  go_wp2
  go_ret2
  exact⟨rfl,hc6.trans (hb7.mono hc6.size)⟩
 | text ht h=>
  have hB:=fun w hT=>rboth_any n a b hn ha hb _ _ _ h w hT
  have hC:=bytes_cmp2 x y
  generalize txt (typ n.data.toList).1=Z at *
  generalize hX:txt x=X at *
  generalize hY:txt y=Y at *
  have hC':Lib.compareBytes x y=if Op.bytesLess X.toList Y.toList=true then -1 else if (X.toList==Y.toList)=true then 0 else 1:=by rw[←hX,←hY,txt_bytes,txt_bytes];exact hC
  clear hX hY hC
  generalize Lib.compareBytes x y=C at *
  replace hC':=hide hC'
  have key:∀tv:Int,(tv=1∨tv=2)→(typ n.data.toList).2=tv→Calls Tryz.prog 107 #[.string n,.string a,.string b] w fun e w'=>e=.returned (.tuple #[.int .i64 C,.int .i64 0])∧Below w.heap.size w w':=by
   intro tv htv hte
   simp only[hte] at hTy
   have e3:(tv==3)=false:=beq_false_of_ne (by omega)
   have e4:(tv==4)=false:=beq_false_of_ne (by omega)
   clear h ht hte htv
   by_cases h1:Op.bytesLess X.toList Y.toList=true
   ·have hr:Hid (C= -1):=hide (by rw[hC'.out,if_pos h1])
    clear hC'
    go_enter Tryz.func107,Tryz.ntmps107
    go_wp2_with (go_at_call 133;fail)
    refine (hB _ hT).mono ?_
    rintro e w1 ⟨rfl,hb1⟩
    have hc1:=hb1
    go_wp2_with (go_at_call 74;fail)
    refine (hTy _).mono ?_
    rintro e w2 ⟨rfl,hb2⟩
    have hc2:=hc1.trans (hb2.mono hc1.size)
    go_wp2
    go_ret2
    exact⟨by rw[hr.out];rfl,hc2⟩
   ·have h1':Op.bytesLess X.toList Y.toList=false:=by simpa using h1
    by_cases h2:(X.toList==Y.toList)=true
    ·have hr:Hid (C=0):=hide (by rw[hC'.out,if_neg h1,if_pos h2])
     clear hC' h1
     go_enter Tryz.func107,Tryz.ntmps107
     go_wp2_with (go_at_call 133;fail)
     refine (hB _ hT).mono ?_
     rintro e w1 ⟨rfl,hb1⟩
     have hc1:=hb1
     go_wp2_with (go_at_call 74;fail)
     refine (hTy _).mono ?_
     rintro e w2 ⟨rfl,hb2⟩
     have hc2:=hc1.trans (hb2.mono hc1.size)
     go_wp2
     go_ret2
     exact⟨by rw[hr.out];rfl,hc2⟩
    ·have h2':(X.toList==Y.toList)=false:=by simpa using h2
     have hr:Hid (C=1):=hide (by rw[hC'.out,if_neg h1,if_neg h2])
     clear hC' h1 h2
     go_enter Tryz.func107,Tryz.ntmps107
     go_wp2_with (go_at_call 133;fail)
     refine (hB _ hT).mono ?_
     rintro e w1 ⟨rfl,hb1⟩
     have hc1:=hb1
     go_wp2_with (go_at_call 74;fail)
     refine (hTy _).mono ?_
     rintro e w2 ⟨rfl,hb2⟩
     have hc2:=hc1.trans (hb2.mono hc1.size)
     go_wp2
     go_ret2
     exact⟨by rw[hr.out];rfl,hc2⟩
  rcases ht with ht | ht
  ·exact key 1 (Or.inl rfl) ht
  ·exact key 2 (Or.inr rfl) ht
end Go.Proofs.YtaolhefllfnmiaaGreatDoor
namespace Go.Proofs.YtaolhefllfnmiaaGreatDoor
open Go.RowKit
def bareL (l:List UInt8):List UInt8:=l.filter (fun b=>b !=32)
theorem bare_app (a b:List UInt8):bareL (a++b)=bareL a++bareL b:=by simp[bareL]
theorem bare_none {l:List UInt8} (h:(32:UInt8) ∉ l):bareL l=l:=by
 unfold bareL
 rw[List.filter_eq_self]
 intro b hb
 simp only[bne_iff_ne,ne_eq]
 rintro rfl
 exact h hb
theorem replaceK_bare:∀(k:Nat) (s:List UInt8),s.count 32≤k→Lib.replaceK [32] [] k s=bareL s
 | 0,s,h=>by
  have:(32:UInt8) ∉ s:=fun hm=>by have:=List.count_pos_iff.2 hm;omega
  rw[bare_none this];rfl
 | k+1,s,h=>by
  by_cases hm:(32:UInt8)∈s
  ·have hge:=Lib.indexByte_ge s 32
   have hne:Lib.indexByte s 32≠ -1:=fun e=>by
    obtain⟨j,hj,hj2⟩:=List.mem_iff_getElem.1 hm
    exact Lib.indexByte_none e j (by rw[List.getElem?_eq_getElem hj,hj2])
   obtain⟨i,hi⟩:∃i:Nat,Lib.indexByte s 32=i:=⟨(Lib.indexByte s 32).toNat,by omega⟩
   obtain⟨h1,h2⟩:=Lib.indexByte_some hi
   have hix:Lib.index s [32]=i:=by rw[Lib.index_one,hi]
   have hlt:=(List.getElem?_eq_some_iff.1 h1).1
   have hs:s=s.take i++32::s.drop (i+1):=by
    have e1:s.drop i=32::s.drop (i+1):=by rw[List.drop_eq_getElem_cons hlt,(List.getElem?_eq_some_iff.1 h1).2]
    rw[←e1,List.take_append_drop]
   have hno:(32:UInt8) ∉ s.take i:=fun hmem=>by
    obtain⟨j,hj,hj2⟩:=List.mem_iff_getElem.1 hmem
    rw[List.length_take] at hj
    refine h2 j (by omega) ?_
    rw[List.getElem_take] at hj2
    rw[List.getElem?_eq_getElem (by omega),hj2]
   have hc:(s.drop (i+1)).count 32≤k:=by
    have:s.count 32=(s.take i++32::s.drop (i+1)).count 32:=by rw[←hs]
    rw[List.count_append,List.count_cons_self] at this
    omega
   rw[Lib.replaceK_hit [32] [] k s i hix]
   rw[show i+([32]:List UInt8).length=i+1 from rfl,replaceK_bare k _ hc]
   conv=>rhs;rw[hs]
   rw[bare_app,bare_none hno]
   simp[bareL]
  ·have hix:Lib.index s [32]= -1:=by
    rw[Lib.index_one]
    have hge:=Lib.indexByte_ge s 32
    refine Classical.byContradiction fun hne=>?_
    have:=(Lib.indexByte_some (o:=(Lib.indexByte s 32).toNat) (by omega:Lib.indexByte s 32=_)).1
    exact hm (List.mem_of_getElem? this)
   rw[Lib.replaceK,if_pos (by rw[hix];rfl),bare_none hm]
theorem replace_bare (s:List UInt8):Lib.replaceAll s [32] []=bareL s:=by
 unfold Lib.replaceAll Lib.replace
 rw[if_neg (by decide)]
 refine replaceK_bare _ s ?_
 unfold Lib.replaceNum
 rw[if_pos (Or.inl (by omega)),Lib.count_one]
 exact Nat.le_refl _
theorem bare_le (s:List UInt8):(bareL s).length≤s.length:=List.length_filter_le _ _
end Go.Proofs.YtaolhefllfnmiaaGreatDoor
namespace Go.Proofs.YtaolhefllfnmiaaGreatDoor
open Go.RowKit
set_option linter.unusedVariables false
structure Mx (w:World):Prop where
 max:∃m,w.cell? ⟨2,0,none⟩=some (.int .i64 m)
theorem cell_lt {w:World} {g:Nat} {v:Value} (h:w.cell? ⟨g,0,none⟩=some v):g<w.heap.size:=by
 rcases Nat.lt_or_ge g w.heap.size with hlt | hge
 ·exact hlt
 ·exfalso
  have hn:w.heap[g]?=none:=Array.getElem?_eq_none hge
  simp[World.cell?,hn] at h
theorem Mx.below {w w':World} (h:Mx w) (hb:Below w.heap.size w w'):Mx w':=by
 obtain⟨m,hm⟩:=h.max
 exact⟨m,(hb.cell (p:=⟨2,0,none⟩) (cell_lt hm)).trans hm⟩
theorem without_any (s:ByteArray) (h200:s.size≤200) (w:World) (hM:Mx w):
  Calls Tryz.prog 126 #[.string s] w fun e w'=>e=.returned (.string (txt (bareL s.data.toList)))∧Below w.heap.size w w':=by
 obtain⟨m,hm⟩:=hM.max
 have hR:=Tryz.strings_ReplaceAll s ⟨#[32]⟩ ⟨#[]⟩ m w (by omega) hm (by decide) (by
  have:(⟨#[]⟩:ByteArray).size=0:=rfl
  rw[this];omega)
 rw[show (⟨#[32]⟩:ByteArray).data.toList=[32] from rfl,show (⟨#[]⟩:ByteArray).data.toList=[] from rfl,replace_bare] at hR
 have hx:(⟨(bareL s.data.toList).toArray⟩:ByteArray)=txt (bareL s.data.toList):=rfl
 rw[hx] at hR
 generalize txt (bareL s.data.toList)=X at *
 go_enter Tryz.func126,Tryz.ntmps126
 go_wp2_with (go_at_call 156;fail)
 refine hR.mono ?_
 rintro e w1 ⟨rfl,hb⟩
 go_wp2
 go_ret
 exact⟨rfl,hb⟩
theorem bare_take {l:List UInt8} {i:Nat} {x:UInt8} (h:l[i]?=some x):bareL (l.take (i+1))=if x=32 then bareL (l.take i) else bareL (l.take i)++[x]:=by
 rw[List.take_add_one,h]
 simp only[Option.toList_some,bare_app]
 split
 ·rename_i hx;subst hx;simp[bareL]
 ·rename_i hx;simp[bareL,hx]
theorem bare_any (s:ByteArray) (h200:s.size≤200) (w:World):
  Calls Tryz.prog 134 #[.string s] w fun e w'=>e=.returned (.string (txt (bareL s.data.toList)))∧Below w.heap.size w w':=by
 have hL:=hide (Lib.size_eq s)
 have hat:∀(i:Nat) (hi:i<s.size),s.data.toList[i]?=some s[i]:=fun i hi=>Lib.data_getElem? s i hi
 generalize hl:s.data.toList=l at *
 replace hl:=hide hl
 replace hat:=hide hat
 go_enter Tryz.func134,Tryz.ntmps134
 go_wp2
 go_loopg [3,4] s.size (fun k s3 s4 wx=>∃(i:Nat) (o:List UInt8),i+k=s.size∧s4=.int .i64 (i:Int)∧Hid (o=bareL (l.take i))∧wx.ownsRow w.heap.size 5 1 s3 o.length (bys o)∧Below w.heap.size w wx)
 case atStart=>exact⟨0,[],by omega,rfl,hide rfl,World.ownsRow_nil _ _ _ _,Below.refl _ _⟩
 case round=>
  obtain⟨i,o,hig,rfl,ho,hor,hbr⟩:=hrel
  cases gk with
  | zero=>
   obtain rfl:i=s.size:=by omega
   have hiz:¬((s.size:Int)<(s.size:Int)):=by omega
   obtain⟨A,c,rfl,hnc,hHas⟩:=own_form hor
   have htx:=txt8 wr c hHas
   have hR:Hid (txt o=txt (bareL l)):=hide (by
    rw[ho.out,List.take_of_length_le (by rw[←hL.out];exact Nat.le_refl _)])
   generalize txt o=X at *
   clear ho hHas hor
   go_wp2
   go_ret
   exact⟨by rw[←hR.out];rfl,hbr⟩
  | succ k=>
   have hi:i<s.size:=by omega
   have hiz:(i:Int)<(s.size:Int):=by omega
   obtain⟨x,hx⟩:∃x:UInt8,s[i]'hi=x:=⟨_,rfl⟩
   have hxl:l[i]?=some x:=by rw[hat.out i hi,hx]
   have htk:=bare_take hxl
   have ho200:Hid (o.length≤200):=hide (by
    rw[ho.out]
    have:=bare_le (l.take i)
    rw[List.length_take] at this
    omega)
   clear hxl
   by_cases hx32:x=32
   ·subst hx32
    have hne:(((32:UInt8).toNat:Int)==32)=true:=rfl
    rw[if_pos rfl,←ho.out] at htk
    replace htk:=hide htk
    go_wp2
    go_roundg k
    case measure=>omega
    case rel=>exact⟨i+1,o,by omega,by go_num,hide htk.out.symm,hor,hbr⟩
   ·have hne:((x.toNat:Int)==32)=false:=beq_false_of_ne (fun h=>hx32 (u8_ext (by have:(32:UInt8).toNat=32:=rfl;omega)))
    rw[if_neg hx32,←ho.out] at htk
    replace htk:=hide htk
    obtain⟨A,c,rfl,hnc,hHas⟩:=own_form hor
    have hone:=one8 wr x
    unfold c8 at hone
    have hH:=Has.own hone
    have hor1:=hor.alloc (.cells #[.int .u8 (x.toNat:Int)] 5)
    have hbr1:=hbr.alloc hbr.size (.cells #[.int .u8 (x.toNat:Int)] 5)
    have hs1:=hbr1.size
    clear hone hor hbr hHas hnc
    go_wp2_with (at_builtin;go_must (refine app8 _ rfl (.tmp 15) (.tmp 19) rfl w.heap.size _ _ o rfl hor1 _ _ 1 1 [x] rfl hH (by have:=ho200.out;omega) hs1 ?_))
    intro v' w3 hown3 hb3 _
    have hb4:=hbr1.trans hb3
    clear hor1 hbr1 hs1 hH hb3
    go_wp2
    go_roundg k
    case measure=>omega
    case rel=>exact⟨i+1,o++[x],by omega,by go_num,hide htk.out.symm,by simpa using hown3,hb4⟩
end Go.Proofs.YtaolhefllfnmiaaGreatDoor
namespace Go.Proofs.YtaolhefllfnmiaaGreatDoor
open Go.RowKit
set_option linter.unusedVariables false
inductive NearIs (n a b:List UInt8):List UInt8→List UInt8→Bool→Int→Prop where
 | err {f:Int} (h:BothIs n a b [] [] f) (hf:f≠0):NearIs n a b [] [] false f
 | text {x y:List UInt8} (ht:(typ n).2=1) (h:BothIs n a b x y 0):NearIs n a b x y (bareL x==bareL y) 0
 | plane {x y:List UInt8} {p q r s:Int} (ht:(typ n).2=4) (h:BothIs n a b x y 0) (hp:Small p) (hq:Small q) (hr:Small r) (hs:Small s) (hx:x=text p q) (hy:y=text r s):NearIs n a b x y (p*p+q*q==r*r+s*s) 0
 | same {x y:List UInt8} (ht:(typ n).2=2∨(typ n).2=3) (h:BothIs n a b x y 0):NearIs n a b x y (x==y) 0
theorem near_or (n a b:List UInt8):∃x y t f,NearIs n a b x y t f:=by
 obtain⟨x,y,f,h⟩:=both_or n a b
 rcases both_cases h with⟨hf,rfl,rfl,_⟩ | ⟨rfl,h0,h1,hx,hy⟩
 ·exact ⟨_,_,_,_,.err h hf⟩
 ·obtain ⟨hr,h3,h4⟩:=norm_is h0
  obtain⟨_,k3,k4⟩:=norm_is h1
  have:(typ n).2=1∨((typ n).2=2∨(typ n).2=3)∨(typ n).2=4:=by omega
  rcases this with e | e | e
  ·exact ⟨_,_,_,_,.text e h⟩
  ·exact ⟨_,_,_,_,.same e h⟩
  ·obtain ⟨p,q,hp,hq,ex⟩:=h4 e
   obtain⟨r,s,hr',hs,ey⟩:=k4 e
   rw[←hx] at ex
   rw[←hy] at ey
   exact⟨_,_,_,_,.plane e h hp hq hr' hs ex ey⟩
theorem rnear_any (n a b:ByteArray) (ha:a.size≤281474976710656) (hb:b.size≤281474976710656) (x y:List UInt8) (t:Bool) (f:Int) (h:NearIs n.data.toList a.data.toList b.data.toList x y t f) (w:World) (hT:TT w) (hM:Mx w):
  Calls Tryz.prog 98 #[.string n,.string a,.string b] w fun e w'=>e=.returned (.tuple #[.bool t,.int .i64 f])∧Below w.heap.size w w':=by
 have hTy:=fun w hT=>type_any n w hT
 cases h with
 | err h hf=>
  have hB:=fun w hT=>both_any n a b ha hb _ _ _ h w hT
  have hz:(f==0)=false:=beq_false_of_ne hf
  generalize txt []=X at *
  clear h hTy
  go_enter Tryz.func98,Tryz.ntmps98
  go_wp2_with (go_at_call 120;fail)
  refine (hB _ hT).mono ?_
  rintro e w1 ⟨rfl,hb1⟩
  have hc1:=hb1
  go_wp2
  go_ret2
  exact⟨rfl,hc1⟩
 | text ht h=>
  have hB:=fun w hT=>both_any n a b ha hb _ _ _ h w hT
  have hlen:=both_len h
  have hI:=fun w hM=>without_any (txt x) (by rw[txt_size];omega) w hM
  have hJ:=fun w hM=>without_any (txt y) (by rw[txt_size];omega) w hM
  simp only[txt_toList] at hI hJ
  have hxy:((txt (bareL x)).toList==(txt (bareL y)).toList)=(bareL x==bareL y):=by rw[txt_bytes,txt_bytes]
  simp only[ht] at hTy
  generalize txt (typ n.data.toList).1=Z at *
  generalize txt (bareL x)=P at *
  generalize txt (bareL y)=Q at *
  generalize txt x=X at *
  generalize txt y=Y at *
  generalize (bareL x==bareL y)=t at *
  clear h ht hlen
  go_enter Tryz.func98,Tryz.ntmps98
  go_wp2_with (go_at_call 120;fail)
  refine (hB _ hT).mono ?_
  rintro e w1 ⟨rfl,hb1⟩
  have hc1:=hb1
  go_wp2_with (go_at_call 69;fail)
  refine (hTy _ (hT.below hc1).types).mono ?_
  rintro e w2 ⟨rfl,hb2⟩
  have hc2:=hc1.trans (hb2.mono hc1.size)
  go_wp2_with (go_at_call 126;fail)
  refine (hI _ (hM.below hc2)).mono ?_
  rintro e w3 ⟨rfl,hb3⟩
  have hc3:=hc2.trans (hb3.mono hc2.size)
  go_wp2_with (go_at_call 126;fail)
  refine (hJ _ (hM.below hc3)).mono ?_
  rintro e w4 ⟨rfl,hb4⟩
  have hc4:=hc3.trans (hb4.mono hc3.size)
  go_wp2
  go_ret2
  exact⟨rfl,hc4⟩
 | @plane x y p q r s ht h hp hq hr hs hx hy=>
  have hB:=fun w hT=>both_any n a b ha hb _ _ _ h w hT
  have hlen:=both_len h
  have hP:=fun w hT=>parse_yes (txt x) (by rw[txt_size];omega) p q hp hq (by rw[txt_toList];exact hx) w hT
  have hQ:=fun w hT=>parse_yes (txt y) (by rw[txt_size];omega) r s hr hs (by rw[txt_toList];exact hy) w hT
  have hC:=fun w=>norm_yes (fl p) (fl q) p q (num_fl hp hq) w
  have hD:=fun w=>norm_yes (fl r) (fl s) r s (num_fl hr hs) w
  simp only[ht] at hTy
  generalize txt (typ n.data.toList).1=Z at *
  generalize txt x=X at *
  generalize txt y=Y at *
  generalize p*p+q*q=N1 at *
  generalize r*r+s*s=N2 at *
  generalize fl p=P at *
  generalize fl q=Q at *
  generalize fl r=R at *
  generalize fl s=S at *
  clear h ht hp hq hr hs hx hy hlen
  go_enter Tryz.func98,Tryz.ntmps98
  go_wp2_with (go_at_call 120;fail)
  refine (hB _ hT).mono ?_
  rintro e w1 ⟨rfl,hb1⟩
  have hc1:=hb1
  go_wp2_with (go_at_call 69;fail)
  refine (hTy _ (hT.below hc1).types).mono ?_
  rintro e w2 ⟨rfl,hb2⟩
  have hc2:=hc1.trans (hb2.mono hc1.size)
  go_wp2_with (go_at_call 123;fail)
  refine (hP _ (hT.below hc2).tabs).mono ?_
  rintro e w3 ⟨rfl,hb3⟩
  have hc3:=hc2.trans (hb3.mono hc2.size)
  go_wp2_with (go_at_call 123;fail)
  refine (hQ _ (hT.below hc3).tabs).mono ?_
  rintro e w4 ⟨rfl,hb4⟩
  have hc4:=hc3.trans (hb4.mono hc3.size)
  go_wp2_with (go_at_call 127;fail)
  refine (hC _).mono ?_
  rintro e w5 ⟨rfl,hb5⟩
  have hc5:=hc4.trans (hb5.mono hc4.size)
  go_wp2_with (go_at_call 127;fail)
  refine (hD _).mono ?_
  rintro e w6 ⟨rfl,hb6⟩
  have hc6:=hc5.trans (hb6.mono hc5.size)
  go_wp2
  go_ret2
  exact⟨rfl,hc6⟩
 | same ht h=>
  have hB:=fun w hT=>both_any n a b ha hb _ _ _ h w hT
  have hxy:((txt x).toList==(txt y).toList)=(x==y):=by rw[txt_bytes,txt_bytes]
  generalize txt (typ n.data.toList).1=Z at *
  generalize txt x=X at *
  generalize txt y=Y at *
  generalize (x==y)=t at *
  rcases ht with ht | ht
  ·simp only[ht] at hTy
   clear h ht
   go_enter Tryz.func98,Tryz.ntmps98
   go_wp2_with (go_at_call 120;fail)
   refine (hB _ hT).mono ?_
   rintro e w1 ⟨rfl,hb1⟩
   have hc1:=hb1
   go_wp2_with (go_at_call 69;fail)
   refine (hTy _ (hT.below hc1).types).mono ?_
   rintro e w2 ⟨rfl,hb2⟩
   have hc2:=hc1.trans (hb2.mono hc1.size)
   go_wp2
   go_ret2
   exact⟨rfl,hc2⟩
  ·simp only[ht] at hTy
   clear h ht
   go_enter Tryz.func98,Tryz.ntmps98
   go_wp2_with (go_at_call 120;fail)
   refine (hB _ hT).mono ?_
   rintro e w1 ⟨rfl,hb1⟩
   have hc1:=hb1
   go_wp2_with (go_at_call 69;fail)
   refine (hTy _ (hT.below hc1).types).mono ?_
   rintro e w2 ⟨rfl,hb2⟩
   have hc2:=hc1.trans (hb2.mono hc1.size)
   go_wp2
   go_ret2
   exact⟨rfl,hc2⟩
theorem rrnear_any (n a b:ByteArray) (hn:n.size≤281474976710656) (ha:a.size≤281474976710656) (hb:b.size≤281474976710656) (x y:List UInt8) (t:Bool) (f:Int) (h:NearIs n.data.toList a.data.toList b.data.toList x y t f) (w:World) (hT:TT w) (hM:Mx w):
  Calls Tryz.prog 106 #[.string n,.string a,.string b] w fun e w'=>e=.returned (.tuple #[.bool t,.int .i64 f])∧Below w.heap.size w w':=by
 have hTy:=fun w=>rtype_any n hn w
 cases h with
 | err h hf=>
  have hB:=fun w hT=>rboth_any n a b hn ha hb _ _ _ h w hT
  have hz:(f==0)=false:=beq_false_of_ne hf
  generalize txt []=X at *
  clear h hTy
  go_enter Tryz.func106,Tryz.ntmps106
  go_wp2_with (go_at_call 133;fail)
  refine (hB _ hT).mono ?_
  rintro e w1 ⟨rfl,hb1⟩
  have hc1:=hb1
  go_wp2
  go_ret2
  exact⟨rfl,hc1⟩
 | text ht h=>
  have hB:=fun w hT=>rboth_any n a b hn ha hb _ _ _ h w hT
  have hlen:=both_len h
  have hI:=fun w hM=>(fun _:Mx w=>bare_any (txt x) (by rw[txt_size];omega) w) hM
  have hJ:=fun w hM=>(fun _:Mx w=>bare_any (txt y) (by rw[txt_size];omega) w) hM
  simp only[txt_toList] at hI hJ
  have hxy:((txt (bareL x)).toList==(txt (bareL y)).toList)=(bareL x==bareL y):=by rw[txt_bytes,txt_bytes]
  simp only[ht] at hTy
  generalize txt (typ n.data.toList).1=Z at *
  generalize txt (bareL x)=P at *
  generalize txt (bareL y)=Q at *
  generalize txt x=X at *
  generalize txt y=Y at *
  generalize (bareL x==bareL y)=t at *
  clear h ht hlen
  go_enter Tryz.func106,Tryz.ntmps106
  go_wp2_with (go_at_call 133;fail)
  refine (hB _ hT).mono ?_
  rintro e w1 ⟨rfl,hb1⟩
  have hc1:=hb1
  go_wp2_with (go_at_call 74;fail)
  refine (hTy _).mono ?_
  rintro e w2 ⟨rfl,hb2⟩
  have hc2:=hc1.trans (hb2.mono hc1.size)
  go_wp2_with (go_at_call 134;fail)
  refine (hI _ (hM.below hc2)).mono ?_
  rintro e w3 ⟨rfl,hb3⟩
  have hc3:=hc2.trans (hb3.mono hc2.size)
  go_wp2_with (go_at_call 134;fail)
  refine (hJ _ (hM.below hc3)).mono ?_
  rintro e w4 ⟨rfl,hb4⟩
  have hc4:=hc3.trans (hb4.mono hc3.size)
  go_wp2
  go_ret2
  exact⟨rfl,hc4⟩
 | @plane x y p q r s ht h hp hq hr hs hx hy=>
  have hB:=fun w hT=>rboth_any n a b hn ha hb _ _ _ h w hT
  have hlen:=both_len h
  have hP:=fun w hT=>rparse_yes (txt x) (by rw[txt_size];omega) p q hp hq (by rw[txt_toList];exact hx) w hT
  have hQ:=fun w hT=>rparse_yes (txt y) (by rw[txt_size];omega) r s hr hs (by rw[txt_toList];exact hy) w hT
  have hC:=fun w=>rnorm_bel p q ⟨hp.lo,hp.hi⟩ ⟨hq.lo,hq.hi⟩ w
  have hD:=fun w=>rnorm_bel r s ⟨hr.lo,hr.hi⟩ ⟨hs.lo,hs.hi⟩ w
  simp only[ht] at hTy
  generalize txt (typ n.data.toList).1=Z at *
  generalize txt x=X at *
  generalize txt y=Y at *
  generalize p*p+q*q=N1 at *
  generalize r*r+s*s=N2 at *
  clear h ht hp hq hr hs hx hy hlen
  go_enter Tryz.func106,Tryz.ntmps106
  go_wp2_with (go_at_call 133;fail)
  refine (hB _ hT).mono ?_
  rintro e w1 ⟨rfl,hb1⟩
  have hc1:=hb1
  go_wp2_with (go_at_call 74;fail)
  refine (hTy _).mono ?_
  rintro e w2 ⟨rfl,hb2⟩
  have hc2:=hc1.trans (hb2.mono hc1.size)
  go_wp2_with (go_at_call 103;fail)
  refine (hP _ (hT.below hc2).tabs).mono ?_
  rintro e w3 ⟨rfl,hb3⟩
  have hc3:=hc2.trans (hb3.mono hc2.size)
  have hc4:=hc3.trans ((below1 w3 (.cells #[.int .i64 p,.int .i64 q] 113)).mono hc3.size)
  go_wp2_with (go_at_call 103;fail)
  refine (hQ _ (hT.below hc4).tabs).mono ?_
  rintro e w5 ⟨rfl,hb5⟩
  have hc5:=hc4.trans (hb5.mono hc4.size)
  have hc6:=hc5.trans ((below1 w5 (.cells #[.int .i64 r,.int .i64 s] 113)).mono hc5.size)
  have hPr:=((Pr.new w3 p q).below hb5).old (.cells #[.int .i64 r,.int .i64 s] 113)
  have hQr:=Pr.new w5 r s
  go_wp2_with (go_at_call 135;fail)
  have hP0:=hPr.drew
  have hQ0:=hQr.drew
  have hc7:=Below.drew hc6
  clear hPr hQr hc6
  generalize w5.alloc (.cells #[.int .i64 r,.int .i64 s] 113)=w6 at *
  refine grow_begin (by kernel_rfl) ?_
  refine grow_take 0 (some 54) (v:=?va0) rfl rfl (by kernel_rfl) (by kernel_rfl) (by kernel_rfl) (fun _ _ _ h=>h) (by rfl) (fun W hW=>?ya0) ?_
  case ya0=>
   have h0:=(hP0.up hW).c0
   have h1:=(hP0.up hW).c1
   go_simp<;>with_reducible rfl
  try simp only[Act.put,List.setIfInBounds_toArray,List.set_cons_zero,List.set_cons_succ]
  refine grow_take 2 (some 56) (v:=?va2) rfl rfl (by kernel_rfl) (by kernel_rfl) (by kernel_rfl) (fun _ _ _ h=>h) (by rfl) (fun W hW=>?ya2) ?_
  case ya2=>
   have h0:=(hQ0.up hW).c0
   have h1:=(hQ0.up hW).c1
   go_simp<;>with_reducible rfl
  try simp only[Act.put,List.setIfInBounds_toArray,List.set_cons_zero,List.set_cons_succ]
  refine grow_take 5 (some 59) (v:=?va5) rfl rfl (by kernel_rfl) (by kernel_rfl) (by kernel_rfl) (fun _ _ _ h=>h) (by rfl) (fun W hW=>?ya5) ?_
  case ya5=>
   go_simp<;>with_reducible rfl
  try simp only[Act.put,List.setIfInBounds_toArray,List.set_cons_zero,List.set_cons_succ]
  refine grow_only 1 rfl (by kernel_rfl) (fun K hK=>?_)
  go_simp
  refine (hC _).mono ?_
  rintro e w8 ⟨rfl,hb8⟩
  refine hK.out _ _ hb8 ?_
  clear hK K
  try simp only[Act.put,List.setIfInBounds_toArray,List.set_cons_zero,List.set_cons_succ]
  have hc8:=hc7.trans (hb8.mono hc7.size)
  refine grow_only 3 rfl (by kernel_rfl) (fun K hK=>?_)
  go_simp
  refine (hD _).mono ?_
  rintro e w9 ⟨rfl,hb9⟩
  refine hK.out _ _ hb9 ?_
  clear hK K
  try simp only[Act.put,List.setIfInBounds_toArray,List.set_cons_zero,List.set_cons_succ]
  have hc9:=hc8.trans (hb9.mono hc8.size)
  refine grow_take 4 (some 58) (v:=?va4) rfl rfl (by kernel_rfl) (by kernel_rfl) (by kernel_rfl) (fun _ _ _ h=>h) (by rfl) (fun W hW=>?ya4) ?_
  case ya4=>
   go_simp<;>with_reducible rfl
  try simp only[Act.put,List.setIfInBounds_toArray,List.set_cons_zero,List.set_cons_succ]
  refine grow_take 6 (some 6) (v:=?va6) rfl rfl (by kernel_rfl) (by kernel_rfl) (by kernel_rfl) (fun _ _ _ h=>h) (by rfl) (fun W hW=>?ya6) ?_
  case ya6=>
   go_simp<;>with_reducible rfl
  try simp only[Act.put,List.setIfInBounds_toArray,List.set_cons_zero,List.set_cons_succ]
  refine grow_take 7 (some 7) (v:=?va7) rfl rfl (by kernel_rfl) (by kernel_rfl) (by kernel_rfl) (fun _ _ _ h=>h) (by rfl) (fun W hW=>?ya7) ?_
  case ya7=>
   go_simp<;>with_reducible rfl
  try simp only[Act.put,List.setIfInBounds_toArray,List.set_cons_zero,List.set_cons_succ]
  refine grow_done (by kernel_rfl) ?_ _
  go_wp2
  go_ret2
  exact⟨rfl,hc9⟩
 | same ht h=>
  have hB:=fun w hT=>rboth_any n a b hn ha hb _ _ _ h w hT
  have hxy:((txt x).toList==(txt y).toList)=(x==y):=by rw[txt_bytes,txt_bytes]
  generalize txt (typ n.data.toList).1=Z at *
  generalize txt x=X at *
  generalize txt y=Y at *
  generalize (x==y)=t at *
  rcases ht with ht | ht
  ·simp only[ht] at hTy
   clear h ht
   go_enter Tryz.func106,Tryz.ntmps106
   go_wp2_with (go_at_call 133;fail)
   refine (hB _ hT).mono ?_
   rintro e w1 ⟨rfl,hb1⟩
   have hc1:=hb1
   go_wp2_with (go_at_call 74;fail)
   refine (hTy _).mono ?_
   rintro e w2 ⟨rfl,hb2⟩
   have hc2:=hc1.trans (hb2.mono hc1.size)
   go_wp2
   go_ret2
   exact⟨rfl,hc2⟩
  ·simp only[ht] at hTy
   clear h ht
   go_enter Tryz.func106,Tryz.ntmps106
   go_wp2_with (go_at_call 133;fail)
   refine (hB _ hT).mono ?_
   rintro e w1 ⟨rfl,hb1⟩
   have hc1:=hb1
   go_wp2_with (go_at_call 74;fail)
   refine (hTy _).mono ?_
   rintro e w2 ⟨rfl,hb2⟩
   have hc2:=hc1.trans (hb2.mono hc1.size)
   go_wp2
   go_ret2
   exact⟨rfl,hc2⟩
end Go.Proofs.YtaolhefllfnmiaaGreatDoor
