/- ResolveEnds. By an AI agent. -/
import Derived.Test.YtiobnllopliclaaGreatDoorZFind
import Derived.Test.YtiobnllopliclaaGreatDoorZFew
import Derived.Test.YtiobnllopliclaaGreatDoorZAwake
set_option maxRecDepth 100000
set_option maxHeartbeats 64000000
namespace Go.Proofs.YtiobnllopliclaaGreatDoor
open Go.RowKit Go.Proofs.YtiobnllopliclaaGreatDoor.Opens
set_option linter.unusedVariables false
set_option linter.unusedSimpArgs false
theorem ends_no (L:List EN) (s:List UInt8) (w:World) (A:Option Addr) (n c:Nat) (xs:List Value) (hA:Has w w.heap.size 2 A n xs) (hL:ENs w w.heap.size xs L) (hT:TM w) (hF:∀w,Has w w.heap.size 2 A n xs→ENs w w.heap.size xs L→TM w→Calls Tryz.prog 21 #[.slice A n c,.string (txt s)] w fun e w'=>e=.returned (.bool false)∧Below w.heap.size w w'):
  Calls Tryz.prog 7 #[.slice A n c,.string (txt s)] w fun e w'=>e=.returned (.bool true)∧Below w.heap.size w w':=by
 have hC:VZ w w A n xs L:=⟨Below.refl _ _,hT,hA,hL⟩
 have HC:=hide hC
 have HF:=hide hF
 clear hC hF hA hL hT
 generalize txt s=S at *
 go_enter Tryz.func7,Tryz.ntmps7
 go_wp2_with (go_at_call 20;fail)
 refine (awakeZ_any _ HC.out.tm).mono ?_
 rintro e w2 ⟨rfl,hb⟩
 have HC2:=hide (HC.out.grow hb)
 clear hb HC
 go_wp2_with (go_at_call 21;fail)
 refine (HF.out _ HC2.out.has HC2.out.ents HC2.out.tm).mono ?_
 rintro e w3 ⟨rfl,hb⟩
 have HC3:=hide (HC2.out.grow hb)
 clear hb HC2 HF
 go_wp2_with (go_at_call 20;fail)
 refine (awakeZ_any _ HC3.out.tm).mono ?_
 rintro e w4 ⟨rfl,hb⟩
 have HC4:=hide (HC3.out.grow hb)
 clear hb HC3
 go_wp2
 go_ret
 exact⟨rfl,HC4.out.base⟩
theorem ends_yes (L:List EN) (s:List UInt8) (w:World) (A:Option Addr) (n c:Nat) (xs:List Value) (hA:Has w w.heap.size 2 A n xs) (hL:ENs w w.heap.size xs L) (hT:TM w) (hfew:FewZ L s) (hF:∀w,Has w w.heap.size 2 A n xs→ENs w w.heap.size xs L→TM w→Calls Tryz.prog 21 #[.slice A n c,.string (txt s)] w fun e w'=>e=.returned (.bool true)∧Below w.heap.size w w'):
  Calls Tryz.prog 7 #[.slice A n c,.string (txt s)] w fun e w'=>e=.returned (.bool true)∧Below w.heap.size w w':=by
 obtain⟨hw,hs,hok⟩:=hfew
 obtain⟨hlen,hwe⟩:=wee_z hw
 have hml:=hA.ens_n hL
 have hno:∀e∈L,normT e.1=(e.1,0):=fun e he=>(hok e he).1
 have hC:VZ w w A n xs L:=⟨Below.refl _ _,hT,hA,hL⟩
 have HC:=hide hC
 have HF:=hide hF
 have hP:∀(x:List UInt8) (fo:Bool),x.length≤1000000→∀w,Has w w.heap.size 2 A n xs→ENs w w.heap.size xs L→TM w→Calls Tryz.prog 24 #[.slice A n c,.string (txt x),.bool fo] w fun e w'=>e=.returned (.tuple #[.string (txt (findV L x fo).1),.bool (findV L x fo).2.1,.int .i64 (findV L x fo).2.2])∧Below w.heap.size w w':=fun x fo hx w hA hL hT=>pfind_any L x fo w A n c xs hA hL (by omega) hwe hno hx hT
 have hP1:=hP s true (by omega)
 rcases find_ends L s with⟨h1,h2⟩ | ⟨h1,h2,h3,h4⟩
 ·rw [h2] at hP1
  generalize (findV L s true).2.1=b at *
  generalize (findV L s true).2.2=y at *
  have hy:=beq_false_of_ne h1
  have hy2:(y !=0)=true:=by unfold bne;rw[hy];rfl
  have q:((txt []).toList==[])=true:=by rw[toeq];rfl
  have HP1:=hide hP1
  generalize txt []=X at *
  clear hP hP1 hC hF hA hL hT hw hs hok hlen hwe hml hno h2
  generalize txt s=S at *
  go_enter Tryz.func7,Tryz.ntmps7
  go_wp2_with (go_at_call 20;fail)
  refine (awakeZ_any _ HC.out.tm).mono ?_
  rintro e w2 ⟨rfl,hb⟩
  have HC2:=hide (HC.out.grow hb)
  clear hb HC
  go_wp2_with (go_at_call 21;fail)
  refine (HF.out _ HC2.out.has HC2.out.ents HC2.out.tm).mono ?_
  rintro e w3 ⟨rfl,hb⟩
  have HC3:=hide (HC2.out.grow hb)
  clear hb HC2 HF
  go_wp2_with (go_at_call 24;fail)
  refine (HP1.out _ HC3.out.has HC3.out.ents HC3.out.tm).mono ?_
  rintro e w4 ⟨rfl,hb⟩
  have HC4:=hide (HC3.out.grow hb)
  clear hb HC3 HP1
  have HE:=hide HC4.out.base
  clear HC4
  go_wp2
  go_ret
  exact⟨rfl,HE.out⟩
 ·obtain ⟨x,hx⟩:∃x,(findV L s true).1=x:=⟨_,rfl⟩
  rw[hx] at hP1 h2 h3 h4
  have hx1:=norm_len1 h2
  have hP2:=hP x true (by omega)
  rw[h1] at hP1
  rw[h4] at hP2
  generalize (findV L s true).2.1=b at *
  have hAt:∀w,Has w w.heap.size 2 A n xs→ENs w w.heap.size xs L→TM w→Calls Tryz.prog 26 #[.slice A n c,.string (txt x)] w fun e w'=>e=.returned (.int .i64 (atN L x))∧Below w.heap.size w w':=fun w hA hL hT=>rat_any L x w A n c xs hA hL (by omega) (by omega) hT
  have HP1:=hide hP1
  have HP2:=hide hP2
  have HAt:=hide hAt
  have qq:((txt x).toList==(txt x).toList)=true:=by simp
  have hxx:=toeq x []
  clear hP hP1 hP2 hAt hC hF hA hL hT hw hs hok hlen hwe hml hno h2 h4 h1 hx hx1
  generalize txt s=S at *
  generalize txt x=X at *
  generalize atN L x=ai at *
  by_cases hx0:x=[]
  ·have q:(X.toList==[])=true:=by rw[hxx,hx0];rfl
   have q2:(X.toList !=[])=false:=by unfold bne;rw[q];rfl
   clear hxx h3 hx0
   go_enter Tryz.func7,Tryz.ntmps7
   go_wp2_with (go_at_call 20;fail)
   refine (awakeZ_any _ HC.out.tm).mono ?_
   rintro e w2 ⟨rfl,hb⟩
   have HC2:=hide (HC.out.grow hb)
   clear hb HC
   go_wp2_with (go_at_call 21;fail)
   refine (HF.out _ HC2.out.has HC2.out.ents HC2.out.tm).mono ?_
   rintro e w3 ⟨rfl,hb⟩
   have HC3:=hide (HC2.out.grow hb)
   clear hb HC2 HF
   go_wp2_with (go_at_call 24;fail)
   refine (HP1.out _ HC3.out.has HC3.out.ents HC3.out.tm).mono ?_
   rintro e w4 ⟨rfl,hb⟩
   have HC4:=hide (HC3.out.grow hb)
   clear hb HC3 HP1
   go_wp2_with (go_at_call 26;fail)
   refine (HAt.out _ HC4.out.has HC4.out.ents HC4.out.tm).mono ?_
   rintro e w5 ⟨rfl,hb⟩
   have HC5:=hide (HC4.out.grow hb)
   clear hb HC4 HAt
   go_wp2_with (go_at_call 24;fail)
   refine (HP2.out _ HC5.out.has HC5.out.ents HC5.out.tm).mono ?_
   rintro e w6 ⟨rfl,hb⟩
   have HC6:=hide (HC5.out.grow hb)
   clear hb HC5 HP2
   have HE:=hide HC6.out.base
   clear HC6
   go_wp2
   go_ret
   exact⟨rfl,HE.out⟩
  ·have q:(X.toList==[])=false:=by rw[hxx];simpa using hx0
   have q2:(X.toList !=[])=true:=by unfold bne;rw[q];rfl
   have hz:¬ai<0:=by
    rcases h3 with h | h
    ·exact absurd h hx0
    ·omega
   clear hxx h3 hx0
   go_enter Tryz.func7,Tryz.ntmps7
   go_wp2_with (go_at_call 20;fail)
   refine (awakeZ_any _ HC.out.tm).mono ?_
   rintro e w2 ⟨rfl,hb⟩
   have HC2:=hide (HC.out.grow hb)
   clear hb HC
   go_wp2_with (go_at_call 21;fail)
   refine (HF.out _ HC2.out.has HC2.out.ents HC2.out.tm).mono ?_
   rintro e w3 ⟨rfl,hb⟩
   have HC3:=hide (HC2.out.grow hb)
   clear hb HC2 HF
   go_wp2_with (go_at_call 24;fail)
   refine (HP1.out _ HC3.out.has HC3.out.ents HC3.out.tm).mono ?_
   rintro e w4 ⟨rfl,hb⟩
   have HC4:=hide (HC3.out.grow hb)
   clear hb HC3 HP1
   go_wp2_with (go_at_call 26;fail)
   refine (HAt.out _ HC4.out.has HC4.out.ents HC4.out.tm).mono ?_
   rintro e w5 ⟨rfl,hb⟩
   have HC5:=hide (HC4.out.grow hb)
   clear hb HC4 HAt
   go_wp2_with (go_at_call 24;fail)
   refine (HP2.out _ HC5.out.has HC5.out.ents HC5.out.tm).mono ?_
   rintro e w6 ⟨rfl,hb⟩
   have HC6:=hide (HC5.out.grow hb)
   clear hb HC5 HP2
   have HE:=hide HC6.out.base
   clear HC6
   go_wp2
   go_ret
   exact⟨rfl,HE.out⟩
theorem ends_bytes (L:List EN) (s:List UInt8) (w:World) (A:Option Addr) (n c:Nat) (xs:List Value) (hA:Has w w.heap.size 2 A n xs) (hL:ENs w w.heap.size xs L) (hn:n≤1048576) (hb:∀e∈L,BulkN e) (hs:s.length≤1048576) (hT:TM w):
  Calls Tryz.prog 7 #[.slice A n c,.string (txt s)] w fun e w'=>e=.returned (.bool true)∧Below w.heap.size w w':=by
 have hF:=fun w hA hL hT=>fewZ_any L s w A n c xs hA hL hn hb hs hT
 by_cases h:FewZ L s
 ·rw [Tr_yes h] at hF
  exact ends_yes L s w A n c xs hA hL hT h hF
 ·rw [Tr_no h] at hF
  exact ends_no L s w A n c xs hA hL hT hF
theorem ends_row (L:List EN) (S:ByteArray) (w:World) (A:Option Addr) (n c:Nat) (xs:List Value) (hA:Has w w.heap.size 2 A n xs) (hL:ENs w w.heap.size xs L) (hn:n≤1048576) (hb:∀e∈L,BulkN e) (hs:S.data.toList.length≤1048576) (hT:TM w):
  Calls Tryz.prog 7 #[.slice A n c,.string S] w fun e w'=>e=.returned (.bool true)∧Below w.heap.size w w':=by
 have:=ends_bytes L S.data.toList w A n c xs hA hL hn hb hs hT
 rwa [self_txtE] at this
end Go.Proofs.YtiobnllopliclaaGreatDoor
