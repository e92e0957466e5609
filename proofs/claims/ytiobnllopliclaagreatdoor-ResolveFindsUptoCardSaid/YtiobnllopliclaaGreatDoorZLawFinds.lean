/- ResolveFinds. By an AI agent. -/
import Derived.Test.YtiobnllopliclaaGreatDoorZRFind
import Derived.Test.YtiobnllopliclaaGreatDoorZFew
import Derived.Test.YtiobnllopliclaaGreatDoorZAwake
set_option maxRecDepth 100000
set_option maxHeartbeats 64000000
namespace Go.Proofs.YtiobnllopliclaaGreatDoor
open Go.RowKit Go.Proofs.YtiobnllopliclaaGreatDoor.Opens
set_option linter.unusedVariables false
set_option linter.unusedSimpArgs false
theorem finds_no (L:List EN) (s:List UInt8) (fo:Bool) (w:World) (A:Option Addr) (n c:Nat) (xs:List Value) (hA:Has w w.heap.size 2 A n xs) (hL:ENs w w.heap.size xs L) (hT:TM w) (hF:∀w,Has w w.heap.size 2 A n xs→ENs w w.heap.size xs L→TM w→Calls Tryz.prog 21 #[.slice A n c,.string (txt s)] w fun e w'=>e=.returned (.bool false)∧Below w.heap.size w w'):
  Calls Tryz.prog 6 #[.slice A n c,.string (txt s),.bool fo] w fun e w'=>e=.returned (.bool true)∧Below w.heap.size w w':=by
 have hC:VZ w w A n xs L:=⟨Below.refl _ _,hT,hA,hL⟩
 have HC:=hide hC
 have HF:=hide hF
 clear hC hF hA hL hT
 generalize txt s=S at *
 go_enter Tryz.func6,Tryz.ntmps6
 go_wp2_with (go_at_call 20;fail)
 refine (awakeZ_any _ HC.out.tm).mono ?_
 rintro e w2 ⟨rfl,hb⟩
 have HC2:=hide (HC.out.grow hb)
 clear hb HC
 go_wp2_with (go_at_call 21;fail)
 refine (HF.out _ HC2.out.has HC2.out.ents HC2.out.tm).mono ?_
 rintro e w3 ⟨rfl,hb⟩
 have HC3:=hide (HC2.out.grow hb)
 clear hb HC2 HF
 go_wp2_with (go_at_call 20;fail)
 refine (awakeZ_any _ HC3.out.tm).mono ?_
 rintro e w4 ⟨rfl,hb⟩
 have HC4:=hide (HC3.out.grow hb)
 clear hb HC3
 go_wp2
 go_ret
 exact⟨rfl,HC4.out.base⟩
theorem finds_yes (L:List EN) (s:List UInt8) (fo:Bool) (w:World) (A:Option Addr) (n c:Nat) (xs:List Value) (hA:Has w w.heap.size 2 A n xs) (hL:ENs w w.heap.size xs L) (hT:TM w) (hfew:FewZ L s) (hF:∀w,Has w w.heap.size 2 A n xs→ENs w w.heap.size xs L→TM w→Calls Tryz.prog 21 #[.slice A n c,.string (txt s)] w fun e w'=>e=.returned (.bool true)∧Below w.heap.size w w'):
  Calls Tryz.prog 6 #[.slice A n c,.string (txt s),.bool fo] w fun e w'=>e=.returned (.bool true)∧Below w.heap.size w w':=by
 obtain⟨hw,hs,hok⟩:=hfew
 obtain⟨hlen,hwe⟩:=wee_z hw
 have hml:=hA.ens_n hL
 have hno:∀e∈L,normT e.1=(e.1,0):=fun e he=>(hok e he).1
 have hC:VZ w w A n xs L:=⟨Below.refl _ _,hT,hA,hL⟩
 have HC:=hide hC
 have HF:=hide hF
 have hP:∀w,Has w w.heap.size 2 A n xs→ENs w w.heap.size xs L→TM w→Calls Tryz.prog 24 #[.slice A n c,.string (txt s),.bool fo] w fun e w'=>e=.returned (.tuple #[.string (txt (findV L s fo).1),.bool (findV L s fo).2.1,.int .i64 (findV L s fo).2.2])∧Below w.heap.size w w':=fun w hA hL hT=>pfind_any L s fo w A n c xs hA hL (by omega) hwe hno (by omega) hT
 have hR:∀w,Has w w.heap.size 2 A n xs→ENs w w.heap.size xs L→TM w→Calls Tryz.prog 25 #[.slice A n c,.string (txt s),.bool fo] w fun e w'=>e=.returned (.tuple #[.string (txt (findV L s fo).1),.bool (findV L s fo).2.1,.int .i64 (findV L s fo).2.2])∧Below w.heap.size w w':=fun w hA hL hT=>rfind_any L s fo w A n c xs hA hL (by omega) hwe (by omega) hT
 obtain⟨X,hX⟩:∃X,txt (findV L s fo).1=X:=⟨_,rfl⟩
 obtain⟨b,hb⟩:∃b,(findV L s fo).2.1=b:=⟨_,rfl⟩
 obtain⟨y,hy⟩:∃y,(findV L s fo).2.2=y:=⟨_,rfl⟩
 rw[hX,hb,hy] at hP hR
 have HP:=hide hP
 have HR:=hide hR
 clear hP hR hX hb hy hC hF hA hL hT hw hs hok hlen hwe hml hno
 generalize txt s=S at *
 have q1:(X.toList==X.toList)=true:=by simp
 have q2:(b==b)=true:=by simp
 have q3:(y==y)=true:=by simp
 go_enter Tryz.func6,Tryz.ntmps6
 go_wp2_with (go_at_call 20;fail)
 refine (awakeZ_any _ HC.out.tm).mono ?_
 rintro e w2 ⟨rfl,hb⟩
 have HC2:=hide (HC.out.grow hb)
 clear hb HC
 go_wp2_with (go_at_call 21;fail)
 refine (HF.out _ HC2.out.has HC2.out.ents HC2.out.tm).mono ?_
 rintro e w3 ⟨rfl,hb⟩
 have HC3:=hide (HC2.out.grow hb)
 clear hb HC2 HF
 go_wp2_with (go_at_call 24;fail)
 refine (HP.out _ HC3.out.has HC3.out.ents HC3.out.tm).mono ?_
 rintro e w4 ⟨rfl,hb4⟩
 have HC4:=hide (HC3.out.grow hb4)
 clear hb4 HC3 HP
 go_wp2_with (go_at_call 25;fail)
 refine (HR.out _ HC4.out.has HC4.out.ents HC4.out.tm).mono ?_
 rintro e w5 ⟨rfl,hb5⟩
 have HE:=hide (HC4.out.grow hb5).base
 clear hb5 HC4 HR
 go_wp2
 go_ret
 exact⟨by simp,HE.out⟩
theorem finds_bytes (L:List EN) (s:List UInt8) (fo:Bool) (w:World) (A:Option Addr) (n c:Nat) (xs:List Value) (hA:Has w w.heap.size 2 A n xs) (hL:ENs w w.heap.size xs L) (hn:n≤1048576) (hb:∀e∈L,BulkN e) (hs:s.length≤1048576) (hT:TM w):
  Calls Tryz.prog 6 #[.slice A n c,.string (txt s),.bool fo] w fun e w'=>e=.returned (.bool true)∧Below w.heap.size w w':=by
 have hF:=fun w hA hL hT=>fewZ_any L s w A n c xs hA hL hn hb hs hT
 by_cases h:FewZ L s
 ·rw [Tr_yes h] at hF
  exact finds_yes L s fo w A n c xs hA hL hT h hF
 ·rw [Tr_no h] at hF
  exact finds_no L s fo w A n c xs hA hL hT hF
theorem finds_row (L:List EN) (S:ByteArray) (fo:Bool) (w:World) (A:Option Addr) (n c:Nat) (xs:List Value) (hA:Has w w.heap.size 2 A n xs) (hL:ENs w w.heap.size xs L) (hn:n≤1048576) (hb:∀e∈L,BulkN e) (hs:S.data.toList.length≤1048576) (hT:TM w):
  Calls Tryz.prog 6 #[.slice A n c,.string S,.bool fo] w fun e w'=>e=.returned (.bool true)∧Below w.heap.size w w':=by
 have:=finds_bytes L S.data.toList fo w A n c xs hA hL hn hb hs hT
 rwa [self_txtE] at this
end Go.Proofs.YtiobnllopliclaaGreatDoor
