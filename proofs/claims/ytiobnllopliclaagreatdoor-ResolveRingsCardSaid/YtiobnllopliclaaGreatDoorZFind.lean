/- Find, by the program. By an AI agent. -/
import Derived.Test.YtiobnllopliclaaGreatDoorZWay
import Derived.Test.YtiobnllopliclaaGreatDoorZHas
import Derived.OwnWalk
set_option maxRecDepth 100000
set_option maxHeartbeats 64000000
namespace Go.Proofs.YtiobnllopliclaaGreatDoor
open Go.RowKit
set_option linter.unusedVariables false
set_option linter.unusedSimpArgs false
theorem go_snoc {L:List EN}:∀(k:Nat) {p s:List (List UInt8)} {n x:List UInt8},(p++[n]).length+k≤18→goV L k (p++[n]) n=(s,x,0)→∃p',s=p'++[x]∧p'.length≤17
 | 0,p,s,n,x,hl,h=>by rw[goV] at h;simp at h
 | k+1,p,s,n,x,hl,h=>by
  by_cases h1:(stepV L n).2.2=0
  ·by_cases h2:(stepV L n).2.1=true
   ·by_cases h3:16<(p++[n]).length∨(stepV L n).1∈p++[n]
    ·rw [go_ring h1 h2 h3] at h;simp at h
    ·rw [go_on h1 h2 h3] at h
     refine go_snoc k ?_ h
     simp only[List.length_append,List.length_cons,List.length_nil] at hl ⊢
     omega
   ·rw [go_stay h1 h2] at h
    simp only[Prod.mk.injEq] at h
    obtain⟨h4,h5,_⟩:=h
    subst h4 h5
    exact⟨p,rfl,by simp only[List.length_append,List.length_cons,List.length_nil] at hl;omega⟩
  ·rw [go_err h1] at h
   simp only[Prod.mk.injEq] at h
   exact absurd h.2.2 h1
theorem find_way_err (L:List EN) (w:World) (A:Option Addr) (m c:Nat) (xs:List Value) (SM SN:ByteArray) (HC:Hid (VZ w w A m xs L))
  (HN:Hid (Calls Tryz.prog 50 #[.string SM] w fun e w'=>e=.returned (.tuple #[.string SN,.int .i64 0])∧Below w.heap.size w w'))
  (y:Int) (HWy:Hid (∀w,Has w w.heap.size 2 A m xs→ENs w w.heap.size xs L→TM w→Calls Tryz.prog 56 #[.slice A m c,.string SN] w (WayPost ([],[],y) w))) (hy:(y==0)=false) (hy2:(y !=0)=true):
  Calls Tryz.prog 24 #[.slice A m c,.string SM,.bool true] w fun e w'=>Hid (e=.returned (.tuple #[.string ⟨#[]⟩,.bool false,.int .i64 y])∧Below w.heap.size w w'):=by
 go_enter Tryz.func24,Tryz.ntmps24
 go_wp2_with (go_at_call 50;fail)
 refine HN.out.mono ?_
 rintro e w2 ⟨rfl,hb2⟩
 have HC2:=hide (HC.out.grow hb2)
 clear hb2 HN
 have hbl:=below1 w2 (.cells #[.string SN] 9)
 have hll:=litS w2 SN
 have HC3:=hide (HC2.out.grow hbl)
 have hHl:=Has.own hll
 have l0:(w2.alloc (.cells #[.string SN] 9)).cell? ⟨w2.heap.size,0,none⟩=some (.string SN):=by rw[World.cell?_alloc_at (hn:=by simp)];rfl
 clear hbl hll hHl HC2
 go_wp2_with (go_at_call 56;fail)
 refine (HWy.out _ HC3.out.has HC3.out.ents HC3.out.tm).mono ?_
 rintro e w4 hpost
 obtain⟨A4,n4,c4,rfl,hb4,hres⟩:=hpost.out
 have HC4:=hide (HC3.out.grow hb4)
 clear hpost hres hb4 HC3 l0 HWy
 have HE:=hide HC4.out.base
 clear HC4
 go_wp2
 go_ret3
 exact hide ⟨rfl,HE.out⟩
theorem find_rootY (L:List EN) (w:World) (A:Option Addr) (m c:Nat) (xs:List Value) (SM SN:ByteArray) (HC:Hid (VZ w w A m xs L))
  (HN:Hid (Calls Tryz.prog 50 #[.string SM] w fun e w'=>e=.returned (.tuple #[.string SN,.int .i64 0])∧Below w.heap.size w w')) (p:List (List UInt8)) (x:List UInt8) (X:ByteArray) (q:Nat) (Hq:Hid (p.length=q)) (HX:Hid (txt x=X)) (hq17:q≤17)
  (HWy:Hid (∀w,Has w w.heap.size 2 A m xs→ENs w w.heap.size xs L→TM w→Calls Tryz.prog 56 #[.slice A m c,.string SN] w (WayPost (p++[x],x,0) w)))
  (bx:Bool) (HHs:Hid (∀w,Has w w.heap.size 2 A m xs→ENs w w.heap.size xs L→Calls Tryz.prog 57 #[.slice A m c,.string X] w fun e w'=>e=.returned (.bool bx)∧Below w.heap.size w w')) (hq0:(1:Int)<(q:Int)+1) (hX:(X.toList==[])=true):
  Calls Tryz.prog 24 #[.slice A m c,.string SM,.bool true] w fun e w'=>Hid (e=.returned (.tuple #[.string X,.bool true,.int .i64 0])∧Below w.heap.size w w'):=by
 go_enter Tryz.func24,Tryz.ntmps24
 go_wp2_with (go_at_call 50;fail)
 refine HN.out.mono ?_
 rintro e w2 ⟨rfl,hb2⟩
 have HC2:=hide (HC.out.grow hb2)
 clear hb2 HN
 have hbl:=below1 w2 (.cells #[.string SN] 9)
 have hll:=litS w2 SN
 have HC3:=hide (HC2.out.grow hbl)
 have hHl:=Has.own hll
 have l0:(w2.alloc (.cells #[.string SN] 9)).cell? ⟨w2.heap.size,0,none⟩=some (.string SN):=by rw[World.cell?_alloc_at (hn:=by simp)];rfl
 clear hbl hll hHl HC2
 go_wp2_with (go_at_call 56;fail)
 refine (HWy.out _ HC3.out.has HC3.out.ents HC3.out.tm).mono ?_
 rintro e w4 hpost
 obtain⟨A4,n4,c4,rfl,hb4,hres⟩:=hpost.out
 have HC4:=hide (HC3.out.grow hb4)
 obtain⟨hn4,hH4⟩:=hres rfl
 simp only[List.length_append,List.length_cons,List.length_nil,Nat.zero_add] at hn4
 rw[Hq.out] at hn4
 subst hn4
 obtain⟨g4,o4,hA4,hg4,hat4⟩:=hH4.texts (by simp)
 have d0:=hat4 p.length x (by simp)
 rw[Hq.out] at d0
 subst hA4
 have hqq:(q:Int)<(q:Int)+1:=by omega
 have hz0:(0:Int)<((q+1:Nat):Int):=by omega
 rw[HX.out] at d0
 clear hpost hres hb4 hH4 hat4 hg4 HC3 l0
 have HE:=hide HC4.out.base
 clear HHs HWy HX Hq HC4
 go_wp2
 go_ret3
 exact hide ⟨congrArg (fun b=>Ending.returned (Value.tuple #[_,Value.bool b,_])) (by simp[hq0]),HE.out⟩
theorem find_thereY (L:List EN) (w:World) (A:Option Addr) (m c:Nat) (xs:List Value) (SM SN:ByteArray) (HC:Hid (VZ w w A m xs L))
  (HN:Hid (Calls Tryz.prog 50 #[.string SM] w fun e w'=>e=.returned (.tuple #[.string SN,.int .i64 0])∧Below w.heap.size w w')) (p:List (List UInt8)) (x:List UInt8) (X:ByteArray) (q:Nat) (Hq:Hid (p.length=q)) (HX:Hid (txt x=X)) (hq17:q≤17)
  (HWy:Hid (∀w,Has w w.heap.size 2 A m xs→ENs w w.heap.size xs L→TM w→Calls Tryz.prog 56 #[.slice A m c,.string SN] w (WayPost (p++[x],x,0) w)))
  (HHs:Hid (∀w,Has w w.heap.size 2 A m xs→ENs w w.heap.size xs L→Calls Tryz.prog 57 #[.slice A m c,.string X] w fun e w'=>e=.returned (.bool true)∧Below w.heap.size w w')) (hq0:(1:Int)<(q:Int)+1) (hX:(X.toList==[])=false):
  Calls Tryz.prog 24 #[.slice A m c,.string SM,.bool true] w fun e w'=>Hid (e=.returned (.tuple #[.string X,.bool true,.int .i64 0])∧Below w.heap.size w w'):=by
 go_enter Tryz.func24,Tryz.ntmps24
 go_wp2_with (go_at_call 50;fail)
 refine HN.out.mono ?_
 rintro e w2 ⟨rfl,hb2⟩
 have HC2:=hide (HC.out.grow hb2)
 clear hb2 HN
 have hbl:=below1 w2 (.cells #[.string SN] 9)
 have hll:=litS w2 SN
 have HC3:=hide (HC2.out.grow hbl)
 have hHl:=Has.own hll
 have l0:(w2.alloc (.cells #[.string SN] 9)).cell? ⟨w2.heap.size,0,none⟩=some (.string SN):=by rw[World.cell?_alloc_at (hn:=by simp)];rfl
 clear hbl hll hHl HC2
 go_wp2_with (go_at_call 56;fail)
 refine (HWy.out _ HC3.out.has HC3.out.ents HC3.out.tm).mono ?_
 rintro e w4 hpost
 obtain⟨A4,n4,c4,rfl,hb4,hres⟩:=hpost.out
 have HC4:=hide (HC3.out.grow hb4)
 obtain⟨hn4,hH4⟩:=hres rfl
 simp only[List.length_append,List.length_cons,List.length_nil,Nat.zero_add] at hn4
 rw[Hq.out] at hn4
 subst hn4
 obtain⟨g4,o4,hA4,hg4,hat4⟩:=hH4.texts (by simp)
 have d0:=hat4 p.length x (by simp)
 rw[Hq.out] at d0
 subst hA4
 have hqq:(q:Int)<(q:Int)+1:=by omega
 have hz0:(0:Int)<((q+1:Nat):Int):=by omega
 rw[HX.out] at d0
 clear hpost hres hb4 hH4 hat4 hg4 HC3 l0
 clear HWy HX Hq
 go_wp2_with (go_at_call 57;fail)
 refine (HHs.out _ HC4.out.has HC4.out.ents).mono ?_
 rintro e w5 ⟨rfl,hb5⟩
 have HE:=hide (HC4.out.grow hb5).base
 clear hb5 HHs HC4
 go_wp2
 go_ret3
 exact hide ⟨congrArg (fun b=>Ending.returned (Value.tuple #[_,Value.bool b,_])) (by simp[hq0]),HE.out⟩
theorem find_goneY (L:List EN) (w:World) (A:Option Addr) (m c:Nat) (xs:List Value) (SM SN:ByteArray) (HC:Hid (VZ w w A m xs L))
  (HN:Hid (Calls Tryz.prog 50 #[.string SM] w fun e w'=>e=.returned (.tuple #[.string SN,.int .i64 0])∧Below w.heap.size w w')) (p:List (List UInt8)) (x:List UInt8) (X:ByteArray) (q:Nat) (Hq:Hid (p.length=q)) (HX:Hid (txt x=X)) (hq17:q≤17)
  (HWy:Hid (∀w,Has w w.heap.size 2 A m xs→ENs w w.heap.size xs L→TM w→Calls Tryz.prog 56 #[.slice A m c,.string SN] w (WayPost (p++[x],x,0) w)))
  (HHs:Hid (∀w,Has w w.heap.size 2 A m xs→ENs w w.heap.size xs L→Calls Tryz.prog 57 #[.slice A m c,.string X] w fun e w'=>e=.returned (.bool false)∧Below w.heap.size w w')) (hq0:(1:Int)<(q:Int)+1) (hX:(X.toList==[])=false):
  Calls Tryz.prog 24 #[.slice A m c,.string SM,.bool true] w fun e w'=>Hid (e=.returned (.tuple #[.string ⟨#[]⟩,.bool false,.int .i64 33])∧Below w.heap.size w w'):=by
 go_enter Tryz.func24,Tryz.ntmps24
 go_wp2_with (go_at_call 50;fail)
 refine HN.out.mono ?_
 rintro e w2 ⟨rfl,hb2⟩
 have HC2:=hide (HC.out.grow hb2)
 clear hb2 HN
 have hbl:=below1 w2 (.cells #[.string SN] 9)
 have hll:=litS w2 SN
 have HC3:=hide (HC2.out.grow hbl)
 have hHl:=Has.own hll
 have l0:(w2.alloc (.cells #[.string SN] 9)).cell? ⟨w2.heap.size,0,none⟩=some (.string SN):=by rw[World.cell?_alloc_at (hn:=by simp)];rfl
 clear hbl hll hHl HC2
 go_wp2_with (go_at_call 56;fail)
 refine (HWy.out _ HC3.out.has HC3.out.ents HC3.out.tm).mono ?_
 rintro e w4 hpost
 obtain⟨A4,n4,c4,rfl,hb4,hres⟩:=hpost.out
 have HC4:=hide (HC3.out.grow hb4)
 obtain⟨hn4,hH4⟩:=hres rfl
 simp only[List.length_append,List.length_cons,List.length_nil,Nat.zero_add] at hn4
 rw[Hq.out] at hn4
 subst hn4
 obtain⟨g4,o4,hA4,hg4,hat4⟩:=hH4.texts (by simp)
 have d0:=hat4 p.length x (by simp)
 rw[Hq.out] at d0
 subst hA4
 have hqq:(q:Int)<(q:Int)+1:=by omega
 have hz0:(0:Int)<((q+1:Nat):Int):=by omega
 rw[HX.out] at d0
 clear hpost hres hb4 hH4 hat4 hg4 HC3 l0
 clear HWy HX Hq
 go_wp2_with (go_at_call 57;fail)
 refine (HHs.out _ HC4.out.has HC4.out.ents).mono ?_
 rintro e w5 ⟨rfl,hb5⟩
 have HE:=hide (HC4.out.grow hb5).base
 clear hb5 HHs HC4
 go_wp2
 go_ret3
 exact hide ⟨rfl,HE.out⟩
theorem find_rootN (L:List EN) (w:World) (A:Option Addr) (m c:Nat) (xs:List Value) (SM SN:ByteArray) (HC:Hid (VZ w w A m xs L))
  (HN:Hid (Calls Tryz.prog 50 #[.string SM] w fun e w'=>e=.returned (.tuple #[.string SN,.int .i64 0])∧Below w.heap.size w w')) (p:List (List UInt8)) (x:List UInt8) (X:ByteArray) (q:Nat) (Hq:Hid (p.length=q)) (HX:Hid (txt x=X)) (hq17:q≤17)
  (HWy:Hid (∀w,Has w w.heap.size 2 A m xs→ENs w w.heap.size xs L→TM w→Calls Tryz.prog 56 #[.slice A m c,.string SN] w (WayPost (p++[x],x,0) w)))
  (bx:Bool) (HHs:Hid (∀w,Has w w.heap.size 2 A m xs→ENs w w.heap.size xs L→Calls Tryz.prog 57 #[.slice A m c,.string X] w fun e w'=>e=.returned (.bool bx)∧Below w.heap.size w w')) (hq0:¬(1:Int)<(q:Int)+1) (hX:(X.toList==[])=true):
  Calls Tryz.prog 24 #[.slice A m c,.string SM,.bool true] w fun e w'=>Hid (e=.returned (.tuple #[.string X,.bool false,.int .i64 0])∧Below w.heap.size w w'):=by
 go_enter Tryz.func24,Tryz.ntmps24
 go_wp2_with (go_at_call 50;fail)
 refine HN.out.mono ?_
 rintro e w2 ⟨rfl,hb2⟩
 have HC2:=hide (HC.out.grow hb2)
 clear hb2 HN
 have hbl:=below1 w2 (.cells #[.string SN] 9)
 have hll:=litS w2 SN
 have HC3:=hide (HC2.out.grow hbl)
 have hHl:=Has.own hll
 have l0:(w2.alloc (.cells #[.string SN] 9)).cell? ⟨w2.heap.size,0,none⟩=some (.string SN):=by rw[World.cell?_alloc_at (hn:=by simp)];rfl
 clear hbl hll hHl HC2
 go_wp2_with (go_at_call 56;fail)
 refine (HWy.out _ HC3.out.has HC3.out.ents HC3.out.tm).mono ?_
 rintro e w4 hpost
 obtain⟨A4,n4,c4,rfl,hb4,hres⟩:=hpost.out
 have HC4:=hide (HC3.out.grow hb4)
 obtain⟨hn4,hH4⟩:=hres rfl
 simp only[List.length_append,List.length_cons,List.length_nil,Nat.zero_add] at hn4
 rw[Hq.out] at hn4
 subst hn4
 obtain⟨g4,o4,hA4,hg4,hat4⟩:=hH4.texts (by simp)
 have d0:=hat4 p.length x (by simp)
 rw[Hq.out] at d0
 subst hA4
 have hqq:(q:Int)<(q:Int)+1:=by omega
 have hz0:(0:Int)<((q+1:Nat):Int):=by omega
 rw[HX.out] at d0
 clear hpost hres hb4 hH4 hat4 hg4 HC3 l0
 have HE:=hide HC4.out.base
 clear HHs HWy HX Hq HC4
 go_wp2
 go_ret3
 exact hide ⟨congrArg (fun b=>Ending.returned (Value.tuple #[_,Value.bool b,_])) (by simp[hq0]),HE.out⟩
theorem find_thereN (L:List EN) (w:World) (A:Option Addr) (m c:Nat) (xs:List Value) (SM SN:ByteArray) (HC:Hid (VZ w w A m xs L))
  (HN:Hid (Calls Tryz.prog 50 #[.string SM] w fun e w'=>e=.returned (.tuple #[.string SN,.int .i64 0])∧Below w.heap.size w w')) (p:List (List UInt8)) (x:List UInt8) (X:ByteArray) (q:Nat) (Hq:Hid (p.length=q)) (HX:Hid (txt x=X)) (hq17:q≤17)
  (HWy:Hid (∀w,Has w w.heap.size 2 A m xs→ENs w w.heap.size xs L→TM w→Calls Tryz.prog 56 #[.slice A m c,.string SN] w (WayPost (p++[x],x,0) w)))
  (HHs:Hid (∀w,Has w w.heap.size 2 A m xs→ENs w w.heap.size xs L→Calls Tryz.prog 57 #[.slice A m c,.string X] w fun e w'=>e=.returned (.bool true)∧Below w.heap.size w w')) (hq0:¬(1:Int)<(q:Int)+1) (hX:(X.toList==[])=false):
  Calls Tryz.prog 24 #[.slice A m c,.string SM,.bool true] w fun e w'=>Hid (e=.returned (.tuple #[.string X,.bool false,.int .i64 0])∧Below w.heap.size w w'):=by
 go_enter Tryz.func24,Tryz.ntmps24
 go_wp2_with (go_at_call 50;fail)
 refine HN.out.mono ?_
 rintro e w2 ⟨rfl,hb2⟩
 have HC2:=hide (HC.out.grow hb2)
 clear hb2 HN
 have hbl:=below1 w2 (.cells #[.string SN] 9)
 have hll:=litS w2 SN
 have HC3:=hide (HC2.out.grow hbl)
 have hHl:=Has.own hll
 have l0:(w2.alloc (.cells #[.string SN] 9)).cell? ⟨w2.heap.size,0,none⟩=some (.string SN):=by rw[World.cell?_alloc_at (hn:=by simp)];rfl
 clear hbl hll hHl HC2
 go_wp2_with (go_at_call 56;fail)
 refine (HWy.out _ HC3.out.has HC3.out.ents HC3.out.tm).mono ?_
 rintro e w4 hpost
 obtain⟨A4,n4,c4,rfl,hb4,hres⟩:=hpost.out
 have HC4:=hide (HC3.out.grow hb4)
 obtain⟨hn4,hH4⟩:=hres rfl
 simp only[List.length_append,List.length_cons,List.length_nil,Nat.zero_add] at hn4
 rw[Hq.out] at hn4
 subst hn4
 obtain⟨g4,o4,hA4,hg4,hat4⟩:=hH4.texts (by simp)
 have d0:=hat4 p.length x (by simp)
 rw[Hq.out] at d0
 subst hA4
 have hqq:(q:Int)<(q:Int)+1:=by omega
 have hz0:(0:Int)<((q+1:Nat):Int):=by omega
 rw[HX.out] at d0
 clear hpost hres hb4 hH4 hat4 hg4 HC3 l0
 clear HWy HX Hq
 go_wp2_with (go_at_call 57;fail)
 refine (HHs.out _ HC4.out.has HC4.out.ents).mono ?_
 rintro e w5 ⟨rfl,hb5⟩
 have HE:=hide (HC4.out.grow hb5).base
 clear hb5 HHs HC4
 go_wp2
 go_ret3
 exact hide ⟨congrArg (fun b=>Ending.returned (Value.tuple #[_,Value.bool b,_])) (by simp[hq0]),HE.out⟩
theorem find_goneN (L:List EN) (w:World) (A:Option Addr) (m c:Nat) (xs:List Value) (SM SN:ByteArray) (HC:Hid (VZ w w A m xs L))
  (HN:Hid (Calls Tryz.prog 50 #[.string SM] w fun e w'=>e=.returned (.tuple #[.string SN,.int .i64 0])∧Below w.heap.size w w')) (p:List (List UInt8)) (x:List UInt8) (X:ByteArray) (q:Nat) (Hq:Hid (p.length=q)) (HX:Hid (txt x=X)) (hq17:q≤17)
  (HWy:Hid (∀w,Has w w.heap.size 2 A m xs→ENs w w.heap.size xs L→TM w→Calls Tryz.prog 56 #[.slice A m c,.string SN] w (WayPost (p++[x],x,0) w)))
  (HHs:Hid (∀w,Has w w.heap.size 2 A m xs→ENs w w.heap.size xs L→Calls Tryz.prog 57 #[.slice A m c,.string X] w fun e w'=>e=.returned (.bool false)∧Below w.heap.size w w')) (hq0:¬(1:Int)<(q:Int)+1) (hX:(X.toList==[])=false):
  Calls Tryz.prog 24 #[.slice A m c,.string SM,.bool true] w fun e w'=>Hid (e=.returned (.tuple #[.string ⟨#[]⟩,.bool false,.int .i64 32])∧Below w.heap.size w w'):=by
 go_enter Tryz.func24,Tryz.ntmps24
 go_wp2_with (go_at_call 50;fail)
 refine HN.out.mono ?_
 rintro e w2 ⟨rfl,hb2⟩
 have HC2:=hide (HC.out.grow hb2)
 clear hb2 HN
 have hbl:=below1 w2 (.cells #[.string SN] 9)
 have hll:=litS w2 SN
 have HC3:=hide (HC2.out.grow hbl)
 have hHl:=Has.own hll
 have l0:(w2.alloc (.cells #[.string SN] 9)).cell? ⟨w2.heap.size,0,none⟩=some (.string SN):=by rw[World.cell?_alloc_at (hn:=by simp)];rfl
 clear hbl hll hHl HC2
 go_wp2_with (go_at_call 56;fail)
 refine (HWy.out _ HC3.out.has HC3.out.ents HC3.out.tm).mono ?_
 rintro e w4 hpost
 obtain⟨A4,n4,c4,rfl,hb4,hres⟩:=hpost.out
 have HC4:=hide (HC3.out.grow hb4)
 obtain⟨hn4,hH4⟩:=hres rfl
 simp only[List.length_append,List.length_cons,List.length_nil,Nat.zero_add] at hn4
 rw[Hq.out] at hn4
 subst hn4
 obtain⟨g4,o4,hA4,hg4,hat4⟩:=hH4.texts (by simp)
 have d0:=hat4 p.length x (by simp)
 rw[Hq.out] at d0
 subst hA4
 have hqq:(q:Int)<(q:Int)+1:=by omega
 have hz0:(0:Int)<((q+1:Nat):Int):=by omega
 rw[HX.out] at d0
 clear hpost hres hb4 hH4 hat4 hg4 HC3 l0
 clear HWy HX Hq
 go_wp2_with (go_at_call 57;fail)
 refine (HHs.out _ HC4.out.has HC4.out.ents).mono ?_
 rintro e w5 ⟨rfl,hb5⟩
 have HE:=hide (HC4.out.grow hb5).base
 clear hb5 HHs HC4
 go_wp2
 go_ret3
 exact hide ⟨rfl,HE.out⟩
theorem find_still_root (L:List EN) (w:World) (A:Option Addr) (m c:Nat) (xs:List Value) (SM SN:ByteArray) (HC:Hid (VZ w w A m xs L))
  (HN:Hid (Calls Tryz.prog 50 #[.string SM] w fun e w'=>e=.returned (.tuple #[.string SN,.int .i64 0])∧Below w.heap.size w w'))
  (bx:Bool) (HHs:Hid (∀w,Has w w.heap.size 2 A m xs→ENs w w.heap.size xs L→Calls Tryz.prog 57 #[.slice A m c,.string SN] w fun e w'=>e=.returned (.bool bx)∧Below w.heap.size w w')) (hX:(SN.toList==[])=true):
  Calls Tryz.prog 24 #[.slice A m c,.string SM,.bool false] w fun e w'=>Hid (e=.returned (.tuple #[.string SN,.bool false,.int .i64 0])∧Below w.heap.size w w'):=by
 go_enter Tryz.func24,Tryz.ntmps24
 go_wp2_with (go_at_call 50;fail)
 refine HN.out.mono ?_
 rintro e w2 ⟨rfl,hb2⟩
 have HC2:=hide (HC.out.grow hb2)
 clear hb2 HN
 have hbl:=below1 w2 (.cells #[.string SN] 9)
 have hll:=litS w2 SN
 have HC3:=hide (HC2.out.grow hbl)
 have hHl:=Has.own hll
 have l0:(w2.alloc (.cells #[.string SN] 9)).cell? ⟨w2.heap.size,0,none⟩=some (.string SN):=by rw[World.cell?_alloc_at (hn:=by simp)];rfl
 clear hbl hll hHl HC2
 have HE:=hide HC3.out.base
 clear HHs HC3
 go_wp2
 go_ret3
 exact hide ⟨rfl,HE.out⟩
theorem find_still_there (L:List EN) (w:World) (A:Option Addr) (m c:Nat) (xs:List Value) (SM SN:ByteArray) (HC:Hid (VZ w w A m xs L))
  (HN:Hid (Calls Tryz.prog 50 #[.string SM] w fun e w'=>e=.returned (.tuple #[.string SN,.int .i64 0])∧Below w.heap.size w w'))
  (HHs:Hid (∀w,Has w w.heap.size 2 A m xs→ENs w w.heap.size xs L→Calls Tryz.prog 57 #[.slice A m c,.string SN] w fun e w'=>e=.returned (.bool true)∧Below w.heap.size w w')) (hX:(SN.toList==[])=false):
  Calls Tryz.prog 24 #[.slice A m c,.string SM,.bool false] w fun e w'=>Hid (e=.returned (.tuple #[.string SN,.bool false,.int .i64 0])∧Below w.heap.size w w'):=by
 go_enter Tryz.func24,Tryz.ntmps24
 go_wp2_with (go_at_call 50;fail)
 refine HN.out.mono ?_
 rintro e w2 ⟨rfl,hb2⟩
 have HC2:=hide (HC.out.grow hb2)
 clear hb2 HN
 have hbl:=below1 w2 (.cells #[.string SN] 9)
 have hll:=litS w2 SN
 have HC3:=hide (HC2.out.grow hbl)
 have hHl:=Has.own hll
 have l0:(w2.alloc (.cells #[.string SN] 9)).cell? ⟨w2.heap.size,0,none⟩=some (.string SN):=by rw[World.cell?_alloc_at (hn:=by simp)];rfl
 clear hbl hll hHl HC2
 go_wp2_with (go_at_call 57;fail)
 refine (HHs.out _ HC3.out.has HC3.out.ents).mono ?_
 rintro e w5 ⟨rfl,hb5⟩
 have HE:=hide (HC3.out.grow hb5).base
 clear hb5 HHs HC3
 go_wp2
 go_ret3
 exact hide ⟨rfl,HE.out⟩
theorem find_still_gone (L:List EN) (w:World) (A:Option Addr) (m c:Nat) (xs:List Value) (SM SN:ByteArray) (HC:Hid (VZ w w A m xs L))
  (HN:Hid (Calls Tryz.prog 50 #[.string SM] w fun e w'=>e=.returned (.tuple #[.string SN,.int .i64 0])∧Below w.heap.size w w'))
  (HHs:Hid (∀w,Has w w.heap.size 2 A m xs→ENs w w.heap.size xs L→Calls Tryz.prog 57 #[.slice A m c,.string SN] w fun e w'=>e=.returned (.bool false)∧Below w.heap.size w w')) (hX:(SN.toList==[])=false):
  Calls Tryz.prog 24 #[.slice A m c,.string SM,.bool false] w fun e w'=>Hid (e=.returned (.tuple #[.string ⟨#[]⟩,.bool false,.int .i64 32])∧Below w.heap.size w w'):=by
 go_enter Tryz.func24,Tryz.ntmps24
 go_wp2_with (go_at_call 50;fail)
 refine HN.out.mono ?_
 rintro e w2 ⟨rfl,hb2⟩
 have HC2:=hide (HC.out.grow hb2)
 clear hb2 HN
 have hbl:=below1 w2 (.cells #[.string SN] 9)
 have hll:=litS w2 SN
 have HC3:=hide (HC2.out.grow hbl)
 have hHl:=Has.own hll
 have l0:(w2.alloc (.cells #[.string SN] 9)).cell? ⟨w2.heap.size,0,none⟩=some (.string SN):=by rw[World.cell?_alloc_at (hn:=by simp)];rfl
 clear hbl hll hHl HC2
 go_wp2_with (go_at_call 57;fail)
 refine (HHs.out _ HC3.out.has HC3.out.ents).mono ?_
 rintro e w5 ⟨rfl,hb5⟩
 have HE:=hide (HC3.out.grow hb5).base
 clear hb5 HHs HC3
 go_wp2
 go_ret3
 exact hide ⟨rfl,HE.out⟩
theorem find_no_name (L:List EN) (w:World) (A:Option Addr) (m c:Nat) (xs:List Value) (SM SN:ByteArray) (y:Int) (HC:Hid (VZ w w A m xs L))
  (HN:Hid (Calls Tryz.prog 50 #[.string SM] w fun e w'=>e=.returned (.tuple #[.string SN,.int .i64 y])∧Below w.heap.size w w')) (fo:Bool) (hy:(y==0)=false) (hy2:(y !=0)=true):
  Calls Tryz.prog 24 #[.slice A m c,.string SM,.bool fo] w fun e w'=>Hid (e=.returned (.tuple #[.string ⟨#[]⟩,.bool false,.int .i64 34])∧Below w.heap.size w w'):=by
 go_enter Tryz.func24,Tryz.ntmps24
 go_wp2_with (go_at_call 50;fail)
 refine HN.out.mono ?_
 rintro e w2 ⟨rfl,hb2⟩
 have HC2:=hide (HC.out.grow hb2)
 clear hb2 HN
 have HE:=hide HC2.out.base
 clear HC2
 go_wp2
 go_ret3
 exact hide ⟨rfl,HE.out⟩
theorem pfind_any (L:List EN) (nm:List UInt8) (fo:Bool) (w:World) (A:Option Addr) (m c:Nat) (xs:List Value) (hA:Has w w.heap.size 2 A m xs) (hL:ENs w w.heap.size xs L) (hm:m≤1000000) (hwe:∀e∈L,WeeZ e) (hno:∀e∈L,normT e.1=(e.1,0)) (hnm:nm.length≤1000000) (hT:TM w):
  Calls Tryz.prog 24 #[.slice A m c,.string (txt nm),.bool fo] w fun e w'=>e=.returned (.tuple #[.string (txt (findV L nm fo).1),.bool (findV L nm fo).2.1,.int .i64 (findV L nm fo).2.2])∧Below w.heap.size w w':=by
 have hC:VZ w w A m xs L:=⟨Below.refl _ _,hT,hA,hL⟩
 have hN:=pnormal_text nm hnm w hT
 by_cases h0:(normT nm).2=0
 ·have h:normT nm=((normT nm).1,0):=Prod.ext rfl h0
  generalize (normT nm).1=n at *
  rw[h] at hN
  have hnn:=norm_self h
  have hHs:∀(x:List UInt8) (b:Bool),(L.any fun e=>e.1==x)=b→∀w,Has w w.heap.size 2 A m xs→ENs w w.heap.size xs L→Calls Tryz.prog 57 #[.slice A m c,.string (txt x)] w fun e w'=>e=.returned (.bool b)∧Below w.heap.size w w':=fun x b hb w hA hL=>by
   have:=phasn_any x L w A m c xs hA hL hm
   rw[hb] at this
   exact this
  rw[find_norm h]
  cases fo with
  | true=>
   have hwy:wayV L n true=goV L 17 [n] n:=by unfold wayV;rw[if_pos rfl]
   rw[hwy]
   have hWy:=fun w hA hL hT=>pway_any L n hnn w A m c xs hA hL hm hwe hno hT
   by_cases h1:(goV L 17 [n] n).2.2=0
   ·obtain ⟨s,x,hg⟩:∃s x,goV L 17 [n] n=(s,x,0):=⟨_,_,Prod.ext rfl (Prod.ext rfl h1)⟩
    obtain⟨p,rfl,hp17⟩:=go_snoc (p:=[]) 17 (by simp) hg
    rw[hg] at hWy ⊢
    simp only
    rw[if_pos trivial]
    have e2:(p++[x]).length=p.length+1:=by simp
    rw[e2]
    by_cases hx:x=[]
    ·have hth:thereB L x=true:=by unfold thereB;rw[hx];rfl
     have hXe:((txt x).toList==[])=true:=by rw[toeq,hx];rfl
     rw[if_pos hth]
     by_cases hq:1<p.length+1
     ·rw [decide_eq_true hq]
      exact (find_rootY L w A m c xs _ _ (hide hC) (hide hN) p x _ _ (hide rfl) (hide rfl) hp17 (hide hWy) _ (hide (hHs x _ rfl)) (by omega) hXe).mono fun e w' h=>h.out
     ·rw [decide_eq_false hq]
      exact (find_rootN L w A m c xs _ _ (hide hC) (hide hN) p x _ _ (hide rfl) (hide rfl) hp17 (hide hWy) _ (hide (hHs x _ rfl)) (by omega) hXe).mono fun e w' h=>h.out
    ·have hXe:((txt x).toList==[])=false:=by rw[toeq];simpa using hx
     have hxb:(x==[])=false:=by simpa using hx
     by_cases hth:(L.any fun e=>e.1==x)=true
     ·rw [if_pos (show thereB L x=true by unfold thereB;rw[hth];simp)]
      by_cases hq:1<p.length+1
      ·rw [decide_eq_true hq]
       exact (find_thereY L w A m c xs _ _ (hide hC) (hide hN) p x _ _ (hide rfl) (hide rfl) hp17 (hide hWy) (hide (hHs x _ hth)) (by omega) hXe).mono fun e w' h=>h.out
      ·rw [decide_eq_false hq]
       exact (find_thereN L w A m c xs _ _ (hide hC) (hide hN) p x _ _ (hide rfl) (hide rfl) hp17 (hide hWy) (hide (hHs x _ hth)) (by omega) hXe).mono fun e w' h=>h.out
     ·have hthf:(L.any fun e=>e.1==x)=false:=Bool.eq_false_iff.2 hth
      rw[if_neg (show ¬thereB L x=true by unfold thereB;rw[hthf,hxb];simp)]
      by_cases hq:1<p.length+1
      ·rw [if_pos hq]
       exact (find_goneY L w A m c xs _ _ (hide hC) (hide hN) p x _ _ (hide rfl) (hide rfl) hp17 (hide hWy) (hide (hHs x _ hthf)) (by omega) hXe).mono fun e w' h=>h.out
      ·rw [if_neg hq]
       exact (find_goneN L w A m c xs _ _ (hide hC) (hide hN) p x _ _ (hide rfl) (hide rfl) hp17 (hide hWy) (hide (hHs x _ hthf)) (by omega) hXe).mono fun e w' h=>h.out
   ·rw [if_neg h1]
    have hy:=beq_false_of_ne h1
    have hg3:∀(k:Nat) (p:List (List UInt8)) (n:List UInt8),¬(goV L k p n).2.2=0→goV L k p n=([],[],(goV L k p n).2.2):=by
     intro k
     induction k with
     | zero=>intro p n _;rw[goV]
     | succ k ih=>
      intro p n hh
      by_cases a1:(stepV L n).2.2=0
      ·by_cases a2:(stepV L n).2.1=true
       ·by_cases a3:16<p.length∨(stepV L n).1∈p
        ·rw [go_ring a1 a2 a3]
        ·rw [go_on a1 a2 a3] at hh ⊢
         exact ih _ _ hh
       ·rw [go_stay a1 a2] at hh
        exact absurd rfl hh
      ·rw [go_err a1]
    rw[hg3 17 [n] n h1] at hWy
    generalize (goV L 17 [n] n).2.2=y at *
    exact (find_way_err L w A m c xs _ _ (hide hC) (hide hN) y (hide hWy) hy (by unfold bne;rw[hy];rfl)).mono fun e w' h=>h.out
  | false=>
   have hwy:wayV L n false=([n],n,0):=by unfold wayV;rw[if_neg (by simp)]
   rw[hwy]
   simp only[List.length_cons,List.length_nil]
   rw[if_pos trivial]
   by_cases hx:n=[]
   ·rw [if_pos (show thereB L n=true by unfold thereB;rw[hx];rfl)]
    exact (find_still_root L w A m c xs _ _ (hide hC) (hide hN) _ (hide (hHs n _ rfl)) (by rw[toeq,hx];rfl)).mono fun e w' h=>h.out
   ·have hXe:((txt n).toList==[])=false:=by rw[toeq];simpa using hx
    have hxb:(n==[])=false:=by simpa using hx
    by_cases hth:(L.any fun e=>e.1==n)=true
    ·rw [if_pos (show thereB L n=true by unfold thereB;rw[hth];simp)]
     exact (find_still_there L w A m c xs _ _ (hide hC) (hide hN) (hide (hHs n _ hth)) hXe).mono fun e w' h=>h.out
    ·have hthf:(L.any fun e=>e.1==n)=false:=Bool.eq_false_iff.2 hth
     rw[if_neg (show ¬thereB L n=true by unfold thereB;rw[hthf,hxb];simp)]
     exact (find_still_gone L w A m c xs _ _ (hide hC) (hide hN) (hide (hHs n _ hthf)) hXe).mono fun e w' h=>h.out
 ·rw [find_bad h0]
  have hy:=beq_false_of_ne h0
  obtain⟨X,hX⟩:∃X,txt (normT nm).1=X:=⟨_,rfl⟩
  rw[hX] at hN
  generalize (normT nm).2=y at *
  exact (find_no_name L w A m c xs _ _ y (hide hC) (hide hN) fo hy (by unfold bne;rw[hy];rfl)).mono fun e w' h=>h.out
end Go.Proofs.YtiobnllopliclaaGreatDoor
