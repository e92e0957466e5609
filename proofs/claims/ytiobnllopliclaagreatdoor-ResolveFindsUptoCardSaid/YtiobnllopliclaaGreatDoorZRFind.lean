/- Find, by the reference. By an AI agent. -/
import Derived.Test.YtiobnllopliclaaGreatDoorZRStep
import Derived.OwnWalk
set_option maxRecDepth 100000
set_option maxHeartbeats 64000000
namespace Go.Proofs.YtiobnllopliclaaGreatDoor
open Go.RowKit
set_option linter.unusedVariables false
set_option linter.unusedSimpArgs false
noncomputable def resV (L:List EN) (G:List (List UInt8) × List UInt8 × Int):List UInt8 × Bool × Int:=
 if G.2.2=0 then
  if thereB L G.2.1=true then (G.2.1,decide (1<G.1.length),0)
  else ([],false,if 1<G.1.length then 33 else 32)
 else ([],false,G.2.2)
structure ResPost (R:List UInt8 × Bool × Int) (w:World) (e:Ending) (w':World):Prop where
 out:e=.returned (.tuple #[.string (txt R.1),.bool R.2.1,.int .i64 R.2.2])∧Below w.heap.size w w'
theorem rfind_bad (L:List EN) (w:World) (A:Option Addr) (m c:Nat) (xs:List Value) (SM SN:ByteArray) (y:Int) (fo:Bool) (HC:Hid (VZ w w A m xs L))
  (HN:Hid (Calls Tryz.prog 27 #[.string SM] w fun e w'=>e=.returned (.tuple #[.string SN,.int .i64 y])∧Below w.heap.size w w')) (hy:(y==0)=false) (hy2:(y !=0)=true):
  Calls Tryz.prog 25 #[.slice A m c,.string SM,.bool fo] w fun e w'=>Hid (e=.returned (.tuple #[.string ⟨#[]⟩,.bool false,.int .i64 34])∧Below w.heap.size w w'):=by
 go_enter Tryz.func25,Tryz.ntmps25
 go_wp2_with (go_at_call 27;fail)
 refine HN.out.mono ?_
 rintro e w2 ⟨rfl,hb2⟩
 have HC2:=hide (HC.out.grow hb2)
 clear hb2 HN
 have HE:=hide HC2.out.base
 clear HC2
 go_wp2
 go_ret3
 exact hide ⟨rfl,HE.out⟩
theorem rfind_still (L:List EN) (w:World) (A:Option Addr) (m c:Nat) (xs:List Value) (SM SN:ByteArray) (n:List UInt8) (hn:normT n=(n,0)) (HSN:Hid (txt n=SN)) (HC:Hid (VZ w w A m xs L))
  (HN:Hid (Calls Tryz.prog 27 #[.string SM] w fun e w'=>e=.returned (.tuple #[.string SN,.int .i64 0])∧Below w.heap.size w w'))
  (HAa:Hid (∀x:List UInt8,normT x=(x,0)→∀w,Has w w.heap.size 2 A m xs→ENs w w.heap.size xs L→TM w→Calls Tryz.prog 26 #[.slice A m c,.string (txt x)] w fun e w'=>e=.returned (.int .i64 (atN L x))∧Below w.heap.size w w')):
  Calls Tryz.prog 25 #[.slice A m c,.string SM,.bool false] w fun e w'=>Hid (ResPost (resV L ([n],n,0)) w e w'):=by
 obtain⟨G,hG⟩:∃G,(([n],n,0):List (List UInt8) × List UInt8 × Int)=G:=⟨_,rfl⟩
 rw[hG]
 have HG:Hid (G=([n],n,0)):=hide hG.symm
 have hnx:=hn
 have HAt:=hide (HAa.out n hn)
 rw[HSN.out] at HAt
 have HX:=HSN
 clear hG HAa HSN
 obtain⟨x,hx0⟩:∃x,n=x:=⟨_,rfl⟩
 rw[hx0] at HG HX HAt hnx
 obtain⟨X,hX0⟩:∃X,SN=X:=⟨_,rfl⟩
 rw[hX0] at HX HAt HN
 clear hx0 hX0 hn SN n
 by_cases hx:x=[]
 ·have hth:thereB L x=true:=by unfold thereB;rw[hx];rfl
  have hXe:(X.toList==[])=true:=by rw[←HX.out,toeq,hx];rfl
  have HR:Hid (resV L G=(x,false,0)):=hide (by rw[HG.out];unfold resV;simp[hth])
  clear hth hnx hx HG
  go_enter Tryz.func25,Tryz.ntmps25
  go_wp2_with (go_at_call 27;fail)
  refine HN.out.mono ?_
  rintro e w2 ⟨rfl,hb2⟩
  have HC2:=hide (HC.out.grow hb2)
  clear hb2 HN
  have hbl:=below1 w2 (.cells #[.string X] 9)
  have HC3:=hide (HC2.out.grow hbl)
  obtain⟨w3,hw3⟩:∃w3,w2.alloc (.cells #[.string X] 9)=w3:=⟨_,rfl⟩
  rw[hw3] at HC3
  have Hw3:=hide hw3
  clear hbl hw3
  go_upto_region 5 with fail
  rw[Hw3.out]
  clear Hw3 HC2 HC
  go_loopg [9,11] 0 (fun k s9 s11 wx=>s9=.string X∧s11=.slice (some ⟨w2.heap.size,0,none⟩) 1 1∧wx=w3)
  case atStart=>exact⟨rfl,rfl,rfl⟩
  case round=>
   obtain⟨rfl,rfl,hw⟩:=hrel
   obtain rfl:=hw.symm
   clear hw
   have HE:=hide HC3.out.base
   clear HAt HC3
   go_wp2
   go_ret3
   exact hide (by rw[HR.out];exact⟨by rw[←HX.out];first | rfl | exact congrArg (fun b=>Ending.returned (Value.tuple #[_,Value.bool b,_])) (by simp[hq0]),HE.out⟩)
 ·have hXe:(X.toList==[])=false:=by rw[←HX.out,toeq];simpa using hx
  have hxb:(x==[])=false:=by simpa using hx
  have hta:=there_at (L:=L) hnx
  rw[hxb,Bool.false_or] at hta
  by_cases hat:0≤atN L x
  ·have hth:thereB L x=true:=by rw[hta];exact decide_eq_true hat
   generalize atN L x=ai at *
   have hz:¬ai<0:=by omega
   have HR:Hid (resV L G=(x,false,0)):=hide (by rw[HG.out];unfold resV;simp[hth])
   clear hth hnx hx hxb hta HG
   go_enter Tryz.func25,Tryz.ntmps25
   go_wp2_with (go_at_call 27;fail)
   refine HN.out.mono ?_
   rintro e w2 ⟨rfl,hb2⟩
   have HC2:=hide (HC.out.grow hb2)
   clear hb2 HN
   have hbl:=below1 w2 (.cells #[.string X] 9)
   have HC3:=hide (HC2.out.grow hbl)
   obtain⟨w3,hw3⟩:∃w3,w2.alloc (.cells #[.string X] 9)=w3:=⟨_,rfl⟩
   rw[hw3] at HC3
   have Hw3:=hide hw3
   clear hbl hw3
   go_upto_region 5 with fail
   rw[Hw3.out]
   clear Hw3 HC2 HC
   go_loopg [9,11] 0 (fun k s9 s11 wx=>s9=.string X∧s11=.slice (some ⟨w2.heap.size,0,none⟩) 1 1∧wx=w3)
   case atStart=>exact⟨rfl,rfl,rfl⟩
   case round=>
    obtain⟨rfl,rfl,hw⟩:=hrel
    obtain rfl:=hw.symm
    clear hw
    go_wp2_with (go_at_call 26;fail)
    refine (HAt.out _ HC3.out.has HC3.out.ents HC3.out.tm).mono ?_
    rintro e9 w9 ⟨rfl,hb9⟩
    have HE:=hide (HC3.out.grow hb9).base
    clear hb9 HAt HC3
    go_wp2
    go_ret3
    exact hide (by rw[HR.out];exact⟨by rw[←HX.out];first | rfl | exact congrArg (fun b=>Ending.returned (Value.tuple #[_,Value.bool b,_])) (by simp[hq0]),HE.out⟩)
  ·have hth:thereB L x=false:=by rw[hta];exact decide_eq_false hat
   generalize atN L x=ai at *
   have hz:ai<0:=by omega
   have HR:Hid (resV L G=([],false,32)):=hide (by rw[HG.out];unfold resV;simp[hth])
   clear hth hnx hx hxb hta HG HX
   go_enter Tryz.func25,Tryz.ntmps25
   go_wp2_with (go_at_call 27;fail)
   refine HN.out.mono ?_
   rintro e w2 ⟨rfl,hb2⟩
   have HC2:=hide (HC.out.grow hb2)
   clear hb2 HN
   have hbl:=below1 w2 (.cells #[.string X] 9)
   have HC3:=hide (HC2.out.grow hbl)
   obtain⟨w3,hw3⟩:∃w3,w2.alloc (.cells #[.string X] 9)=w3:=⟨_,rfl⟩
   rw[hw3] at HC3
   have Hw3:=hide hw3
   clear hbl hw3
   go_upto_region 5 with fail
   rw[Hw3.out]
   clear Hw3 HC2 HC
   go_loopg [9,11] 0 (fun k s9 s11 wx=>s9=.string X∧s11=.slice (some ⟨w2.heap.size,0,none⟩) 1 1∧wx=w3)
   case atStart=>exact⟨rfl,rfl,rfl⟩
   case round=>
    obtain⟨rfl,rfl,hw⟩:=hrel
    obtain rfl:=hw.symm
    clear hw
    go_wp2_with (go_at_call 26;fail)
    refine (HAt.out _ HC3.out.has HC3.out.ents HC3.out.tm).mono ?_
    rintro e9 w9 ⟨rfl,hb9⟩
    have HE:=hide (HC3.out.grow hb9).base
    clear hb9 HAt HC3
    go_wp2
    go_ret3
    exact hide (by rw[HR.out];exact⟨rfl,HE.out⟩)
theorem rfind_go (L:List EN) (w:World) (A:Option Addr) (m c:Nat) (xs:List Value) (SM SN:ByteArray) (n:List UInt8) (hn:normT n=(n,0)) (HSN:Hid (txt n=SN)) (HC:Hid (VZ w w A m xs L))
  (HN:Hid (Calls Tryz.prog 27 #[.string SM] w fun e w'=>e=.returned (.tuple #[.string SN,.int .i64 0])∧Below w.heap.size w w'))
  (HAa:Hid (∀x:List UInt8,normT x=(x,0)→∀w,Has w w.heap.size 2 A m xs→ENs w w.heap.size xs L→TM w→Calls Tryz.prog 26 #[.slice A m c,.string (txt x)] w fun e w'=>e=.returned (.int .i64 (atN L x))∧Below w.heap.size w w'))
  (HSt:Hid (∀x:List UInt8,normT x=(x,0)→∀w,Has w w.heap.size 2 A m xs→ENs w w.heap.size xs L→TM w→Calls Tryz.prog 23 #[.slice A m c,.string (txt x)] w fun e w'=>e=.returned (.tuple #[.string (txt (stepV L x).1),.bool (stepV L x).2.1,.int .i64 (stepV L x).2.2])∧Below w.heap.size w w')):
  Calls Tryz.prog 25 #[.slice A m c,.string SM,.bool true] w fun e w'=>Hid (ResPost (resV L (goV L 17 [n] n)) w e w'):=by
 obtain⟨G,hG⟩:∃G,goV L 17 [n] n=G:=⟨_,rfl⟩
 rw[hG]
 have HG:=hide hG
 have Hn:=hide hn
 clear hG hn
 go_enter Tryz.func25,Tryz.ntmps25
 go_wp2_with (go_at_call 27;fail)
 refine HN.out.mono ?_
 rintro e w2 ⟨rfl,hb2⟩
 have HC2:=hide (HC.out.grow hb2)
 clear hb2 HN
 have hbl:=below1 w2 (.cells #[.string SN] 9)
 have hll:=litS w2 SN
 have HC3:=hide (HC2.out.grow hbl)
 obtain⟨w3,hw3⟩:∃w3,w2.alloc (.cells #[.string SN] 9)=w3:=⟨_,rfl⟩
 rw[hw3] at hll HC3
 have Hw3:=hide hw3
 clear hbl hw3
 have Hl:Hid (w3.ownsRow w.heap.size 9 1 (.slice (some ⟨w2.heap.size,0,none⟩) 1 1) (0+1) (strs ([]++[n]))):=hide (by
  have:=own_base hll HC2.out.base.size
  rw[←HSN.out] at this
  exact this)
 clear hll
 go_upto_region 5 with fail
 rw[Hw3.out]
 have HB:=hide HC3.out.base
 clear Hw3 HC2 HC3
 go_loopg [9,11] 17 (fun k s9 s11 wx=>∃(p:List (List UInt8)) (x:List UInt8),Hid (goV L k (p++[x]) x=G)∧Hid (normT x=(x,0))∧p.length+k=17∧1≤k∧s9=.string (txt x)∧Hid (wx.ownsRow w.heap.size 9 1 s11 (p.length+1) (strs (p++[x])))∧Hid (Below w.heap.size w wx))
 case atStart=>exact⟨[],n,HG,Hn,rfl,by omega,by rw[HSN.out],Hl,HB⟩
 case round=>
  obtain⟨p,x,hgo,hnx0,hpk,hk1,rfl,hro,hbr⟩:=hrel
  have hcr:=hide (HC.out.grow hbr.out)
  clear HG Hn Hl HB HSN
  cases gk with
  | zero=>exact absurd hk1 (by omega)
  | succ r=>
   obtain⟨A5,c5,rfl,hc5,hH5⟩:=own_form hro.out
   have Hcall:=hide (HSt.out x hnx0.out wr hcr.out.has hcr.out.ents hcr.out.tm)
   have HAt:=hide (HAa.out x hnx0.out)
   have hln:(p++[x]).length=p.length+1:=by simp
   have hgo2:=hgo.out
   obtain⟨st,hst⟩:∃st,stepV L x=st:=⟨_,rfl⟩
   rw[hst] at Hcall
   have hsn:st.2.2=0→normT st.1=(st.1,0):=fun h=>step_norm (L:=L) (n:=x) (b:=st.2.1) (by rw[hst];exact Prod.ext rfl (Prod.ext rfl h))
   obtain⟨tx,ok,code⟩:=st
   simp only at Hcall hsn
   have Hsn:=hide hsn
   obtain⟨q,hq⟩:∃q,p.length=q:=⟨_,rfl⟩
   rw[hq] at hro hH5 hc5 hpk
   rw[hq]
   have Hq:=hide hq
   obtain⟨X,hX⟩:∃X,txt x=X:=⟨_,rfl⟩
   rw[hX] at Hcall HAt
   rw[hX]
   have HX:=hide hX
   clear hgo hsn hq hX HSt HAa hbr
   by_cases h1:code=0
   ·subst h1
    cases ok with
    | false=>
     have HGe:Hid (G=(p++[x],x,0)):=hide (by rw[←hgo2,go_stay (by rw[hst]) (by rw[hst];simp)])
     have hnx:=hnx0.out
     generalize txt tx=TO at *
     clear hgo2 hst Hsn hnx0 hln hro hH5 hc5
     by_cases hx:x=[]
     ·have hth:thereB L x=true:=by unfold thereB;rw[hx];rfl
      have hXe:(X.toList==[])=true:=by rw[←HX.out,toeq,hx];rfl
      clear hx HAt
      by_cases hq0:(1:Int)<(q:Int)+1
      ·have hqd:0<q:=by omega
       have HR:Hid (resV L G=(x,true,0)):=hide (by rw[HGe.out];unfold resV;simp only[hth,Hq.out,List.length_append,List.length_cons,List.length_nil];simp[hqd])
       clear hqd hth hnx
       go_wp2_with (go_at_call 23;fail)
       refine Hcall.out.mono ?_
       rintro e w4 ⟨rfl,hb4⟩
       have HC4:=hide (hcr.out.grow hb4)
       clear hb4 hcr Hcall
       have HE:=hide HC4.out.base
       clear Hq HGe HC4
       go_wp2
       go_ret3
       exact hide (by rw[HR.out];exact⟨by rw[←HX.out];first | rfl | exact congrArg (fun b=>Ending.returned (Value.tuple #[_,Value.bool b,_])) (by simp[hq0]),HE.out⟩)
      ·have hqd:¬0<q:=by omega
       have HR:Hid (resV L G=(x,false,0)):=hide (by rw[HGe.out];unfold resV;simp only[hth,Hq.out,List.length_append,List.length_cons,List.length_nil];simp[hqd])
       clear hqd hth hnx
       go_wp2_with (go_at_call 23;fail)
       refine Hcall.out.mono ?_
       rintro e w4 ⟨rfl,hb4⟩
       have HC4:=hide (hcr.out.grow hb4)
       clear hb4 hcr Hcall
       have HE:=hide HC4.out.base
       clear Hq HGe HC4
       go_wp2
       go_ret3
       exact hide (by rw[HR.out];exact⟨by rw[←HX.out];first | rfl | exact congrArg (fun b=>Ending.returned (Value.tuple #[_,Value.bool b,_])) (by simp[hq0]),HE.out⟩)
     ·have hXe:(X.toList==[])=false:=by rw[←HX.out,toeq];simpa using hx
      have hxb:(x==[])=false:=by simpa using hx
      have hta:=there_at (L:=L) hnx
      rw[hxb,Bool.false_or] at hta
      by_cases hat:0≤atN L x
      ·have hth:thereB L x=true:=by rw[hta];exact decide_eq_true hat
       generalize atN L x=ai at *
       have hz:¬ai<0:=by omega
       clear hx hxb hta
       by_cases hq0:(1:Int)<(q:Int)+1
       ·have hqd:0<q:=by omega
        have HR:Hid (resV L G=(x,true,0)):=hide (by rw[HGe.out];unfold resV;simp only[hth,Hq.out,List.length_append,List.length_cons,List.length_nil];simp[hqd])
        clear hqd hth hnx
        go_wp2_with (go_at_call 23;fail)
        refine Hcall.out.mono ?_
        rintro e w4 ⟨rfl,hb4⟩
        have HC4:=hide (hcr.out.grow hb4)
        clear hb4 hcr Hcall
        go_wp2_with (go_at_call 26;fail)
        refine (HAt.out _ HC4.out.has HC4.out.ents HC4.out.tm).mono ?_
        rintro e9 w9 ⟨rfl,hb9⟩
        have HE:=hide (HC4.out.grow hb9).base
        clear hb9 Hq HGe HC4
        go_wp2
        go_ret3
        exact hide (by rw[HR.out];exact⟨by rw[←HX.out];first | rfl | exact congrArg (fun b=>Ending.returned (Value.tuple #[_,Value.bool b,_])) (by simp[hq0]),HE.out⟩)
       ·have hqd:¬0<q:=by omega
        have HR:Hid (resV L G=(x,false,0)):=hide (by rw[HGe.out];unfold resV;simp only[hth,Hq.out,List.length_append,List.length_cons,List.length_nil];simp[hqd])
        clear hqd hth hnx
        go_wp2_with (go_at_call 23;fail)
        refine Hcall.out.mono ?_
        rintro e w4 ⟨rfl,hb4⟩
        have HC4:=hide (hcr.out.grow hb4)
        clear hb4 hcr Hcall
        go_wp2_with (go_at_call 26;fail)
        refine (HAt.out _ HC4.out.has HC4.out.ents HC4.out.tm).mono ?_
        rintro e9 w9 ⟨rfl,hb9⟩
        have HE:=hide (HC4.out.grow hb9).base
        clear hb9 Hq HGe HC4
        go_wp2
        go_ret3
        exact hide (by rw[HR.out];exact⟨by rw[←HX.out];first | rfl | exact congrArg (fun b=>Ending.returned (Value.tuple #[_,Value.bool b,_])) (by simp[hq0]),HE.out⟩)
      ·have hth:thereB L x=false:=by rw[hta];exact decide_eq_false hat
       generalize atN L x=ai at *
       have hz:ai<0:=by omega
       clear hx hxb hta
       by_cases hq0:(1:Int)<(q:Int)+1
       ·have hqd:0<q:=by omega
        have HR:Hid (resV L G=([],false,33)):=hide (by rw[HGe.out];unfold resV;simp only[hth,Hq.out,List.length_append,List.length_cons,List.length_nil];simp[hqd])
        clear hqd hth hnx
        go_wp2_with (go_at_call 23;fail)
        refine Hcall.out.mono ?_
        rintro e w4 ⟨rfl,hb4⟩
        have HC4:=hide (hcr.out.grow hb4)
        clear hb4 hcr Hcall
        go_wp2_with (go_at_call 26;fail)
        refine (HAt.out _ HC4.out.has HC4.out.ents HC4.out.tm).mono ?_
        rintro e9 w9 ⟨rfl,hb9⟩
        have HE:=hide (HC4.out.grow hb9).base
        clear hb9 Hq HGe HC4
        go_wp2
        go_ret3
        exact hide (by rw[HR.out];exact⟨rfl,HE.out⟩)
       ·have hqd:¬0<q:=by omega
        have HR:Hid (resV L G=([],false,32)):=hide (by rw[HGe.out];unfold resV;simp only[hth,Hq.out,List.length_append,List.length_cons,List.length_nil];simp[hqd])
        clear hqd hth hnx
        go_wp2_with (go_at_call 23;fail)
        refine Hcall.out.mono ?_
        rintro e w4 ⟨rfl,hb4⟩
        have HC4:=hide (hcr.out.grow hb4)
        clear hb4 hcr Hcall
        go_wp2_with (go_at_call 26;fail)
        refine (HAt.out _ HC4.out.has HC4.out.ents HC4.out.tm).mono ?_
        rintro e9 w9 ⟨rfl,hb9⟩
        have HE:=hide (HC4.out.grow hb9).base
        clear hb9 Hq HGe HC4
        go_wp2
        go_ret3
        exact hide (by rw[HR.out];exact⟨rfl,HE.out⟩)
    | true=>
     have hnt:=hide (Hsn.out rfl)
     have hstr:Hid (strs (p++[x])++[.string (txt tx)]=strs ((p++[x])++[tx])):=hide (by simp[strs])
     have Hin:Hid (tx∈p++[x]→resV L G=([],false,36)):=hide (fun h=>by rw[←hgo2,go_ring (by rw[hst]) (by rw[hst]) (Or.inr (by rw[hst];exact h))];rfl)
     have Hlg:Hid (16<q+1→resV L G=([],false,36)):=hide (fun h=>by rw[←hgo2,go_ring (by rw[hst]) (by rw[hst]) (Or.inl (by rw[hln,Hq.out];exact h))];rfl)
     have Hon:Hid (tx ∉ p++[x]→¬16<q+1→goV L r ((p++[x])++[tx]) tx=G):=hide (fun h h'=>by rw[←hgo2,go_on (by rw[hst]) (by rw[hst]) (by rw[hst,hln,Hq.out];exact fun h2=>h2.elim h' h),hst])
     have Hln:=hide hln
     obtain⟨TO,hTO⟩:∃TO,txt tx=TO:=⟨_,rfl⟩
     rw[hTO] at Hcall hstr
     have HTO:=hide hTO
     clear hgo2 hst Hsn hnx0 hln HAt hTO
     go_wp2_with (go_at_call 23;fail)
     refine Hcall.out.mono ?_
     rintro e w4 ⟨rfl,hb4⟩
     have HB4:=hide (hcr.out.grow hb4).base
     have Hro4:=hide (own_below hro.out hb4)
     have HH:Hid (Has w4 w4.heap.size 1 A5 (q+1) (strs (p++[x]))):=hide ((hH5.below hb4).upto hb4.size)
     clear hb4 hcr hro Hcall hH5
     go_wp2
     go_loopg [41] (q+1) (fun k2 s41 wx=>∃i:Nat,i+k2=q+1∧s41=.int .i64 (i:Int)∧Hid (∀u∈(p++[x]).take i,u≠tx)∧wx=w4)
     case atStart=>exact⟨0,by omega,rfl,hide (fun u hu=>by simp at hu),rfl⟩
     case round=>
      obtain⟨i,hig,rfl,hpre,hw⟩:=hrel
      obtain rfl:=hw.symm
      clear hw
      cases gk with
      | zero=>
       obtain rfl:i=q+1:=by omega
       have hiz:¬(((q+1:Nat):Int)<((q+1:Nat):Int)):=by omega
       have hno:tx ∉ p++[x]:=fun h=>by
        have h3:=hpre.out
        rw[List.take_of_length_le (by rw[Hln.out,Hq.out];exact Nat.le_refl _)] at h3
        exact h3 tx h rfl
       by_cases h16:16<q+1
       ·have z16:(16:Int)<(q:Int)+1:=by omega
        have HR:=hide (Hlg.out h16)
        clear Hin Hlg Hon Hro4 HH hpre hno hstr hnt Hln
        go_wp2
        go_ret3
        exact hide (by rw[HR.out];exact⟨rfl,HB4.out⟩)
       ·have z16:¬(16:Int)<(q:Int)+1:=by omega
        have Hnx:=hide (Hon.out hno h16)
        have hor5:=Hro4.out.alloc (.cells #[.string TO] 9)
        have hl3:=litS w4 TO
        have hH:=Has.own hl3
        have hbc:=below1 w4 (.cells #[.string TO] 9)
        have HB5:=hide (HB4.out.trans (hbc.mono HB4.out.size))
        have hs5:w.heap.size≤(w4.alloc (.cells #[.string TO] 9)).heap.size:=HB5.out.size
        have h1c:∀u∈[Value.string TO],u.oneCell'=true:=by simp[Value.oneCell']
        clear hl3 hbc Hro4 Hin Hlg Hon HH hpre hno
        go_wp2_with (at_builtin;go_must (refine appE _ 50 9 _ 1 16 Tryz.underlying50 infoS rfl (by omega) (by omega) rfl (.tmp 54) (.tmp 56) rfl w.heap.size _ (q+1) (strs (p++[x])) rfl hor5 _ _ 1 1 [.string TO] rfl hH h1c (by omega) hs5 ?_))
        intro v' w6 hor6 hb6 hgr6
        rw[hstr.out] at hor6
        have Hor6:Hid (w6.ownsRow w.heap.size 9 1 v' ((p++[x]).length+1) (strs ((p++[x])++[tx]))):=hide (by rw[Hln.out,Hq.out];exact hor6)
        have HB6:=hide (HB5.out.trans hb6)
        clear hor5 hs5 hH hb6 h1c hstr hor6 HB5 hgr6
        go_wp2
        go_roundg r
        case measure=>omega
        case rel=>exact⟨p++[x],tx,Hnx,hnt,by rw[Hln.out,Hq.out];omega,by omega,by rw[HTO.out],Hor6,HB6⟩
      | succ k2=>
       have hi:i<q+1:=by omega
       have hiz:(i:Int)<((q+1:Nat):Int):=by omega
       obtain⟨u,hu⟩:∃u,(p++[x])[i]?=some u:=⟨_,List.getElem?_eq_getElem (by rw[Hln.out,Hq.out];exact hi)⟩
       obtain⟨g5,o5,hA5,hg5,hat5⟩:=HH.out.texts (by simp)
       subst hA5
       have d0:=hat5 i u hu
       by_cases hut:u=tx
       ·have q1:((txt u).toList==TO.toList)=true:=by rw[hut,HTO.out];simp
        have HR:=hide (Hin.out (hut ▸ List.mem_of_getElem? hu))
        generalize txt u=TU at *
        clear Hin Hlg Hon Hro4 HH hpre hstr hnt hut hu hat5
        go_wp2
        go_ret3
        exact hide (by rw[HR.out];exact⟨rfl,HB4.out⟩)
       ·have q1:((txt u).toList==TO.toList)=false:=by rw[←HTO.out];exact str_ne hut
        have Hnext:Hid (∀y∈(p++[x]).take (i+1),y≠tx):=hide (by
         rw[List.take_add_one,hu]
         intro y hy
         rcases List.mem_append.1 hy with h | h
         ·exact hpre.out y h
         ·obtain rfl:y=u:=by simpa using h
          exact hut)
        generalize txt u=TU at *
        clear hpre hut hu hat5
        go_wp2
        go_roundg k2
        case measure=>omega
        case rel=>exact⟨i+1,by omega,by go_num,Hnext,rfl⟩
   ·have HR:Hid (resV L G=([],false,code)):=hide (by rw[←hgo2,go_err (by rw[hst];exact h1),hst];unfold resV;rw[if_neg h1])
    have zc:(code==0)=false:=beq_false_of_ne h1
    have zn:(code !=0)=true:=by unfold bne;rw[zc];rfl
    clear hgo2 hst Hsn hnx0 hln HAt
    generalize txt tx=TO at *
    go_wp2_with (go_at_call 23;fail)
    refine Hcall.out.mono ?_
    rintro e w4 ⟨rfl,hb4⟩
    have HE:=hide (hcr.out.grow hb4).base
    clear hb4 hcr hro Hcall hH5
    go_wp2
    go_ret3
    exact hide (by rw[HR.out];exact⟨rfl,HE.out⟩)
theorem rfind_any (L:List EN) (nm:List UInt8) (fo:Bool) (w:World) (A:Option Addr) (m c:Nat) (xs:List Value) (hA:Has w w.heap.size 2 A m xs) (hL:ENs w w.heap.size xs L) (hm:m≤1000000) (hwe:∀e∈L,WeeZ e) (hnm:nm.length≤1000000) (hT:TM w):
  Calls Tryz.prog 25 #[.slice A m c,.string (txt nm),.bool fo] w fun e w'=>e=.returned (.tuple #[.string (txt (findV L nm fo).1),.bool (findV L nm fo).2.1,.int .i64 (findV L nm fo).2.2])∧Below w.heap.size w w':=by
 have hC:VZ w w A m xs L:=⟨Below.refl _ _,hT,hA,hL⟩
 have hN:=rnormal_text nm hnm w hT
 by_cases h0:(normT nm).2=0
 ·have h:normT nm=((normT nm).1,0):=Prod.ext rfl h0
  generalize (normT nm).1=n at *
  rw[h] at hN
  have hnn:=norm_self h
  have hAt:∀x:List UInt8,normT x=(x,0)→∀w,Has w w.heap.size 2 A m xs→ENs w w.heap.size xs L→TM w→Calls Tryz.prog 26 #[.slice A m c,.string (txt x)] w fun e w'=>e=.returned (.int .i64 (atN L x))∧Below w.heap.size w w':=fun x hx w hA hL hT=>
   rat_any L x w A m c xs hA hL (by omega) (by have:=norm_len1 hx;omega) hT
  have hSt:∀x:List UInt8,normT x=(x,0)→∀w,Has w w.heap.size 2 A m xs→ENs w w.heap.size xs L→TM w→Calls Tryz.prog 23 #[.slice A m c,.string (txt x)] w fun e w'=>e=.returned (.tuple #[.string (txt (stepV L x).1),.bool (stepV L x).2.1,.int .i64 (stepV L x).2.2])∧Below w.heap.size w w':=fun x hx w hA hL hT=>
   rstep_any L x w A m c xs hA hL hm hwe (by have:=norm_len1 hx;omega) hT
  cases fo with
  | true=>
   have e:findV L nm true=resV L (goV L 17 [n] n):=by rw[find_norm h];unfold wayV;rw[if_pos rfl];rfl
   rw[e]
   exact (rfind_go L w A m c xs _ _ n hnn (hide rfl) (hide hC) (hide hN) (hide hAt) (hide hSt)).mono fun e w' h=>h.out.out
  | false=>
   have hwy:wayV L n false=([n],n,0):=by unfold wayV;rw[if_neg (by simp)]
   have e:findV L nm false=resV L ([n],n,0):=by rw[find_norm h,hwy];rfl
   rw[e]
   exact (rfind_still L w A m c xs _ _ n hnn (hide rfl) (hide hC) (hide hN) (hide hAt)).mono fun e w' h=>h.out.out
 ·rw [find_bad h0]
  have hy:=beq_false_of_ne h0
  obtain⟨X,hX⟩:∃X,txt (normT nm).1=X:=⟨_,rfl⟩
  rw[hX] at hN
  generalize (normT nm).2=y at *
  exact (rfind_bad L w A m c xs _ _ y fo (hide hC) (hide hN) hy (by unfold bne;rw[hy];rfl)).mono fun e w' h=>h.out
end Go.Proofs.YtiobnllopliclaaGreatDoor
