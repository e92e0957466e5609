/- The program's Alias: whether an entry leads elsewhere, and where. By an AI agent. -/
import Derived.Test.YtiobnllopliclaaGreatDoorEY
import Derived.Test.YtiobnllopliclaaGreatDoorEX
import Derived.Deep.CutRange
import Derived.Deep.CutBlock
set_option maxRecDepth 100000
set_option maxHeartbeats 32000000
namespace Go.Proofs.YtiobnllopliclaaGreatDoor
open Go.RowKit
set_option linter.unusedVariables false
set_option linter.unusedSimpArgs false
theorem palias_any (nm:List UInt8) (L:List EA) (w:World) (A:Option Addr) (n c:Nat) (xs:List Value) (hA:Has w w.heap.size 2 A n xs) (hL:EAs w w.heap.size xs L) (hn:n≤1000000)
  (hvs:∀a∈L,a.2.length≤1000000∧∀u∈a.2,u.length≤1000000) (hT:TM w):
  Calls Tryz.prog 88 #[.agg #[.string (txt nm),.slice A n c]] w fun e w'=>e=.returned (.tuple #[.string (txt (aliasE L).1),.bool (aliasE L).2])∧Below w.heap.size w w':=by
 have hb1:=below1 w (.cells #[.string (txt nm),.slice A n c] 26)
 have hX:=BoxE.new w (txt nm) A n c 26
 obtain⟨w1,hw1⟩:∃w1,w.alloc (.cells #[.string (txt nm),.slice A n c] 26)=w1:=⟨_,rfl⟩
 rw[hw1] at hb1 hX
 have hVa:=fun w hA hL hT=>pvals_any nm L aliT w A n c xs hA hL hn hT
 have hHa:=fun w hA hL hT=>phas_any nm L clsT aliC w A n c xs hA hL hn (by decide) (by decide) hvs hT
 have hlen:∀u∈valuesE L aliT,u.length≤1000000:=by
  unfold valuesE
  split
  ·simp
  ·rcases pick_mem L (typ aliT).1 with h | ⟨a,ha,h⟩
   ·rw [h];simp
   ·rw [h];exact (hvs a ha).2
 have hva:txt aliT=(⟨#[97,108,105,97,115,101,100,79,98,106,101,99,116,78,97,109,101]⟩:ByteArray):=rfl
 have hc1:txt clsT=(⟨#[111,98,106,101,99,116,67,108,97,115,115]⟩:ByteArray):=rfl
 have hc2:txt aliC=(⟨#[97,108,105,97,115]⟩:ByteArray):=rfl
 have hVl:=fun v (hv:v∈valuesE L aliT) w hT=>pvalue_big aliT v (by decide) (hlen v hv) w hT
 rw[hva] at hVa hVl
 rw[hc1,hc2] at hHa
 have hdef:aliasE L=match valuesE L aliT with
  | v::_=>@ite _ (HasE L clsT aliC) (Classical.propDecidable _) ((valV aliT v).1,(valV aliT v).2==0) ([],false)
  | []=>([],false):=rfl
 rw[hdef]
 generalize valuesE L aliT=R at *
 obtain⟨b,hb⟩:∃b,Tr (HasE L clsT aliC)=b:=⟨_,rfl⟩
 rw[hb] at hHa
 have HA:=hide ((hA.below hb1).upto hb1.size)
 have HL:=hide (hL.grow hb1)
 have HT:=hide (hT.below hb1)
 have HX:=hide hX
 have HB:=hide hb1
 have HVa:=hide hVa
 have HHa:=hide hHa
 have HVl:=hide hVl
 have Hw1:=hide hw1
 clear hb1 hX hw1 hVa hHa hVl hlen hva hc1 hc2 hdef hA hL hT hvs
 generalize txt nm=SN at *
 have main:∀(S:ByteArray) (bb:Bool),(R=[]→S=⟨#[]⟩∧bb=false)→(b=false→S=⟨#[]⟩∧bb=false)→(∀v r,R=v::r→b=true→S=txt (valV aliT v).1∧bb=((valV aliT v).2==0))→
   Calls Tryz.prog 88 #[.agg #[.string SN,.slice A n c]] w fun e w'=>e=.returned (.tuple #[.string S,.bool bb])∧Below w.heap.size w w':=by
  intro S bb h1 h2 h3
  have H1:=hide h1
  have H2:=hide h2
  have H3:=hide h3
  clear h1 h2 h3 hb
  go_enter Tryz.func88,Tryz.ntmps88
  go_upto_region 1 with fail
  rw[Hw1.out]
  have x0:=HX.out.c0
  have x1:=HX.out.c1
  go_wp2_with (go_at_call 44;fail)
  refine (HVa.out _ HA.out HL.out HT.out).mono ?_
  rintro e w2 hpost
  obtain⟨A2,c2,rfl,hh2,_,_,hb2⟩:=hpost.out
  have HX2:=hide (HX.out.grow hb2)
  have HA2:=hide ((HA.out.below hb2).upto hb2.size)
  have HL2:=hide (HL.out.grow hb2)
  have HT2:=hide (HT.out.below hb2)
  have HB2:=hide (HB.out.trans (hb2.mono HB.out.size))
  have HR2:=hide hh2
  clear hpost hb2 HX HA HL HT HB HVa x0 x1 Hw1 hh2
  have x0:=HX2.out.c0
  have x1:=HX2.out.c1
  cases R with
  | nil=>
   obtain⟨rfl,rfl⟩:=H1.out rfl
   clear H1 H2 H3 HVl HR2 HA2 HL2 HT2 HHa HX2
   simp only[List.length_nil]
   go_wp2
   go_ret2
   exact⟨rfl,HB2.out⟩
  | cons v r=>
   have hk:(v::r).length=r.length+1:=rfl
   rw[hk]
   have HR2:Hid (Has w2 w2.heap.size 1 A2 (r.length+1) (strs (v::r))):=hide (by rw[←hk];exact HR2.out)
   obtain⟨k,hkk⟩:∃k,r.length=k:=⟨_,rfl⟩
   rw[hkk] at HR2
   rw[hkk]
   have hz:((((k+1:Nat):Int))==0)=false:=beq_false_of_ne (by omega)
   have hz2:¬(((k+1:Nat):Int))=0:=by omega
   clear hk hkk
   go_wp2_with (go_at_call 75;fail)
   refine (HHa.out _ HA2.out HL2.out HT2.out).mono ?_
   rintro e w3 ⟨rfl,hb3⟩
   have HT3:=hide (HT2.out.below hb3)
   have HB3:=hide (HB2.out.trans (hb3.mono HB2.out.size))
   have HR3:=hide ((HR2.out.below hb3).upto hb3.size)
   clear hb3 HX2 HA2 HL2 HT2 HB2 HHa x0 x1 HR2
   cases b with
   | false=>
    obtain⟨rfl,rfl⟩:=H2.out rfl
    clear H1 H2 H3 HR3 HVl
    go_wp2
    go_ret2
    exact⟨rfl,HB3.out⟩
   | true=>
    obtain⟨rfl,rfl⟩:=H3.out v r rfl rfl
    obtain⟨g,o,hAe,hg,hat⟩:=HR3.out.texts (by simp)
    subst hAe
    have d0:=hat 0 v rfl
    rw[Nat.add_zero] at d0
    have Hcall:=hide (HVl.out v (by simp))
    have hlt:(0:Int)<((k+1:Nat):Int):=by omega
    generalize txt v=SV at *
    obtain⟨y,hy⟩:∃y,(valV aliT v).2=y:=⟨_,rfl⟩
    obtain⟨NV,hNV⟩:∃NV,txt (valV aliT v).1=NV:=⟨_,rfl⟩
    rw[hy,hNV] at Hcall
    have Hy:=hide hy
    have HNV:=hide hNV
    clear H1 H2 H3 HR3 HVl hat hy hNV
    go_wp2_with (go_at_call 64;fail)
    refine (Hcall.out _ HT3.out).mono ?_
    rintro e w4 ⟨rfl,hb4⟩
    have HB4:=hide (HB3.out.trans (hb4.mono HB3.out.size))
    clear hb4 HB3 Hcall
    go_wp2
    go_ret2
    exact⟨by rw[HNV.out,Hy.out];rfl,HB4.out⟩
 cases R with
 | nil=>exact main _ _ (fun _=>⟨rfl,rfl⟩) (fun _=>⟨rfl,rfl⟩) (fun v r h=>by cases h)
 | cons v r=>
  by_cases hh:HasE L clsT aliC
  ·simp only[if_pos hh]
   exact main _ _ (fun h=>by cases h) (fun h=>by rw[Tr_yes hh] at hb;rw[←hb] at h;cases h) (fun v' r' h _=>by cases h;exact⟨rfl,rfl⟩)
  ·simp only[if_neg hh]
   exact main _ _ (fun h=>by cases h) (fun _=>⟨rfl,rfl⟩) (fun v' r' _ h=>by rw[Tr_no hh] at hb;rw[←hb] at h;cases h)
end Go.Proofs.YtiobnllopliclaaGreatDoor
