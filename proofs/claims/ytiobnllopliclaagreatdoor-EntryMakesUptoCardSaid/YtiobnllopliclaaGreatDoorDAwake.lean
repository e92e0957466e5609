/- What layer 9's statements ask of first: the entry CN=a,dc=x. By an AI agent. -/
import Derived.Test.YtiobnllopliclaaGreatDoorEAwake
import Derived.Test.YtiobnllopliclaaGreatDoorDY
namespace Go.Proofs.YtiobnllopliclaaGreatDoor
open Go.RowKit
set_option linter.unusedVariables false
set_option linter.unusedSimpArgs false
def cnT:List UInt8:=[99,110]
def awN:List UInt8:=[67,78,61,97,44,100,99,61,120]
def awM:List UInt8:=[99,110,61,97,44,100,99,61,120]
def oclT:List UInt8:=[111,98,106,101,99,116,99,108,97,115,115]
def persT:List UInt8:=[112,101,114,115,111,110]
def awA:List EA:=[(cnT,[[65]]),(oclT,[persT])]
def awB:List EA:=[(cnT,[[65]]),(clsT,[persT])]
theorem val_cnA:valV cnT [65]=([97],0):=by
 unfold valV
 rw[if_pos (by decide),norm_word _ _ (by decide) (by decide) (by decide) (by decide)]
 decide
theorem val_cna:valV cnT [97]=([97],0):=by
 unfold valV
 rw[if_pos (by decide),norm_word _ _ (by decide) (by decide) (by decide) (by decide)]
 decide
theorem val_pers:valV clsT persT=(persT,0):=by
 unfold valV
 rw[if_pos (by decide),norm_word _ _ (by decide) (by decide) (by decide) (by decide)]
 decide
theorem pair_ok {n v:List UInt8} (h1:(typ n).1=n) (h2:(typ n).2=1) (hv:1≤v.length∧v.length≤200) (h0:(0:UInt8) ∉ v) (hn:nt v≠[]):PairOk (n,v):=
 ⟨h1,.inl h2,by rw[norm_word _ _ h2 hv h0 hn]⟩
theorem name_awN:nameV awN=(some [[(cnT,[97])],[([100,99],[120])]],0):=by
 have hc:cuts 44 awN=[[67,78,61,97],[100,99,61,120]]:=by decide
 have p1:parseP [67,78,61,97]=some [(cnT,[97])]:=by
  have h1:(cuts 43 [67,78,61,97]).length≤3:=by decide
  have h2:(cuts 43 [67,78,61,97]).mapM rdPairT=some [(cnT,[97])]:=by decide
  have h3:sortP [(cnT,[97])]=[(cnT,[97])]:=by decide
  rw[parse_some h1 h2,h3,if_pos]
  refine⟨by decide,by decide,fun a ha=>?_,by decide⟩
  obtain rfl:=List.mem_singleton.1 ha
  exact pair_ok (by decide) (by decide) (by decide) (by decide) (by decide)
 have p2:parseP [100,99,61,120]=some [([100,99],[120])]:=by
  have h1:(cuts 43 [100,99,61,120]).length≤3:=by decide
  have h2:(cuts 43 [100,99,61,120]).mapM rdPairT=some [([100,99],[120])]:=by decide
  have h3:sortP [([100,99],[120])]=[([100,99],[120])]:=by decide
  rw[parse_some h1 h2,h3,if_pos]
  refine⟨by decide,by decide,fun a ha=>?_,by decide⟩
  obtain rfl:=List.mem_singleton.1 ha
  exact pair_ok (by decide) (by decide) (by decide) (by decide) (by decide)
 unfold nameV
 rw[if_neg (by decide),if_neg (by decide),hc,if_neg (by decide),mapM_cons',p1]
 simp only[Option.bind_eq_bind,Option.bind_some]
 rw[mapM_cons',p2]
 rfl
theorem parts_awN:partsV awN=(some [[99,110,61,97],[100,99,61,120]],0):=by
 have t1:ptx [(cnT,[97])]=[99,110,61,97]:=by
  unfold ptx normP
  simp only[List.map_cons,List.map_nil]
  rw[norm_word _ _ (by decide) (by decide) (by decide) (by decide)]
  decide
 have t2:ptx [([100,99],[120])]=[100,99,61,120]:=by
  unfold ptx normP
  simp only[List.map_cons,List.map_nil]
  rw[norm_word _ _ (by decide) (by decide) (by decide) (by decide)]
  decide
 unfold partsV
 rw[name_awN]
 simp only[List.map_cons,List.map_nil,t1,t2]
 rw[if_neg (by decide)]
theorem norm_awN:normT awN=(awM,0):=by rw[norm_yes' parts_awN];decide
theorem norm_awM:normT awM=(awM,0):=by
 have:=(norm_again (l:=awN) (by rw[norm_awN])).1
 rw[norm_awN] at this
 exact this
theorem gather_aw:gatherE [] awA=(awB,0):=by
 have t1:typ cnT=(cnT,1):=by decide
 have t2:typ oclT=(clsT,1):=by decide
 have g1:gatherV cnT [] [[65]]=([[65]],0):=by
  unfold gatherV
  rw[val_cnA,if_neg (by simp),if_neg (by rintro ⟨x,hx,_⟩;cases hx)]
  rfl
 have g2:gatherV clsT [] [persT]=([persT],0):=by
  unfold gatherV
  rw[val_pers,if_neg (by simp),if_neg (by rintro ⟨x,hx,_⟩;cases hx)]
  rfl
 unfold awA gatherE
 rw[t1,if_neg (by decide),if_neg (by simp)]
 simp only
 rw[show pickE [] cnT=[] from rfl,g1]
 simp only
 rw[if_neg (by simp)]
 unfold gatherE
 simp only
 rw[t2,if_neg (by decide),if_neg (by simp)]
 simp only
 rw[show pickE (setE [] cnT [[65]]) clsT=[] by decide,g2]
 simp only
 rw[if_neg (by simp)]
 unfold gatherE
 rw[show setE (setE [] cnT [[65]]) clsT [persT]=awB by decide]
theorem end_aw:endE awM awB 64=0:=by
 unfold endE
 rw[if_neg,if_neg,if_pos]
 ·rw [pairs_named norm_awM (by decide)]
  have hn:nameV awM=nameV awN∨True:=.inr trivial
  have hp:pairsE awM=[(cnT,[97])]:=by
   have hc:cuts 44 awM=[[99,110,61,97],[100,99,61,120]]:=by decide
   have p1:parseP [99,110,61,97]=some [(cnT,[97])]:=by
    have h1:(cuts 43 [99,110,61,97]).length≤3:=by decide
    have h2:(cuts 43 [99,110,61,97]).mapM rdPairT=some [(cnT,[97])]:=by decide
    have h3:sortP [(cnT,[97])]=[(cnT,[97])]:=by decide
    rw[parse_some h1 h2,h3,if_pos]
    refine⟨by decide,by decide,fun a ha=>?_,by decide⟩
    obtain rfl:=List.mem_singleton.1 ha
    exact pair_ok (by decide) (by decide) (by decide) (by decide) (by decide)
   have p2:parseP [100,99,61,120]=some [([100,99],[120])]:=by
    have h1:(cuts 43 [100,99,61,120]).length≤3:=by decide
    have h2:(cuts 43 [100,99,61,120]).mapM rdPairT=some [([100,99],[120])]:=by decide
    have h3:sortP [([100,99],[120])]=[([100,99],[120])]:=by decide
    rw[parse_some h1 h2,h3,if_pos]
    refine⟨by decide,by decide,fun a ha=>?_,by decide⟩
    obtain rfl:=List.mem_singleton.1 ha
    exact pair_ok (by decide) (by decide) (by decide) (by decide) (by decide)
   unfold pairsE nameV
   rw[if_neg (by decide),if_neg (by decide),hc,if_neg (by decide),mapM_cons',p1]
   simp only[Option.bind_eq_bind,Option.bind_some]
   rw[mapM_cons',p2]
   rfl
  rw[hp]
  intro p hp'
  obtain rfl:=List.mem_singleton.1 hp'
  unfold HasE valuesE
  rw[show typ cnT=(cnT,1) by decide,if_neg (by decide)]
  refine⟨[65],by decide,?_,?_,?_⟩
  ·rw [val_cna]
  ·rw [val_cnA]
  ·rw [val_cna,val_cnA]
 ·decide
 ·rintro ⟨a,ha,h⟩
  rcases List.mem_cons.1 ha with rfl | ha
  ·revert h;decide
  ·obtain rfl:=List.mem_singleton.1 ha
   revert h;decide
theorem make_aw:makeE awN awA=(awM,awB,0):=by
 unfold makeE
 rw[norm_awN,if_neg (by decide),gather_aw]
 simp only
 rw[if_neg (by simp),end_aw,if_neg (by simp)]
end Go.Proofs.YtiobnllopliclaaGreatDoor
