/- A formed entry: dc=x. By an AI agent. -/
import Derived.Test.YtadlmhclpaifoaaGreatDoorEX
set_option linter.unusedSimpArgs false
set_option linter.unusedVariables false
namespace Go.Proofs.YtadlmhclpaifoaaGreatDoor
open Go.RowKit
theorem name_dcx:nameV [100,99,61,120]=(some [[([100,99],[120])]],0):=by
 have hc:cuts 44 [100,99,61,120]=[[100,99,61,120]]:=by decide
 have p2:parseP [100,99,61,120]=some [([100,99],[120])]:=by
  have h1:(cuts 43 [100,99,61,120]).length<=3:=by decide
  have h2:(cuts 43 [100,99,61,120]).mapM rdPairT=some [([100,99],[120])]:=by decide
  have h3:sortP [([100,99],[120])]=[([100,99],[120])]:=by decide
  rw[zBh h1 h2,h3,if_pos];refine⟨by decide,by decide,fun a ha=>?_,by decide⟩;obtain rfl:=List.mem_singleton.1 ha;exact⟨by decide,Or.inl (by decide),by rw[zCu _ _ (by decide) (by decide) (by decide) (by decide)]⟩
 unfold nameV;rw[if_neg (by decide),if_neg (by decide),hc,if_neg (by decide),mapM_cons',p2];rfl
theorem parts_dcx:partsV [100,99,61,120]=(some [[100,99,61,120]],0):=by
 have t2:ptx [([100,99],[120])]=[100,99,61,120]:=by unfold ptx normP;simp only[List.map_cons,List.map_nil];rw[zCu _ _ (by decide) (by decide) (by decide) (by decide)];decide
 unfold partsV;rw[name_dcx];simp only[List.map_cons,List.map_nil,t2];rw[if_neg (by decide)]
def awE:List EA:=[([100,99],[[120]]),(clsT,[[111]])]
theorem val_dcx:valV [100,99] [120]=([120],0):=by
 unfold valV;rw[if_pos (by decide),zCu _ _ (by decide) (by decide) (by decide) (by decide)];decide
theorem val_clso:valV clsT [111]=([111],0):=by
 unfold valV;rw[if_pos (by decide),zCu _ _ (by decide) (by decide) (by decide) (by decide)];decide
theorem alone_one (n v:List UInt8):AloneV n [v]:=by
 intro i u hu;obtain⟨hi,_⟩:=List.getElem?_eq_some_iff.1 hu;obtain rfl:i=0:=by simpa using hi
 rintro ⟨x,hx,_⟩;cases hx
theorem formed_awE:FormedE [100,99,61,120] awE:=by
 have hdc:(typ [100,99]).1=[100,99]/\(typ [100,99]).2≠0:=by decide
 have hcl:(typ clsT).1=clsT/\(typ clsT).2≠0:=by decide
 refine⟨⟨?_,by decide,⟨by decide,fun i a b ha hb=>?_,fun a ha=>?_⟩⟩,?_,⟨_,_,name_dcx,fun q hq=>?_⟩⟩
 ·rw [norm_yes' parts_dcx];rfl
 ·match i,ha,hb with
  | 0,ha,hb=>
   obtain rfl:=Option.some.inj ha;obtain rfl:=Option.some.inj hb;decide
  | 1,_,hb=>cases hb
  | n+2,ha,_=>cases ha
 ·rcases List.mem_cons.1 ha with rfl | ha
  ·refine ⟨by decide,hdc.1,by decide,by decide,fun v hv=>?_,alone_one _ _⟩;obtain rfl:=List.mem_singleton.1 hv;exact congrArg Prod.snd val_dcx
  ·obtain rfl:=List.mem_singleton.1 ha;refine⟨by decide,hcl.1,by decide,by decide,fun v hv=>?_,alone_one _ _⟩;obtain rfl:=List.mem_singleton.1 hv;exact congrArg Prod.snd val_clso
 ·unfold valuesE;rw[if_neg hcl.2,hcl.1];unfold awE pickE;rw[if_neg (by decide)];unfold pickE;rw[if_pos rfl];decide
 ·obtain rfl:=List.mem_singleton.1 hq;refine⟨[120],?_,?_⟩
  ·unfold valuesE;rw[if_neg hdc.2,hdc.1];unfold awE pickE;rw[if_pos rfl];simp
  ·exact ⟨congrArg Prod.snd val_dcx,congrArg Prod.snd val_dcx,rfl⟩
end Go.Proofs.YtadlmhclpaifoaaGreatDoor
