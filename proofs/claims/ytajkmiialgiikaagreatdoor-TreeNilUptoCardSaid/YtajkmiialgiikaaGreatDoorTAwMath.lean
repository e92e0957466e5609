/- What layer 10's statements ask of first: the entry dc=x, added to a tree. By an AI agent. -/
import Derived.Test.YtajkmiialgiikaaGreatDoorDY
set_option linter.unusedSimpArgs false
set_option linter.unusedVariables false
namespace Go.Proofs.YtajkmiialgiikaaGreatDoor
open Go.RowKit
def dcxT:List UInt8:=[100,99,61,120]
def awT:List EA:=[(clsT,[[111]]),([100,99],[[120]])]
theorem zIk:normT dcxT=(dcxT,0):=by unfold dcxT;rw[norm_yes' zO0];rfl
theorem zMr:gatherE [] awT=(awE,0):=by
 have t1:typ [100,99]=([100,99],1):=by decide
 have t2:typ clsT=(clsT,1):=by decide
 have g1:gatherV [100,99] [] [[120]]=([[120]],0):=by unfold gatherV;rw[zHg,if_neg (by simp),if_neg (by rintro ⟨x,hx,_⟩;cases hx)];rfl
 have g2:gatherV clsT [] [[111]]=([[111]],0):=by unfold gatherV;rw[val_clso,if_neg (by simp),if_neg (by rintro ⟨x,hx,_⟩;cases hx)];rfl
 unfold awT gatherE;rw[t2,if_neg (by decide),if_neg (by simp)];simp only;rw[show pickE [] clsT=[] from rfl,g2];simp only;rw[if_neg (by simp)];unfold gatherE;simp only;rw[t1,if_neg (by decide),if_neg (by simp)];simp only;rw[show pickE (setE [] clsT [[111]]) [100,99]=[] by decide,g1];simp only;rw[if_neg (by simp)];unfold gatherE;rw[show setE (setE [] clsT [[111]]) [100,99] [[120]]=awE by decide]
theorem end_awT:endE dcxT awE 64=0:=by
 unfold endE;rw[if_neg,if_neg,if_pos]
 ·rw [zEy zIk (by decide)];have hp:pairsE dcxT=[([100,99],[120])]:=by
   unfold pairsE dcxT;rw[zLf]
  rw[hp];intro p hp';obtain rfl:=List.mem_singleton.1 hp';unfold HasE valuesE;rw[show typ [100,99]=([100,99],1) by decide,if_neg (by decide)];refine⟨[120],by decide,?_,?_,?_⟩
  ·rw [zHg]
  ·rw [zHg]
  ·rw [zHg]
 ·decide
 ·rintro ⟨a,ha,h⟩;rcases List.mem_cons.1 ha with rfl | ha
  ·revert h;decide
  ·obtain rfl:=List.mem_singleton.1 ha;revert h;decide
theorem make_awT:makeE dcxT awT=(dcxT,awE,0):=by
 unfold makeE;rw[zIk,if_neg (by decide),zMr];simp only;rw[if_neg (by simp),end_awT,if_neg (by simp)]
end Go.Proofs.YtajkmiialgiikaaGreatDoor
