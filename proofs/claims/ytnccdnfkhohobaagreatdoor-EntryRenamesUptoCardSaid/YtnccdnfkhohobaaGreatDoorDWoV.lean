/- What deleting a value leaves, pure. By an AI agent. -/
import Derived.Test.YtnccdnfkhohobaaGreatDoorDV
import Derived.Test.YtnccdnfkhohobaaGreatDoorDR0
set_option linter.unusedSimpArgs false
set_option linter.unusedVariables false
namespace Go.Proofs.YtnccdnfkhohobaaGreatDoor
open Go Go.RowKit
theorem zLo (t v:List UInt8):∀(l:List (List UInt8)) (g:Bool),(woV t v l g).1.length<=l.length/\∀u∈(woV t v l g).1,u∈l
 | [],g=>by unfold woV;simp
 | x::r,g=>by
  unfold woV;split
  ·obtain ⟨h1,h2⟩:=zLo t v r true;exact⟨by simp only[List.length_cons];omega,fun u hu=>List.mem_cons_of_mem _ (h2 u hu)⟩
  ·obtain ⟨h1,h2⟩:=zLo t v r g;refine⟨by simp only[List.length_cons];omega,fun u hu=>?_⟩;rcases List.mem_cons.1 hu with rfl | hu
   ·simp
   ·exact List.mem_cons_of_mem _ (h2 u hu)
theorem zP9 {t v:List UInt8}:∀(l:List (List UInt8)),woV t v l true=(l,true)
 | []=>by unfold woV;rfl
 | x::r=>by
  unfold woV;rw[if_neg (by simp),zP9 r]
theorem zPq {t v:List UInt8} (hv:(valV t v).2=0):∀{l:List (List UInt8)},(∀x∈l,(valV t x).2=0)->(l.Pairwise fun a b=>(valV t a).1≠(valV t b).1)->
  (woV t v l false).1=dropV t l (valV t v).1/\((woV t v l false).2=true↔∃x∈l,(valV t x).1=(valV t v).1)
 | [],_,_=>by unfold woV dropV;simp
 | x::r,hok,hp=>by
  obtain⟨h1,h2⟩:=List.pairwise_cons.1 hp;have hx:=hok x (by simp);unfold woV;by_cases e:(valV t x).1=(valV t v).1
  ·rw [if_pos ⟨rfl,hv,hx,e⟩,zP9];refine⟨?_,by simp[e]⟩;unfold dropV;rw[List.filter_cons_of_neg (by simpa using e),List.filter_eq_self.2 fun y hy=>by
    simp only[decide_eq_true_eq]
    intro q
    exact h1 y hy (e.trans q.symm)]
  ·rw [if_neg (fun q=>e q.2.2.2)];obtain⟨i1,i2⟩:=zPq hv (fun y hy=>hok y (by simp[hy])) h2;refine⟨?_,?_⟩
   ·simp only;rw[i1];unfold dropV;rw[List.filter_cons_of_pos (by simpa using e)]
   ·simp only;rw[i2];constructor
    ·rintro ⟨y,hy,q⟩;exact⟨y,by simp[hy],q⟩
    ·rintro ⟨y,hy,q⟩;rcases List.mem_cons.1 hy with rfl | hy
     ·exact absurd q e
     ·exact ⟨y,hy,q⟩
end Go.Proofs.YtnccdnfkhohobaaGreatDoor
