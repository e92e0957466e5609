/- The program's draft: what putting comes to, told of the attributes. By an AI agent. -/
import Derived.Test.YtiobnllopliclaaGreatDoorDPut
import Derived.Test.YtiobnllopliclaaGreatDoorDY
namespace Go.Proofs.YtiobnllopliclaaGreatDoor
open Go.RowKit Go.Maps
set_option linter.unusedVariables false
set_option linter.unusedSimpArgs false
theorem findT_len {T:List Ty} {u:List UInt8} {y:Ty} (h:findT T u=some y):heldT T u=y.2.2:=by unfold heldT;rw[h]
theorem with_len (T:List Ty) (u:List UInt8) (nb:Nat):(withT T u nb).length≤T.length+1:=by
 unfold withT
 cases findT T u<;>simp
theorem put_len (T:List Ty) (u:List UInt8) (nb:Nat) (h:Hd):(putT T u nb h).length≤T.length+1:=by
 unfold putT turnT
 rw[List.length_map]
 exact with_len T u nb
theorem put_each {T:List Ty} {u:List UInt8} {nb k:Nat} {h:Hd} (hu:u.length≤1000000) (hT:∀t∈T,t.2.2.length≤k∧t.1.length≤1000000):∀t∈putT T u nb h,t.2.2.length≤k+1∧t.1.length≤1000000:=by
 intro t ht
 unfold putT turnT at ht
 obtain⟨x,hx,rfl⟩:=List.mem_map.1 ht
 have hx2:x.2.2.length≤k∧x.1.length≤1000000:=by
  unfold withT at hx
  cases hf:findT T u with
  | some y=>rw[hf] at hx;exact hT x hx
  | none=>
   rw[hf] at hx
   rcases List.mem_append.1 hx with hx | hx
   ·exact hT x hx
   ·simp only[List.mem_singleton] at hx
    subst hx
    exact⟨by simp,hu⟩
 split
 ·simp only[List.length_append,List.length_cons,List.length_nil]
  omega
 ·omega
structure PutPost (w:World) (B d nx:Nat) (L:List EA) (u v:List UInt8) (e:Ending) (w':World):Prop where
 no:WithinV u (pickE L u) v→e=.returned (.bool false)∧Draft w' B d nx L
 yes:¬WithinV u (pickE L u) v→e=.returned (.bool true)∧Draft w' B d (nx+1) (setE L u (pickE L u++[v]))
 below:Below B w w'
theorem dput_any {B d nx:Nat} {L:List EA} (w:World) (h:Draft w B d nx L) (u n v:List UInt8) (hv:valV u v=(n,0)) (hu:u.length≤1000000) (hn:n.length≤1000000) (hnx:nx≤1000000000):
  Calls Tryz.prog 65 #[.pointer (some ⟨d,0,none⟩),.string (txt u),.agg #[.string (txt v),.string (txt n)]] w (PutPost w B d nx L u v):=by
 obtain⟨bt,T,hM,hP,hl,he⟩:=h.out
 have hB:B≤w.heap.size:=Nat.le_trans hM.newd (Nat.le_of_lt hM.ltd)
 by_cases hin:WithinV u (pickE L u) v
 ·refine (dput_no w hM u n v hu hn ((hP.has hv).2 hin)).mono ?_
  rintro e w' ⟨rfl,hb⟩
  exact⟨fun _=>⟨rfl,h.grow hb⟩,fun q=>absurd hin q,hb.mono hB⟩
 ·have hnone:findH (heldT T u) n=none:=by
   cases hf:findH (heldT T u) n with
   | none=>rfl
   | some x=>exact absurd ((hP.has hv).1 (by rw[hf];rfl)) hin
  have fin:∀e w',(e=.returned (.bool true)∧PutOk w B d bt nx T u n v w')→PutPost w B d nx L u v e w':=by
   rintro e w' ⟨rfl,⟨nb,h1,h2⟩⟩
   refine⟨fun q=>absurd q hin,fun _=>⟨rfl,⟨bt,_,h1,hP.put nb hv,?_,put_each hu he⟩⟩,h2⟩
   have:=put_len T u nb (n,v,nx)
   omega
  cases hf:findT T u with
  | none=>exact (dput_new w hM u n v hu hn hnx hf (by omega)).mono fin
  | some y=>
   rw[findT_len hf] at hnone
   have:=he y (findT_some hf).1
   exact (dput_at w hM u n v hu hn hnx hf hnone (by omega)).mono fin
end Go.Proofs.YtiobnllopliclaaGreatDoor
