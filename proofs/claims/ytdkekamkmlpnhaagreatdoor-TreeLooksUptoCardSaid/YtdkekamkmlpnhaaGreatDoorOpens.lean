/- How the arguments of this seat's laws are opened: a slice of bytes as the list that it reads as; and what the bound of the second form gives. -/
import Derived.Test.YtdkekamkmlpnhaaGreatDoorRows
import Derived.ProofKit
import Derived.OpenShut
import Derived.ShutString
import Derived.ChangeOld
import Derived.Below
import Derived.SizedLaws
import Derived.JoinedCond
import Derived.Deep.CondSized
import Derived.Test.YtdkekamkmlpnhaaGreatDoorWords
set_option linter.unusedSimpArgs false
set_option linter.unusedVariables false
namespace Go.Proofs.YtdkekamkmlpnhaaGreatDoor.Opens
open Go.ChangeShapes Go.WideShapes Go.ChangeAt Go.RowKit
theorem own:ownKnob Tryz.prog.godebug=none:=by kernel_rfl
theorem laidOut:laidOutB Tryz.prog=true:=by kernel_rfl
theorem one_le {H:Type} (d:DataW H):1<=Rows.uptoBulk d:=by
 cases d with
 | lit l=>cases l<;>simp[Rows.uptoBulk]
 | _=>simp[Rows.uptoBulk]
theorem part_le {H:Type} {d:DataW H} {l:List (DataW H)} (h:d∈l):Rows.uptoBulk d<=Rows.uptoBulkAll l:=by
 induction l with
 | nil=>cases h
 | cons x r ih=>
  simp only[Rows.uptoBulkAll];rcases List.mem_cons.1 h with rfl | e
  ·omega
  ·have:=ih e;omega
theorem many_le {H:Type} (l:List (DataW H)):l.length<=Rows.uptoBulkAll l:=by
 induction l with
 | nil=>simp[Rows.uptoBulkAll]
 | cons x r ih=>have:=one_le x;simp only[Rows.uptoBulkAll,List.length_cons];omega
theorem small {H:Type} {l:List (DataW H)} (hk:Rows.uptoSmall H l=true):Rows.uptoBulkAll l<=1048576:=of_decide_eq_true hk
def Long {H:Type} (d:DataW H) (n:Nat):Prop:=(d=.nil/\n=0)\/∃el sp,d=.slice el sp/\el.length=n
theorem Long.bulk {H:Type} {d:DataW H} {n:Nat} (h:Long d n):n+1<=Rows.uptoBulk d:=by
 rcases h with⟨rfl,rfl⟩ | ⟨el,sp,rfl,rfl⟩
 ·simp [Rows.uptoBulk]
 ·have:=many_le el;simp only[Rows.uptoBulk];omega
theorem Long.sized {H:Type} {P:Program} {ts:List TypeId} {ds:List (DataW H)} (h:(DataW.weightsEach P ts ds).all (·<=reachBytes)=true) {j:Nat} {t e:TypeId} {d:DataW H} {n:Nat} (hl:Long d n)
  (ht:ts[j]?=some t) (hd:ds[j]?=some d) (hu:P.underlying t=some (.slice e)):n*P.bytesOf e<=140737488351232:=by
 rcases hl with⟨rfl,rfl⟩ | ⟨el,sp,rfl,rfl⟩
 ·simp
 ·have h2:=sized_slice h ht hd hu;have h3:el.length*P.bytesOf e<=(el.length+sp.length)*P.bytesOf e:=Nat.mul_le_mul_right _ (by omega);simp only[reachBytes] at h2;omega
theorem byte_of {x:Int} (h:(Lit.int .u8 x).wf=true):∃b:UInt8,x=(b.toNat:Int):=by
 have hx:0<=x/\x<=255:=by simpa[Lit.wf,IntKind.min,IntKind.max,IntKind.signed,IntKind.bits] using h
 refine⟨UInt8.ofNat x.toNat,?_⟩;rw[UInt8.toNat_ofNat',Nat.mod_eq_of_lt (by omega)];omega
theorem open_bytes {H:Type} {enc:TypeId × Value->H} {P:Program} {W:World} {r:Reach} {base base':Nat} {sp:Nat->Bool} {held:Bool} {t e:TypeId} {v:Value} {d:DataW H} {p:List MemPlace}
  (ht:P.underlying t=some (.slice e)) (he:P.underlying e=some (.int .u8)) (hc:P.cellsOf e=1) (hv:Value.okWide P W r base' t v) (h:DataW.Trod enc P W base sp held t v d p):
  ∃A n c l,v=.slice A n c/\n<=c/\c<=maxLen/\l.length=n/\Has W W.heap.size 1 A n (bys l)/\Long d n:=by
 obtain⟨A,n,c,rfl⟩:=okWide_slice ht hv;obtain⟨fuel,hf⟩:=h;rcases open_ints ht he hc hf with⟨hcs,hx⟩ | ⟨a,l,cc,zs,hcs,_,hl,hm,hz,hx,hcell,hwz⟩
 ·simp [Value.cells] at hcs;obtain⟨rfl,rfl,rfl⟩:=hcs;simp only[Prod.mk.injEq] at hx;exact⟨none,0,0,[],rfl,Nat.le_refl _,Nat.zero_le _,rfl,Has.nil,.inl ⟨hx.1,rfl⟩⟩
 ·simp [Value.cells] at hcs;obtain⟨rfl,rfl,rfl⟩:=hcs;simp only[Prod.mk.injEq] at hx;have hnz:n<=zs.length:=by
   rw[hz];split<;>omega
  have hwf:∀i,i<zs.length->0<=zs.getD i 0/\zs.getD i 0<=255:=fun i hi=>by
   have:=hwz (zs.getD i 0) (by simp[List.getD,List.getElem?_eq_getElem hi]);simpa[Lit.wf,IntKind.min,IntKind.max,IntKind.signed,IntKind.bits] using this
  have hlen:((zs.take n).map fun z=>UInt8.ofNat z.toNat).length=n:=by simp;omega
  refine⟨some a,n,c,(zs.take n).map fun z=>UInt8.ofNat z.toNat,rfl,hl,hm,hlen,⟨by rw[zEq,hlen,Nat.mul_one],?_⟩,.inr ⟨_,_,hx.1,?_⟩⟩
  ·rcases Nat.eq_zero_or_pos n with h0 | h0
   ·left;subst h0;simp[bys]
   ·right;refine⟨a,rfl,?_,fun j u hu=>?_⟩
    ·have:=World.block_lt_of_cell? W _ (hcell 0 (by omega))
     rwa [zA6] at this
    ·have hj:j<n:=by
      have:=(List.getElem?_eq_some_iff.1 hu).1
      rwa [zEq,hlen] at this
     rw[hcell j (by omega)];have hw:=hwf j (by omega);have e1:(bys ((zs.take n).map fun z=>UInt8.ofNat z.toNat))[j]?=some (c8 (UInt8.ofNat (zs.getD j 0).toNat)):=by
      simp only[bys,List.map_map,List.getElem?_map,List.getElem?_take,if_pos hj,List.getElem?_eq_getElem (show j<zs.length by omega),Option.map_some,Function.comp_apply];simp[List.getD,List.getElem?_eq_getElem (show j<zs.length by omega)]
     rw[e1] at hu;injection hu with hu
     rw[<-hu,c8_lit _ (by omega),Int.toNat_of_nonneg hw.1]
  ·simp [lits];omega
end Go.Proofs.YtdkekamkmlpnhaaGreatDoor.Opens
