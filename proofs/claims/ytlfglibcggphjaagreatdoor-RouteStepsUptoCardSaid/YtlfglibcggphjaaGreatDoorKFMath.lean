/- Paths from server to server, step by step. By an AI agent. -/
import Derived.Test.YtlfglibcggphjaaGreatDoorKFHeld
set_option linter.unusedSimpArgs false
set_option linter.unusedVariables false
namespace Go.Proofs.YtlfglibcggphjaaGreatDoor
open Go Go.RowKit
def cntF:List Bool->Nat
 | []=>0
 | x::b=>(if x=true then 0 else 1)+cntF b
theorem zK7:∀n:Nat,cntF (List.replicate n false)=n
 | 0=>rfl
 | n+1=>by
  rw[List.replicate_succ];unfold cntF;rw[zK7 n];simp;omega
theorem zGd:∀(b:List Bool) (k:Nat),b[k]?=some false->cntF (b.set k true)+1=cntF b
 | [],k,h=>by simp at h
 | x::b,0,h=>by
  simp at h;subst h;rw[List.set_cons_zero];unfold cntF;simp;omega
 | x::b,k+1,h=>by
  simp at h;have:=zGd b k h;rw[List.set_cons_succ];unfold cntF;omega
def pathG (nx:Nat->Int × Option Nat):Nat->List Bool->Nat->List Nat × Int
 | 0,_,s=>([s],54)
 | k+1,b,s=>match (nx s).2 with
  | none=>([s],(nx s).1)
  | some t=>if (b.set s true).getD t false=true then ([s],(nx s).1) else (s::(pathG nx k (b.set s true) t).1,(pathG nx k (b.set s true) t).2)
section
variable {nx:Nat->Int × Option Nat}
theorem zAj {k:Nat} {b:List Bool} {s:Nat} {c:Int} (h:nx s=(c,none)):pathG nx (k+1) b s=([s],c):=by
 unfold pathG;rw[h]
theorem zAw {k:Nat} {b:List Bool} {s t:Nat} {c:Int} (h:nx s=(c,some t)) (ht:(b.set s true).getD t false=true):pathG nx (k+1) b s=([s],c):=by
 unfold pathG;rw[h];simp only;rw[if_pos ht]
theorem zA3 {k:Nat} {b:List Bool} {s t:Nat} {c:Int} (h:nx s=(c,some t)) (ht:(b.set s true).getD t false=false):pathG nx (k+1) b s=(s::(pathG nx k (b.set s true) t).1,(pathG nx k (b.set s true) t).2):=by
 rw[pathG,h];simp only;rw[if_neg (by rw[ht];decide)]
theorem zEr (k:Nat) (b:List Bool) (s:Nat):∃q,(pathG nx k b s).1=s::q:=by
 cases k with
 | zero=>exact⟨[],rfl⟩
 | succ k=>
  rcases hn:nx s with⟨c,_ | t⟩
  ·exact ⟨[],by rw[zAj hn]⟩
  ·by_cases ht:(b.set s true).getD t false=true
   ·exact ⟨[],by rw[zAw hn ht]⟩
   ·exact ⟨_,by rw[zA3 hn (by simpa using ht)]⟩
theorem zCu:∀(k:Nat) (b:List Bool) (s:Nat),(pathG nx k b s).1.length<=k+1
 | 0,b,s=>by unfold pathG;simp
 | k+1,b,s=>by
  rcases hn:nx s with⟨c,_ | t⟩
  ·rw [zAj hn];simp
  ·by_cases ht:(b.set s true).getD t false=true
   ·rw [zAw hn ht];simp
   ·rw [zA3 hn (by simpa using ht)];have:=zCu k (b.set s true) t;simp only[List.length_cons];omega
theorem zDs:∀(k:Nat) (b:List Bool) (s i x y:Nat),(pathG nx k b s).1[i]?=some x->(pathG nx k b s).1[i+1]?=some y->(nx x).2=some y
 | 0,b,s,i,x,y,h1,h2=>by unfold pathG at h2;simp at h2
 | k+1,b,s,i,x,y,h1,h2=>by
  rcases hn:nx s with⟨c,_ | t⟩
  ·rw [zAj hn] at h2;simp at h2
  ·by_cases ht:(b.set s true).getD t false=true
   ·rw [zAw hn ht] at h2;simp at h2
   ·rw [zA3 hn (by simpa using ht)] at h1 h2;simp only[List.getElem?_cons_succ] at h2;cases i with
    | zero=>
     simp only[List.getElem?_cons_zero,Option.some.injEq] at h1;subst h1;obtain⟨q,hq⟩:=zEr (nx:=nx) k (b.set s true) t;rw[hq] at h2;simp only[List.getElem?_cons_zero,Option.some.injEq] at h2;subst h2;rw[hn]
    | succ i=>
     simp only[List.getElem?_cons_succ] at h1;exact zDs k (b.set s true) t i x y h1 h2
theorem zD3:∀(k k':Nat) (b b':List Bool) (s:Nat),(∀s c t,nx s=(c,some t)->c=54)->(pathG nx k b s).2≠54->b.length=b'.length->(∀t,b'.getD t false=true->b.getD t false=true)->(pathG nx k b s).1.length<=k'->pathG nx k' b' s=pathG nx k b s
 | 0,k',b,b',s,h54,h,_,_,_=>absurd rfl h
 | k+1,0,b,b',s,h54,h,_,_,hl=>by
  obtain⟨q,hq⟩:=zEr (nx:=nx) (k+1) b s;rw[hq] at hl;simp at hl
 | k+1,k'+1,b,b',s,h54,h,hbl,hbb,hl=>by
  rcases hn:nx s with⟨c,_ | t⟩
  ·rw [zAj hn,zAj hn]
  ·by_cases ht:(b.set s true).getD t false=true
   ·rw [zAw hn ht] at h;exact absurd (h54 s c t hn) h
   ·have ht0:(b.set s true).getD t false=false:=by simpa using ht
    have hset:∀u,(b'.set s true).getD u false=true->(b.set s true).getD u false=true:=fun u hu=>by
     rw[List.getD_eq_getElem?_getD,List.getElem?_set] at hu ⊢;by_cases hsu:s=u
     ·rw [if_pos hsu] at hu ⊢;by_cases hlt:s<b'.length
      ·rw [if_pos (by omega)];rfl
      ·rw [if_neg hlt] at hu;simp at hu
     ·rw [if_neg hsu] at hu ⊢;have:=hbb u (by rw[List.getD_eq_getElem?_getD];exact hu)
      rwa [List.getD_eq_getElem?_getD] at this
    have ht1:(b'.set s true).getD t false=false:=by
     cases h9:(b'.set s true).getD t false with
     | false=>rfl
     | true=>rw[hset t h9] at ht0;cases ht0
    rw[zA3 hn ht0] at h hl ⊢;rw[zA3 hn ht1];simp only[List.length_cons] at hl;have:=zD3 k k' (b.set s true) (b'.set s true) t h54 h (by rw[List.length_set,List.length_set];exact hbl) hset (by omega);rw[this]
theorem zD0:∀(k:Nat) (b:List Bool) (s i x:Nat),(pathG nx k b s).1[i]?=some x->(pathG nx k b s).2≠54->∃k2 b2,b2.length=b.length/\pathG nx k2 b2 x=((pathG nx k b s).1.drop i,(pathG nx k b s).2)
 | 0,b,s,i,x,h,h54=>absurd rfl h54
 | k+1,b,s,0,x,h,h54=>by
  obtain⟨q,hq⟩:=zEr (nx:=nx) (k+1) b s;rw[hq] at h;simp at h;subst h;exact⟨k+1,b,rfl,rfl⟩
 | k+1,b,s,i+1,x,h,h54=>by
  rcases hn:nx s with⟨c,_ | t⟩
  ·rw [zAj hn] at h;simp at h
  ·by_cases ht:(b.set s true).getD t false=true
   ·rw [zAw hn ht] at h;simp at h
   ·rw [zA3 hn (by simpa using ht)] at h h54 ⊢;simp only[List.getElem?_cons_succ] at h;obtain⟨k2,b2,h1,h2⟩:=zD0 k (b.set s true) t i x h h54;exact⟨k2,b2,by rw[h1,List.length_set],by rw[h2];rfl⟩
end
noncomputable def nxV (L:List (List CX)) (Top:List CT) (nm:List UInt8) (s:Nat):Int × Option Nat:=
 if (heldV L (s:Int) nm).2=true then (0,none) else if (nearV L Top (s:Int) nm).2=false then (32,none) else if thereB L.length (nearV L Top (s:Int) nm).1=false then (52,none) else (54,some (nearV L Top (s:Int) nm).1.toNat)
noncomputable def pathV9 (L:List (List CX)) (Top:List CT) (nm:List UInt8) (s:Int):List Nat × Int:=
 if (normT nm).2=0 then (if thereB L.length s=true then pathG (nxV L Top nm) L.length (List.replicate L.length false) s.toNat else ([],1)) else ([],34)
theorem nxV_54 {L:List (List CX)} {Top:List CT} {nm:List UInt8}:∀s c t,nxV L Top nm s=(c,some t)->c=54:=by
 intro s c t h;unfold nxV at h;split at h
 ·cases h
 ·split at h
  ·cases h
  ·split at h
   ·cases h
   ·cases h;rfl
theorem nxV_near {L:List (List CX)} {Top:List CT} {nm:List UInt8} {s t:Nat} (h:(nxV L Top nm s).2=some t):nearV L Top (s:Int) nm=((t:Int),true)/\thereB L.length (t:Int)=true:=by
 unfold nxV at h;split at h
 ·cases h
 ·split at h
  ·cases h
  ·split at h
   ·cases h
   ·rename_i h1 h2 h3;simp only[Option.some.injEq] at h;have h4:thereB L.length (nearV L Top (s:Int) nm).1=true:=by simpa using h3
    have h5:=(of_decide_eq_true h4:_/\_).1;have h6:(nearV L Top (s:Int) nm).1=(t:Int):=by omega
    refine⟨Prod.ext h6 (by simpa using h2),by rw[<-h6];exact h4⟩
theorem zF6 {L:List (List CX)} {Top:List CT} {nm:List UInt8} {s:Int} {i x y:Nat} (h1:(pathV9 L Top nm s).1[i]?=some x) (h2:(pathV9 L Top nm s).1[i+1]?=some y):
  nearV L Top (x:Int) nm=((y:Int),true)/\((pathV9 L Top nm s).2≠54->pathV9 L Top nm (y:Int)=((pathV9 L Top nm s).1.drop (i+1),(pathV9 L Top nm s).2)):=by
 unfold pathV9 at h1 h2 ⊢;by_cases hy:(normT nm).2=0
 ·rw [if_pos hy] at h1 h2 ⊢;rw[if_pos hy];by_cases hs:thereB L.length s=true
  ·rw [if_pos hs] at h1 h2 ⊢;obtain⟨hn,hth⟩:=nxV_near (zDs _ _ _ _ _ _ h1 h2);refine⟨hn,fun h54=>?_⟩;rw[if_pos hth];obtain⟨k2,b2,hb2,hp⟩:=zD0 _ _ _ _ _ h2 h54;have h5:(pathG (nxV L Top nm) k2 b2 y).2≠54:=by rw[hp];exact h54
   have hlen:=zCu (nx:=nxV L Top nm) L.length (List.replicate L.length false) s.toNat;rw[Int.toNat_natCast,<-hp];refine zD3 k2 L.length b2 _ y nxV_54 h5 (by rw[hb2]) (fun t ht=>?_) ?_
   ·rw [List.getD_eq_getElem?_getD,List.getElem?_replicate] at ht;split at ht<;>simp at ht
   ·rw [hp];simp only[List.length_drop];omega
  ·rw [if_neg hs] at h1;simp at h1
 ·rw [if_neg hy] at h1;simp at h1
end Go.Proofs.YtlfglibcggphjaaGreatDoor
