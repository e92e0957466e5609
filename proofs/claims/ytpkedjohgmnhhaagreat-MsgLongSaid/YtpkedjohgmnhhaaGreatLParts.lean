/- A row of filters to which an empty one was put, that is written then; what filters are read. By an AI agent. -/
import Derived.Test.YtpkedjohgmnhhaaGreatLPieces
set_option linter.unusedSimpArgs false
namespace Go.Proofs.YtpkedjohgmnhhaaGreat
open Go.RowKit
set_option linter.unusedVariables false
structure OwnZ (ety:TypeId) (lo:Nat) (L:List FT) (t:FT) (ys:List Value) (v:Value) (W:World):Prop where
 row:∃xs zs,W.ownsRow lo ety 7 v (L.length+1) (xs++zs)∧xs.length=L.length*7∧zs.length=7∧rowIn elF W (fun k=>lo≤k∧k<W.heap.size∧v.ownBlock≠some k) L xs
 el:FInP W (fun k=>lo≤k∧k<W.heap.size∧v.ownBlock≠some k) t ys
 len:L.length+1≤20000
section
variable {ety:TypeId} {lo:Nat} {L:List FT} {t:FT} {ys:List Value} {v:Value} {W W':World} {X:Nat→Prop}
theorem OwnZ.fr (h:OwnZ ety lo L t ys v W) (hf:Fr X W W') (hx:∀k,lo≤k→¬X k):OwnZ ety lo L t ys v W':=by
 obtain⟨xs,zs,h1,h2,h3,h4⟩:=h.row
 have key:∀k,(lo≤k∧k<W.heap.size∧v.ownBlock≠some k)→(lo≤k∧k<W'.heap.size∧v.ownBlock≠some k):=fun k hk=>⟨hk.1,Nat.lt_of_lt_of_le hk.2.1 hf.size,hk.2.2⟩
 exact⟨⟨xs,zs,own_fr h1 hf hx,h2,h3,h4.move (fun p hp=>hf.cell hp.2.1 (hx _ hp.1)) key⟩,h.el.move (fun p hp=>hf.cell hp.2.1 (hx _ hp.1)) key,h.len⟩
theorem OwnZ.form (h:OwnZ ety lo L t ys v W):∃g c,v=.slice (some ⟨g,0,none⟩) (L.length+1) c∧lo≤g∧g<W.heap.size∧W.there g (L.length*7) 7:=by
 obtain⟨xs,zs,h1,h2,h3,_⟩:=h.row
 obtain⟨g,c,hv,hg,hlt⟩:=h1.form (by omega)
 refine⟨g,c,hv,hg,hlt,fun j hj=>?_⟩
 subst hv
 have hc:=h1.cells (g:=g) rfl (L.length*7+j) (zs[j]'(by omega)) (by
  rw[List.getElem?_append_right (by omega),show L.length*7+j-xs.length=j by omega]
  exact List.getElem?_eq_getElem (by omega))
 have e:(⟨g,0,none⟩:Addr).add (L.length*7+j)=⟨g,L.length*7+j,none⟩:=by rw[Addr.add_mid];simp
 rw[e] at hc
 refine⟨by rw[hc];rfl,?_⟩
 rcases h1.2 with⟨h0,_⟩ | ⟨g',cap,cur,hv',_,hh,_⟩
 ·cases h0
 ·cases hv'
  simp[World.frozen?,hh]
theorem OwnZ.put {g c:Nat} (h:OwnZ ety lo L t ys (.slice (some ⟨g,0,none⟩) (L.length+1) c) W):OwnL elF ety lo (L++[t]) (.slice (some ⟨g,0,none⟩) (L.length+1) c) (W.setCells g (L.length*7) ys):=by
 obtain⟨xs,zs,h1,h2,h3,h4⟩:=h.row
 have hy:=h.el.len
 have h5:=own_sets h1 (L.length*7) ys (by rw[hy];omega)
 have e:(xs++zs).take (L.length*7)++ys++(xs++zs).drop (L.length*7+ys.length)=xs++ys:=by
  rw[List.take_append_of_le_length (by omega),List.take_of_length_le (by omega),List.drop_eq_nil_of_le (by simp;omega)]
  simp
 rw[e] at h5
 have hf:Fr (fun k=>k=g) W (W.setCells g (L.length*7) ys):=Fr.setCells W g _ ys rfl
 have key:∀k,(lo≤k∧k<W.heap.size∧(Value.slice (some ⟨g,0,none⟩) (L.length+1) c).ownBlock≠some k)→(lo≤k∧k<(W.setCells g (L.length*7) ys).heap.size∧(Value.slice (some ⟨g,0,none⟩) (L.length+1) c).ownBlock≠some k):=fun k hk=>⟨hk.1,Nat.lt_of_lt_of_le hk.2.1 hf.size,hk.2.2⟩
 have hr:rowIn elF W (fun k=>lo≤k∧k<W.heap.size∧(Value.slice (some ⟨g,0,none⟩) (L.length+1) c).ownBlock≠some k) (L++[t]) (xs++ys):=rowIn.snoc (E:=elF) h4 h.el
 exact⟨⟨xs++ys,by simpa[elF] using h5,hr.move (fun p hp=>hf.cell hp.2.1 (fun q=>hp.2.2 (by simp[Value.ownBlock,q]))) key⟩,by simpa using h.len⟩
theorem OwnL.room {w7 w8:World} {v':Value} {xs zs ys:List Value} {t:FT} (hown:w7.ownsRow lo ety 7 v L.length xs) (hrow:rowIn elF w7 (fun k=>lo≤k∧k<w7.heap.size∧v.ownBlock≠some k) L xs) (hx:FInP w7 (fun k=>lo≤k∧k<w7.heap.size∧v.ownBlock≠some k) t ys)
  (h8:w8.ownsRow lo ety 7 v' (L.length+1) (xs++zs)) (hz:zs.length=7) (hg:w7.grownBy w8 v.ownBlock) (ht:v'.ownBlock=v.ownBlock∨v'.ownBlock=some w7.heap.size) (hn:L.length+1≤20000):OwnZ ety lo L t ys v' w8:=by
 have hf1:Fr (fun k=>v.ownBlock=some k) w7 w8:=Fr.grown hg fun k hk=>hk
 have key:∀k,(lo≤k∧k<w7.heap.size∧v.ownBlock≠some k)→(lo≤k∧k<w8.heap.size∧v'.ownBlock≠some k):=fun k hk=>⟨hk.1,Nat.lt_of_lt_of_le hk.2.1 hf1.size,fun e=>by
  rcases ht with h | h
  ·rw [h] at e;exact hk.2.2 e
  ·rw [h] at e;cases e;have:=hk.2.1;omega⟩
 exact⟨⟨xs,zs,h8,by have:=hown.1;omega,hz,hrow.move (fun p hp=>hf1.cell hp.2.1 hp.2.2) key⟩,hx.move (fun p hp=>hf1.cell hp.2.1 hp.2.2) key,hn⟩
end
namespace Rd
def bodyR (d:Nat) (k:Int):Rdr FT:=fun G=>
 if k=0∨k=1∨k=2 then (manyR (filterR d) G).map fun p=>(FT.mk k [] [] [] [] [] p.1,p.2)
 else if k=4 then andR textR (innerR 0x30 piecesR) (fun a p=>FT.mk 4 a [] p.1 p.2.2 p.2.1 []) G
 else if k=3∨k=5∨k=6∨k=8 then andR textR textR (fun a v=>FT.mk k a v [] [] [] []) G
 else none
end Rd
theorem inner_congr {α:Type} {t:UInt8} {p q:Rdr α} {F:List Fd} (h:∀G,p G=q G):Rd.innerR t p F=Rd.innerR t q F:=by
 have:p=q:=funext h
 rw[this]
theorem filter_body (d:Nat) (t:UInt8) (c:List UInt8) (r:List Fd) (ht:t≠0x87):Rd.filterR (d+1) ((t,c)::r)=Rd.innerR t (Rd.bodyR d ((t.toNat:Int)-160)) ((t,c)::r):=by
 have key:∀n:UInt8,t≠n→(t.toNat:Int)≠(n.toNat:Int):=fun n h e=>h (UInt8.toNat_inj.1 (by omega))
 rw[Rd.filterR]
 simp only
 rw[if_neg ht]
 by_cases h1:t=0xa0∨t=0xa1∨t=0xa2
 ·rw [if_pos h1]
  refine inner_congr fun G=>?_
  unfold Rd.bodyR
  rw[if_pos (by rcases h1 with rfl | rfl | rfl<;>decide)]
 ·rw [if_neg h1]
  simp only[not_or] at h1
  have k1:=key _ h1.1
  have k2:=key _ h1.2.1
  have k3:=key _ h1.2.2
  simp only[UInt8.reduceToNat] at k1 k2 k3
  by_cases h2:t=0xa4
  ·rw [if_pos h2]
   subst h2
   refine inner_congr fun G=>?_
   unfold Rd.bodyR
   rw[if_neg (by decide),if_pos (by decide)]
  ·rw [if_neg h2]
   have k4:=key _ h2
   simp only[UInt8.reduceToNat] at k4
   by_cases h3:t=0xa3∨t=0xa5∨t=0xa6∨t=0xa8
   ·rw [if_pos h3]
    refine inner_congr fun G=>?_
    unfold Rd.bodyR
    rw[if_neg (by omega),if_neg (by omega),if_pos (by rcases h3 with rfl | rfl | rfl | rfl<;>decide)]
   ·rw [if_neg h3]
    simp only[not_or] at h3
    have k5:=key _ h3.1
    have k6:=key _ h3.2.1
    have k7:=key _ h3.2.2.1
    have k8:=key _ h3.2.2.2
    simp only[UInt8.reduceToNat] at k5 k6 k7 k8
    have hb:∀G,Rd.bodyR d ((t.toNat:Int)-160) G=none:=fun G=>by
     unfold Rd.bodyR
     rw[if_neg (by omega),if_neg (by omega),if_neg (by omega)]
    have ht2:Rd.takeR t ((t,c)::r)=some (c,r):=by simp[Rd.takeR]
    rw[inner_of ht2]
    unfold Rd.wholeR
    cases Rd.fieldsOf c with
    | none=>rfl
    | some G=>simp only[hb];rfl
theorem filter_eats:∀d,Eats (Rd.filterR d)
 | 0=>fun F x G h=>by cases h
 | d+1=>fun F x G h=>by
  cases F with
  | nil=>cases h
  | cons f r=>
   obtain⟨t,c⟩:=f
   by_cases ht:t=0x87
   ·subst ht
    rw[Rd.filterR] at h
    simp only[if_true] at h
    cases hp:Rd.taggedR 135 ((135,c)::r) with
    | none=>rw[hp] at h;cases h
    | some q=>obtain⟨y,H⟩:=q;rw[hp] at h;cases h;exact tagged_eats _ _ _ _ hp
   ·rw [filter_body d t c r ht] at h
    exact inner_eats _ _ _ _ _ h
end Go.Proofs.YtpkedjohgmnhhaaGreat
