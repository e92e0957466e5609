/- An entry under another name, pure: what its first part says is taken up, what the old one said is left. By an AI agent. -/
import Derived.Test.YtnccdnfkhohobaaGreatDoorDV
import Derived.Test.YtnccdnfkhohobaaGreatDoorDWoV
import Derived.Test.YtnccdnfkhohobaaGreatDoorDY
set_option linter.unusedSimpArgs false
set_option linter.unusedVariables false
namespace Go.Proofs.YtnccdnfkhohobaaGreatDoor
open Go Go.RowKit
open Classical in
noncomputable def take1 (L:List EA) (q:P2):List EA:=if WithinV q.1 (pickE L q.1) q.2 then L else setE L q.1 (pickE L q.1++[q.2])
noncomputable def takeL:List EA->List P2->List EA
 | L,[]=>L
 | L,q::r=>takeL (take1 L q) r
open Classical in
noncomputable def leave1 (K:List P2) (L:List EA) (q:P2):List EA:=if q∈K then L else setE L q.1 (dropV q.1 (pickE L q.1) q.2)
noncomputable def leaveL (K:List P2):List EA->List P2->List EA
 | L,[]=>L
 | L,q::r=>leaveL K (leave1 K L q) r
noncomputable def renL (nm:List UInt8) (L:List EA) (tn:List UInt8) (del:Bool):List EA:=
 if del=true then leaveL (pairsE (normT tn).1) (takeL L (pairsE tn)) (pairsE nm) else takeL L (pairsE tn)
open Classical in
noncomputable def renE (nm:List UInt8) (L:List EA) (tn:List UInt8) (del:Bool):List UInt8 × List EA × Int:=
 if ¬FormedE nm L then ([],[],1) else
 if (normT tn).2≠0\/(normT tn).1=[] then ([],[],34) else
 if endE (normT tn).1 (renL nm L tn del) 64≠0 then ([],[],endE (normT tn).1 (renL nm L tn del) 64) else ((normT tn).1,renL nm L tn del,0)
theorem zBo (nm:List UInt8):∀q∈pairsE nm,PairOk q:=by
 unfold pairsE;cases hV:nameV nm with
 | mk o e=>
  cases o with
  | none=>intro q hq;simp at hq
  | some L=>
   obtain⟨rfl,hok⟩:=zB3 hV;cases L with
   | nil=>intro q hq;simp at hq
   | cons p r=>
    intro q hq;exact (hok.each p (by simp)).each q hq
theorem zB1 {q:P2} (h:PairOk q):valV q.1 q.2=((norm q.1 q.2).1,0):=by
 unfold valV;rw[if_pos (by rcases h.syn with e | e<;>omega)];exact Prod.ext rfl h.val
theorem zQ0 {q:P2} (h:PairOk q):(valV q.1 q.2).2=0:=by rw[zB1 h]
theorem zQz {q:P2} (h:PairOk q):q.1≠[]:=fun e=>by
 have h1:=h.name;have:=(zDd q.1).2 (by rw[h1,e]);rcases h.syn with k | k<;>omega
theorem pair_syn {q:P2} (h:PairOk q):(typ q.1).2≠0:=by rcases h.syn with k | k<;>omega
theorem zDv {q:P2} (h:PairOk q) (L:List EA):valuesE L q.1=pickE L q.1:=by
 unfold valuesE;rw[if_neg (pair_syn h),h.name]
theorem pair_has {q:P2} (h:PairOk q) (L:List EA):HasE L q.1 q.2↔WithinV q.1 (pickE L q.1) q.2:=by
 unfold HasE;rw[zDv h]
theorem zN7 {tn:List UInt8} (h:(normT tn).2=0):pairsE (normT tn).1=normP (pairsE tn):=by
 cases pway tn with
 | none e he hn h1=>
  rw[norm_no' h1] at h;simp only at h;omega
 | long L hn ho hl h1=>
  rw[norm_no' h1] at h;simp at h
 | ok L hn ho hl h1=>
  rw[norm_yes' h1];have hm:(L.map normP).map prP=L.map ptx:=by rw[List.map_map];rfl
  have hj:=zFj (L:=L.map normP) ⟨by simpa using ho.le,fun p hp'=>by
   obtain⟨x,hx,rfl⟩:=List.mem_map.1 hp'
   exact (zC6 (ho.each x hx)).1⟩ (by rw[hm];exact hl)
  rw[hm] at hj;unfold pairsE;rw[hj,hn];cases L with
  | nil=>rfl
  | cons p r=>rfl
theorem zNq {tn:List UInt8} (h:(normT tn).2=0) {q:P2} (hq:valV q.1 q.2=(q.2,0)):q∈pairsE (normT tn).1↔∃x∈pairsE tn,x.1=q.1/\WithinV q.1 [x.2] q.2:=by
 rw[zN7 h];unfold normP;constructor
 ·intro hm;obtain⟨x,hx,e⟩:=List.mem_map.1 hm;have ho:=zBo tn x hx;have e1:x.1=q.1:=by
   have h9:=congrArg Prod.fst e;exact h9
  have e2:(norm x.1 x.2).1=q.2:=by have h9:=congrArg Prod.snd e;exact h9
  refine⟨x,hx,e1,within_one.2 ⟨by rw[hq],?_,?_⟩⟩
  ·rw [<-e1,zB1 ho]
  ·rw [hq,<-e1,zB1 ho];exact e2
 ·rintro ⟨x,hx,e1,hw⟩;have ho:=zBo tn x hx;obtain⟨_,_,e2⟩:=within_one.1 hw;rw[hq,<-e1,zB1 ho] at e2;refine List.mem_map.2 ⟨x,hx,?_⟩;exact Prod.ext e1 e2
theorem zMt {L:List EA} {q:P2} (h:OkE L) (hq:PairOk q):OkE (take1 L q):=by
 unfold take1;split
 ·exact h
 ·rename_i hw;have hp:=h.pick q.1;refine h.set hq.name (zQz hq) (fun v hv=>?_) (zHi hp.2 hw);rcases List.mem_append.1 hv with hv | hv
  ·exact hp.1 v hv
  ·obtain rfl:=List.mem_singleton.1 hv;exact zQ0 hq
theorem zIh:∀{ps:List P2} {L:List EA},OkE L->(∀q∈ps,PairOk q)->OkE (takeL L ps)
 | [],L,h,_=>by unfold takeL;exact h
 | q::r,L,h,hq=>by
  unfold takeL;exact zIh (zMt h (hq q (by simp))) fun p hp=>hq p (by simp[hp])
theorem zIw {K:List P2} {L:List EA} {q:P2} (h:OkE L) (hq:PairOk q):OkE (leave1 K L q):=by
 unfold leave1;split
 ·exact h
 ·exact drop_ok h hq.name (zQz hq)
theorem zI1 {K:List P2}:∀{ps:List P2} {L:List EA},OkE L->(∀q∈ps,PairOk q)->OkE (leaveL K L ps)
 | [],L,h,_=>by unfold leaveL;exact h
 | q::r,L,h,hq=>by
  unfold leaveL;exact zI1 (zIw h (hq q (by simp))) fun p hp=>hq p (by simp[hp])
theorem renL_ok {nm:List UInt8} {L:List EA} {tn:List UInt8} {del:Bool} (h:OkE L):OkE (renL nm L tn del):=by
 unfold renL;split
 ·exact zI1 (zIh h (zBo tn)) (zBo nm)
 ·exact zIh h (zBo tn)
theorem zNn (nm:List UInt8) (L:List EA) (tn:List UInt8) (del:Bool):((renE nm L tn del).2.2=0/\FormedE (renE nm L tn del).1 (renE nm L tn del).2.1)\/((renE nm L tn del).2.2≠0/\(renE nm L tn del).1=[]/\(renE nm L tn del).2.1=[]):=by
 unfold renE;by_cases hf:FormedE nm L
 ·rw [if_neg (fun q=>q hf)];by_cases h1:(normT tn).2≠0\/(normT tn).1=[]
  ·rw [if_pos h1];exact .inr ⟨by simp,rfl,rfl⟩
  ·rw [if_neg h1];have h0:(normT tn).2=0:=Classical.byContradiction fun q=>h1 (.inl q)
   by_cases h2:endE (normT tn).1 (renL nm L tn del) 64≠0
   ·rw [if_pos h2];exact .inr ⟨h2,rfl,rfl⟩
   ·rw [if_neg h2];exact .inl ⟨rfl,(zOl ((zA3 h0).1.trans (Prod.ext rfl h0)) (fun q=>h1 (.inr q)) (renL_ok (zGr hf.loose.attrs)) (show (64:Int)≠0 by decide)).1 (by simpa using h2)⟩
 ·rw [if_pos hf];exact .inr ⟨by simp,rfl,rfl⟩
theorem zP6 {L:List EA} {q:P2} (h:OkE L) (hv:valV q.1 q.2=(q.2,0)):(woV q.1 q.2 (pickE L q.1) false).1=dropV q.1 (pickE L q.1) q.2:=by
 have hp:=h.pick q.1;have:=(zPq (t:=q.1) (v:=q.2) (by rw[hv]) hp.1 ((zEm hp.1).1 hp.2)).1;rw[this,hv]
end Go.Proofs.YtnccdnfkhohobaaGreatDoor
