/- Several texts in one: DChange, DModify, DModMath, DUndo. By an AI agent. -/
import Derived.Test.YtnccdnfkhohobaaGreatDoorDZ
import Derived.Test.YtnccdnfkhohobaaGreatDoorEX
set_option linter.unusedSimpArgs false
set_option linter.unusedVariables false
namespace Go.Proofs.YtnccdnfkhohobaaGreatDoor
open Go Go.RowKit Go.Maps
theorem zD2 {t:List UInt8}:∀(vs l:List (List UInt8)),(∀v∈vs,(valV t v).2=0)->AloneV t (l++vs)->gatherV t l vs=(l++vs,0)
 | [],l,_,_=>by unfold gatherV;rw[List.append_nil]
 | v::vs,l,hok,hal=>by
  unfold gatherV;rw[if_neg (by simp[hok v (by simp)])];have h1:=hal l.length v (by simp);rw[List.take_left] at h1;rw[if_neg h1,zD2 vs (l++[v]) (fun u hu=>hok u (by simp[hu])) (by rw[List.append_assoc];exact hal),List.append_assoc];rfl
theorem zPa {L:List EA} {t:List UInt8} {vs:List (List UInt8)} (h:∀a∈L,a.1<t):insE L t vs=L++[(t,vs)]:=by
 induction L with
 | nil=>rfl
 | cons a L ih=>
  unfold insE;rw[if_pos (h a (by simp)),ih fun b hb=>h b (by simp[hb])];rfl
theorem zQ8 {L:List EA} {t:List UInt8} (h:∀a∈L,a.1<t):pickE L t=[]:=by
 rcases zKq L t with e | ⟨a,ha,e,_⟩
 ·exact e
 ·have:=h a ha;rw[e] at this;exact absurd this (List.lt_irrefl t)
theorem zF3 {L:List EA} (h:FormedL L):Rise L:=by
 have key:∀(L:List EA),(∀(i:Nat) (a b:EA),L[i]?=some a->L[i+1]?=some b->a.1<b.1)->Rise L:=by
  intro L
  induction L with
  | nil=>intro _;exact .nil
  | cons a L ih=>
   intro h;have h2:=ih fun i x y hx hy=>h (i+1) x y (by simpa using hx) (by simpa using hy)
   refine List.pairwise_cons.2 ⟨fun b hb=>?_,h2⟩;cases L with
   | nil=>simp at hb
   | cons c L=>
    have h1:a.1<c.1:=h 0 a c rfl rfl;rcases List.mem_cons.1 hb with rfl | hb
    ·exact h1
    ·exact List.lt_trans h1 ((List.pairwise_cons.1 h2).1 b hb)
 exact key L h.rise
theorem zGv:∀(S P:List EA),Rise (P++S)->(∀a∈S,FormedA a)->gatherE P S=(P++S,0)
 | [],P,_,_=>by unfold gatherE;rw[List.append_nil]
 | a::S,P,hr,hf=>by
  have ha:=hf a (by simp);have hlt:∀b∈P,b.1<a.1:=fun b hb=>(List.pairwise_append.1 hr).2.2 b hb a (by simp)
  unfold gatherE;have h0:(typ a.1).2≠0:=fun q=>ha.ne (by rw[<-ha.name];exact (zDd a.1).1 q)
  have h1:a.2≠[]:=fun q=>by have:=ha.lo;rw[q] at this;simp at this
  rw[if_neg h0,if_neg h1,ha.name,zQ8 hlt];have h2:=zD2 a.2 [] ha.ok ha.alone;rw[List.nil_append] at h2;simp only[h2];rw[if_neg (by simp)];have h3:setE P a.1 a.2=P++[a]:=by
   unfold setE;rw[if_neg h1,zPa hlt]
  rw[h3,zGv S (P++[a]) (by rw[List.append_assoc];exact hr) fun b hb=>hf b (by simp[hb]),List.append_assoc];rfl
theorem zH8 {L:List EA} (h:FormedL L):gatherA [] L=(L,0):=by
 rw[zEf L [] ⟨.nil,fun a ha=>by simp at ha⟩,zGv L [] (by simpa using zF3 h) h.each];rfl
structure Two2 (w:World) (q:Nat) (nm:ByteArray) (A:Option Addr) (n c:Nat):Prop where
 b0:BoxE w q nm A n c
 b1:BoxE w (q+1) ⟨#[]⟩ none 0 0
 fz:∀i,w.frozen? ⟨q+1,i,none⟩=false
theorem Two2.grow {w w':World} {q:Nat} {nm:ByteArray} {A:Option Addr} {n c:Nat} (h:Two2 w q nm A n c) (hb:Below w.heap.size w w'):Two2 w' q nm A n c:=
 ⟨h.b0.grow hb,h.b1.grow hb,fun i=>(hb.frozen (p:=⟨q+1,i,none⟩) h.b1.lt).trans (h.fz i)⟩
theorem Two2.new (w:World) (nm:ByteArray) (A:Option Addr) (n c:Nat) (t:TypeId):Two2 ((w.alloc (.cells #[.string nm,.slice A n c] t)).alloc (.cells #[.string ⟨#[]⟩,.slice none 0 0] t)) w.heap.size nm A n c:=by
 have h1:=BoxE.new w nm A n c t;have h2:=BoxE.new (w.alloc (.cells #[.string nm,.slice A n c] t)) ⟨#[]⟩ none 0 0 t;have hs:(w.alloc (.cells #[.string nm,.slice A n c] t)).heap.size=w.heap.size+1:=by simp
 rw[hs] at h2;refine⟨h1.grow ((Below.refl _ _).alloc (Nat.le_refl _) _),h2,fun i=>?_⟩;rw[<-hs];exact World.frozen?_alloc_at _ _ _ _ rfl
end Go.Proofs.YtnccdnfkhohobaaGreatDoor
namespace Go.Proofs.YtnccdnfkhohobaaGreatDoor
open Go Go.RowKit
theorem zEm {t:List UInt8} {L:List (List UInt8)} (h:∀v∈L,(valV t v).2=0):AloneV t L↔L.Pairwise fun a b=>(valV t a).1≠(valV t b).1:=by
 rw[zDt h,List.pairwise_iff_getElem];constructor
 ·intro q i j hi hj hij e;refine q j L[j] (List.getElem?_eq_getElem hj) ?_;rw[<-e];refine List.mem_map_of_mem (f:=fun u=>(valV t u).1) ?_;rw[List.mem_take_iff_getElem];exact⟨i,by omega,rfl⟩
 ·intro q i v hv hm;obtain⟨u,hu,e⟩:=List.mem_map.1 hm;obtain⟨j,hj,rfl⟩:=List.mem_take_iff_getElem.1 hu;obtain⟨hi,rfl⟩:=List.getElem?_eq_some_iff.1 hv;exact q j i (by omega) hi (by omega) e
theorem drop_ok {L:List EA} {t n:List UInt8} (h:OkE L) (ht:(typ t).1=t) (hne:t≠[]):OkE (setE L t (dropV t (pickE L t) n)):=by
 have hp:=h.pick t;have hok:∀v∈dropV t (pickE L t) n,(valV t v).2=0:=fun v hv=>hp.1 v (List.mem_filter.1 hv).1
 refine h.set ht hne hok ?_;rw[zEm hok];exact ((zEm hp.1).1 hp.2).filter _
theorem zGr {L:List EA} (h:FormedL L):OkE L:=
 ⟨zF3 h,fun a ha q=>by have:=(h.each a ha).lo;rw[q] at this;simp at this,fun a ha=>⟨(h.each a ha).name,(h.each a ha).ne,(h.each a ha).ok,(h.each a ha).alone⟩⟩
theorem zOl {nm:List UInt8} {L:List EA} {mis:Int} (hn:normT nm=(nm,0)) (hne:nm≠[]) (hok:OkE L) (hmis:mis≠0):endE nm L mis=0↔FormedE nm L:=by
 unfold endE;constructor
 ·intro he;split at he
  ·exact absurd he (by simp)
  ·rename_i hm;split at he
   ·exact absurd he (by simp)
   ·rename_i hc;split at he
    ·rename_i hN;refine⟨⟨hn,hne,hok.form fun a ha h20=>hm ⟨a,ha,h20⟩⟩,?_,hN⟩;rw[zEg];exact hc
    ·exact absurd he hmis
 ·intro h;rw[if_neg,if_neg,if_pos h.named]
  ·have:=h.cls
   rwa [zEg] at this
  ·rintro ⟨a,ha,h20⟩;have:=(h.loose.attrs.each a ha).hi;omega
end Go.Proofs.YtnccdnfkhohobaaGreatDoor
