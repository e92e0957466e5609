/- Several texts in one: YMath, YMem, YSmall, YVals, YReach, YGrow, YAttrs, YOne, YOf, YSame, YAt. By an AI agent. -/
import Derived.Test.YtjjepcnijmlliaaGreatDoorVX
import Derived.Test.YtjjepcnijmlliaaGreatDoorEX
import Derived.Test.YtjjepcnijmlliaaGreatDoorEY
import Derived.Test.YtjjepcnijmlliaaGreatDoorGrow
import Derived.BigQuiet
set_option maxRecDepth 100000
set_option maxHeartbeats 64000000
namespace Go.Proofs.YtjjepcnijmlliaaGreatDoor
open Go.RowKit
set_option linter.unusedVariables false
set_option linter.unusedSimpArgs false
noncomputable def stepsV (n:List UInt8):Nat:=if n=[] then 0 else depthV n+1
theorem steps_le (n:List UInt8):stepsV n≤13:=by
 unfold stepsV
 have:=depth_le n
 split<;>omega
theorem steps_zero {n:List UInt8} (h:stepsV n≤0):n=[]:=by
 unfold stepsV at h
 by_cases hn:n=[]
 ·exact hn
 ·rw [if_neg hn] at h;omega
theorem steps_next {n:List UInt8} (h:n≠[]):stepsV (parentV n).1+1≤stepsV n:=by
 rcases parent_cases n with⟨p,hp,ha⟩ | hp
 ·rw [hp]
  have:=ha.deep
  unfold stepsV
  rw[if_neg h]
  simp only
  split<;>omega
 ·rw [hp]
  unfold stepsV
  rw[if_neg h,if_pos rfl]
  omega
theorem parent_short (n:List UInt8):(parentV n).1.length≤1000:=by
 rcases parent_cases n with⟨p,hp,ha⟩ | hp
 ·rw [hp];exact ha.len
 ·rw [hp];simp
noncomputable def reachK (R:List Ru) (s:List UInt8):Nat→List UInt8→Bool
 | 0,_=>true
 | k+1,n=>if n=[] then true else decideV R s 1 n []&&reachK R s k (parentV n).1
noncomputable def reachV (R:List Ru) (s n:List UInt8):Bool:=reachK R s 13 n
theorem reach_nil (R:List Ru) (s:List UInt8) (k:Nat):reachK R s k []=true:=by
 cases k with
 | zero=>rfl
 | succ k=>unfold reachK;rw[if_pos rfl]
theorem reach_more (R:List Ru) (s:List UInt8):∀(k:Nat) (n:List UInt8),stepsV n≤k→reachK R s (k+1) n=reachK R s k n
 | 0,n,h=>by rw[steps_zero h,reach_nil,reach_nil]
 | k+1,n,h=>by
  by_cases hn:n=[]
  ·rw [hn,reach_nil,reach_nil]
  ·have h1:=steps_next hn
   have ih:=reach_more R s k (parentV n).1 (by omega)
   rw[reachK.eq_2,if_neg hn,ih,reachK.eq_2,if_neg hn]
theorem reach_head {R:List Ru} {s n:List UInt8} (h:reachV R s n=true) (hn:n≠[]):decideV R s 1 n []=true∧reachV R s (parentV n).1=true:=by
 unfold reachV at h
 rw[reachK.eq_2,if_neg hn,Bool.and_eq_true] at h
 refine⟨h.1,?_⟩
 unfold reachV
 have h1:=steps_next hn
 have h2:=steps_le n
 rw[reach_more R s 12 _ (by omega)]
 exact h.2
theorem reach_all {R:List Ru} {s:List UInt8} (P:List UInt8→Prop) (hstep:∀m,P m→m≠[]→P (parentV m).1) (heq:∀m,P m→m≠[]→decideV R s 1 m []=true):∀(k:Nat) (n:List UInt8),P n→reachK R s k n=true
 | 0,n,h=>rfl
 | k+1,n,h=>by
  by_cases hn:n=[]
  ·rw [hn,reach_nil]
  ·rw [reachK.eq_2,if_neg hn,heq n h hn,reach_all P hstep heq k _ (hstep n h hn)]
   rfl
noncomputable def seenA (R:List Ru) (s nm:List UInt8) (L:List EA):List EA:=(L.filter fun a=>decideV R s 1 nm a.1).map fun a=>(a.1,valuesE L a.1)
theorem pick_own:∀(L:List EA),(∀(i:Nat) (a b:EA),L[i]?=some a→L[i+1]?=some b→a.1<b.1)→∀a∈L,pickE L a.1=a.2
 | [],_,a,ha=>by cases ha
 | b::L,h,a,ha=>by
  unfold pickE
  rcases List.mem_cons.1 ha with rfl | hm
  ·rw [if_pos rfl]
  ·have hr:∀(i:Nat) (x y:EA),L[i]?=some x→L[i+1]?=some y→x.1<y.1:=fun i x y hx hy=>h (i+1) x y (by simpa using hx) (by simpa using hy)
   have hlt:∀(i:Nat) (x:EA),L[i]?=some x→b.1<x.1:=by
    intro i
    induction i with
    | zero=>intro x hx;exact h 0 b x rfl (by simpa using hx)
    | succ i ih=>
     intro x hx
     have hi:=(List.getElem?_eq_some_iff.1 hx).1
     have hy:L[i]?=some (L[i]'(by omega)):=List.getElem?_eq_getElem _
     exact List.lt_trans (ih _ hy) (hr i _ x hy hx)
   obtain⟨i,hi,rfl⟩:=List.mem_iff_getElem.1 hm
   have:=hlt i _ (List.getElem?_eq_getElem hi)
   rw[if_neg (fun e=>by rw[e] at this;exact List.lt_irrefl _ this)]
   exact pick_own L hr _ hm
theorem values_own {L:List EA} (h:FormedL L) {a:EA} (ha:a∈L):valuesE L a.1=a.2:=by
 have hf:=h.each a ha
 unfold valuesE
 rw[if_neg (fun e=>hf.ne (by rw[typ_nil0,hf.name] at e;exact e)),hf.name]
 exact pick_own L h.rise a ha
theorem seen_formed {R:List Ru} {s nm:List UInt8} {L:List EA} (h:FormedL L):seenA R s nm L=L.filter fun a=>decideV R s 1 nm a.1:=by
 unfold seenA
 have key:∀M:List EA,(∀a∈M,a∈L)→M.map (fun a=>(a.1,valuesE L a.1))=M:=by
  intro M
  induction M with
  | nil=>intro _;rfl
  | cons a M ih=>
   intro hm
   rw[List.map_cons,ih fun x hx=>hm x (by simp[hx]),values_own h (hm a (by simp))]
 exact key _ fun a ha=>(List.mem_filter.1 ha).1
abbrev ENt:=List UInt8 × List EA
open Classical in
noncomputable def viewV (R:List Ru) (s:List UInt8) (e:ENt):Option ENt:=if FormedE e.1 e.2∧reachV R s e.1=true then some (e.1,seenA R s e.1 e.2) else none
noncomputable def viewL (R:List Ru) (s:List UInt8) (L:List ENt):List ENt:=L.filterMap (viewV R s)
theorem view_yes {R:List Ru} {s:List UInt8} {e:ENt} (h:FormedE e.1 e.2) (h2:reachV R s e.1=true):viewV R s e=some (e.1,seenA R s e.1 e.2):=by unfold viewV;rw[if_pos ⟨h,h2⟩]
theorem view_no {R:List Ru} {s:List UInt8} {e:ENt} (h:¬(FormedE e.1 e.2∧reachV R s e.1=true)):viewV R s e=none:=by unfold viewV;rw[if_neg h]
structure LessV (R:List Ru) (s:List UInt8) (L:List ENt) (v:ENt):Prop where
 there:∃e∈L,e.1=v.1
 norm:normT v.1=(v.1,0)
 may:decideV R s 1 v.1 []=true
 each:∀a∈v.2,decideV R s 1 v.1 a.1=true∧a.2≠[]
theorem view_less {R:List Ru} {s:List UInt8} {L:List ENt} {v:ENt} (hv:v∈viewL R s L):LessV R s L v:=by
 obtain⟨e,he,hv⟩:=List.mem_filterMap.1 hv
 unfold viewV at hv
 split at hv
 ·rename_i h
  obtain⟨hf,hr⟩:=h
  obtain rfl:=(Option.some.inj hv).symm
  refine⟨⟨e,he,rfl⟩,hf.loose.norm,(reach_head hr hf.loose.ne).1,fun a ha=>?_⟩
  simp only at ha
  rw[seen_formed hf.loose.attrs] at ha
  obtain⟨h1,h2⟩:=List.mem_filter.1 ha
  refine⟨h2,fun h0=>?_⟩
  have:=(hf.loose.attrs.each a h1).lo
  rw[h0] at this
  simp at this
 ·cases hv
theorem view_len (R:List Ru) (s:List UInt8) (L:List ENt):(viewL R s L).length≤L.length:=List.length_filterMap_le _ _
def allR:List Ru:=[⟨[42],[],[],1,true⟩]
theorem und_root {n:List UInt8} (h:(normT n).2=0):underV (normT n).1 []=true:=by
 cases pt n with
 | no e he h'=>rw[norm_no' h'] at h;simp only at h;omega
 | ok T ho h'=>
  rw[norm_yes' h']
  unfold underV
  rw[parts_join ho,show partsV []=(some [],0) from parts_join TextsOk.root]
  exact und_nil T
theorem allR_ok:AllP allR:=by
 have ht0:tnV []=([],true):=by decide
 refine⟨by decide,fun r hr=>?_⟩
 obtain rfl:=List.mem_singleton.1 hr
 exact⟨by rw[ht0];exact⟨rfl,rfl⟩,by decide,by decide,Or.inl rfl,norm_nil⟩
theorem decide_all {s n a:List UInt8} (h:AskP s 1 n a):decideV allR s 1 n a=true:=by
 have ha:andI 1 1=1:=by decide
 rw[decide_yes h allR_ok]
 have hu:=und_root h.2.2.1
 unfold allR firstV aboutV askV isV
 simp only[ha,hu]
 simp
def RootOr (m:List UInt8):Prop:=normT m=(m,0)
theorem rootor_next {m:List UInt8} (h:RootOr m):RootOr (parentV m).1:=by
 unfold RootOr at h ⊢
 cases pt m with
 | no e he h'=>rw[norm_no' h'] at h;injection h with _ h2;omega
 | ok T ho h'=>
  cases T with
  | nil=>rw[show parentV m=([],false) by unfold parentV;rw[h']];exact norm_nil
  | cons t T=>rw[show parentV m=(joinC T,true) by unfold parentV;rw[h']];exact norm_yes' (parts_join ho.tail)
theorem reach_allR {s n:List UInt8} (hs:(normT s).2=0) (hn:normT n=(n,0)):reachV allR s n=true:=
 reach_all RootOr (fun m hm _=>rootor_next hm) (fun m hm _=>decide_all ⟨Or.inl rfl,hs,by rw[hm],by decide⟩) 13 n hn
theorem tn_formed {a:EA} (h:FormedA a):(tnV a.1).2=true:=by
 unfold tnV
 refine decide_eq_true (Or.inr ?_)
 rw[h.name]
 exact h.ne
theorem view_all {s:List UInt8} (hs:(normT s).2=0) {e:ENt} (h:FormedE e.1 e.2):viewV allR s e=some e:=by
 rw[view_yes h (reach_allR hs h.loose.norm),seen_formed h.loose.attrs]
 have:(e.2.filter fun a=>decideV allR s 1 e.1 a.1)=e.2:=List.filter_eq_self.2 fun a ha=>decide_all ⟨Or.inl rfl,hs,by rw[h.loose.norm],tn_formed (h.loose.attrs.each a ha)⟩
 rw[this]
theorem view_snoc (R:List Ru) (s:List UInt8) (L:List ENt) (e:ENt):viewL R s (L++[e])=viewL R s L++(viewV R s e).toList:=by
 unfold viewL
 rw[List.filterMap_append]
 cases h:viewV R s e<;>simp[h]
theorem view_awake:viewV allR [] ([100,99,61,120],awE)=some ([100,99,61,120],awE):=view_all (by rw[norm_nil]) formed_awE
end Go.Proofs.YtjjepcnijmlliaaGreatDoor
namespace Go.Proofs.YtjjepcnijmlliaaGreatDoor
open Go.RowKit
set_option linter.unusedVariables false
def HasP (w:World) (P:Nat→Prop) (size:Nat) (A:Option Addr) (n:Nat) (xs:List Value):Prop:=
 xs.length=n*size∧(xs=[]∨∃ad,A=some ad∧P ad.block∧∀j u,xs[j]?=some u→w.cell? (ad.add j)=some u)
section
variable {w w':World} {P P':Nat→Prop} {B size n:Nat} {A:Option Addr} {xs:List Value}
theorem HasP.has (h:HasP w P size A n xs) (hP:∀b,P b→b<B):Has w B size A n xs:=
 ⟨h.1,h.2.imp id fun ⟨ad,e,hb,hc⟩=>⟨ad,e,hP _ hb,hc⟩⟩
theorem HasP.move (h:HasP w P size A n xs) (hc:∀p:Addr,P p.block→w'.cell? p=w.cell? p) (hP:∀b,P b→P' b):HasP w' P' size A n xs:=
 ⟨h.1,h.2.imp id fun ⟨ad,e,hb,hx⟩=>⟨ad,e,hP _ hb,fun j u hu=>(hc _ (by rw[block_add];exact hb)).trans (hx j u hu)⟩⟩
theorem Has.hasP (h:Has w B size A n xs):HasP w (fun b=>b<B) size A n xs:=h
theorem HasP.nil:HasP w P size A 0 []:=⟨by simp,.inl rfl⟩
theorem own_formP {base:Nat} {e:TypeId} {v:Value} (h:w.ownsRow base e size v n xs):∃A c,v=.slice A n c∧n≤c∧HasP w (fun b=>base≤b∧b<w.heap.size) size A n xs:=by
 rcases h.2 with⟨rfl,rfl⟩ | ⟨g,cap,cur,rfl,hb,hh,hnc,_,hs,ht⟩
 ·exact ⟨none,0,rfl,Nat.le_refl _,h.1,.inl (List.eq_nil_of_length_eq_zero (by simpa using h.1))⟩
 ·refine ⟨_,cap,rfl,hnc,h.1,?_⟩
  have hlt:g<w.heap.size:=(Array.getElem?_eq_some_iff.1 hh).1
  rcases Nat.eq_zero_or_pos n with h0 | h0
  ·subst h0
   exact .inl (List.eq_nil_of_length_eq_zero (by simpa using h.1))
  ·obtain ⟨g',cap',hv,_,hlt'⟩:=h.form h0
   injection hv with hA
   injection hA with hA
   injection hA with hg
   subst hg
   exact .inr ⟨_,rfl,⟨hb,hlt⟩,h.cells (g:=g) rfl⟩
end
structure EAsP (w:World) (P:Nat→Prop) (xs:List Value) (L:List EA):Prop where
 len:xs.length=L.length*2
 each:∀(i:Nat) (a:EA),L[i]?=some a→∃A c,xs[i*2]?=some (.string (txt a.1))∧xs[i*2+1]?=some (.slice A a.2.length c)∧a.2.length≤c∧c≤maxLen∧HasP w P 1 A a.2.length (strs a.2)
structure ENsP (w:World) (P:Nat→Prop) (xs:List Value) (L:List EN):Prop where
 len:xs.length=L.length*2
 each:∀(i:Nat) (e:EN),L[i]?=some e→∃A c ys,xs[i*2]?=some (.string (txt e.1))∧xs[i*2+1]?=some (.slice A e.2.length c)∧e.2.length≤c∧c≤maxLen∧HasP w P 2 A e.2.length ys∧EAsP w P ys e.2
section
variable {w w':World} {P P':Nat→Prop} {B:Nat} {xs:List Value}
theorem EAsP.eas {L:List EA} (h:EAsP w P xs L) (hP:∀b,P b→b<B):EAs w B xs L:=
 ⟨h.len,fun i a ha=>by obtain⟨A,c,h1,h2,k1,k2,h3⟩:=h.each i a ha;exact⟨A,c,h1,h2,k1,k2,h3.has hP⟩⟩
theorem EAsP.move {L:List EA} (h:EAsP w P xs L) (hc:∀p:Addr,P p.block→w'.cell? p=w.cell? p) (hP:∀b,P b→P' b):EAsP w' P' xs L:=
 ⟨h.len,fun i a ha=>by obtain⟨A,c,h1,h2,k1,k2,h3⟩:=h.each i a ha;exact⟨A,c,h1,h2,k1,k2,h3.move hc hP⟩⟩
theorem EAsP.nil:EAsP w P [] []:=⟨rfl,fun i a ha=>by simp at ha⟩
theorem ENsP.ens {L:List EN} (h:ENsP w P xs L) (hP:∀b,P b→b<B):ENs w B xs L:=
 ⟨h.len,fun i a ha=>by obtain⟨A,c,ys,h1,h2,k1,k2,h3,h4⟩:=h.each i a ha;exact⟨A,c,ys,h1,h2,k1,k2,h3.has hP,h4.eas hP⟩⟩
theorem ENsP.move {L:List EN} (h:ENsP w P xs L) (hc:∀p:Addr,P p.block→w'.cell? p=w.cell? p) (hP:∀b,P b→P' b):ENsP w' P' xs L:=
 ⟨h.len,fun i a ha=>by obtain⟨A,c,ys,h1,h2,k1,k2,h3,h4⟩:=h.each i a ha;exact⟨A,c,ys,h1,h2,k1,k2,h3.move hc hP,h4.move hc hP⟩⟩
theorem ENsP.nil:ENsP w P [] []:=⟨rfl,fun i a ha=>by simp at ha⟩
theorem EAs.easP {L:List EA} (h:EAs w B xs L):EAsP w (fun b=>b<B) xs L:=⟨h.len,h.each⟩
theorem ENs.ensP {L:List EN} (h:ENs w B xs L):ENsP w (fun b=>b<B) xs L:=⟨h.len,fun i e he=>by
 obtain⟨A,c,ys,h1,h2,k1,k2,h3,h4⟩:=h.each i e he
 exact⟨A,c,ys,h1,h2,k1,k2,h3,h4.easP⟩⟩
theorem EAsP.snoc {L:List EA} (h:EAsP w P xs L) {a:EA} {A:Option Addr} {c:Nat} (hc:a.2.length≤c) (hm:c≤maxLen) (hH:HasP w P 1 A a.2.length (strs a.2)):EAsP w P (xs++[.string (txt a.1),.slice A a.2.length c]) (L++[a]):=by
 refine⟨by simp[h.len];omega,fun i q hq=>?_⟩
 by_cases hi:i<L.length
 ·rw [List.getElem?_append_left hi] at hq
  obtain⟨A',c',h1,h2,h3⟩:=h.each i q hq
  have hl:=h.len
  exact⟨A',c',by rw[List.getElem?_append_left (by omega)];exact h1,by rw[List.getElem?_append_left (by omega)];exact h2,h3⟩
 ·have hi2:i=L.length:=by
   have:=(List.getElem?_eq_some_iff.1 hq).1
   simp at this;omega
  subst hi2
  simp at hq
  subst hq
  exact⟨A,c,by rw[List.getElem?_append_right (by rw[h.len];exact Nat.le_refl _),h.len];simp,by rw[List.getElem?_append_right (by rw[h.len];omega),h.len];simp,hc,hm,hH⟩
theorem ENsP.snoc {L:List EN} (h:ENsP w P xs L) {a:EN} {A:Option Addr} {c:Nat} {ys:List Value} (hc:a.2.length≤c) (hm:c≤maxLen) (hH:HasP w P 2 A a.2.length ys) (hE:EAsP w P ys a.2):ENsP w P (xs++[.string (txt a.1),.slice A a.2.length c]) (L++[a]):=by
 refine⟨by simp[h.len];omega,fun i q hq=>?_⟩
 by_cases hi:i<L.length
 ·rw [List.getElem?_append_left hi] at hq
  obtain⟨A',c',zs,h1,h2,h3⟩:=h.each i q hq
  have hl:=h.len
  exact⟨A',c',zs,by rw[List.getElem?_append_left (by omega)];exact h1,by rw[List.getElem?_append_left (by omega)];exact h2,h3⟩
 ·have hi2:i=L.length:=by
   have:=(List.getElem?_eq_some_iff.1 hq).1
   simp at this;omega
  subst hi2
  simp at hq
  subst hq
  exact⟨A,c,ys,by rw[List.getElem?_append_right (by rw[h.len];exact Nat.le_refl _),h.len];simp,by rw[List.getElem?_append_right (by rw[h.len];omega),h.len];simp,hc,hm,hH,hE⟩
end
def NewB (b0 b1 b:Nat):Prop:=b0≤b∧b<b1
structure RowA (w:World) (base:Nat) (E:TypeId) (v:Value) (xs:List Value) (L:List EA):Prop where
 own:w.ownsRow base E 2 v L.length xs
 attrs:EAsP w (fun b=>base≤b∧b<w.heap.size∧some b≠v.ownBlock) xs L
structure RowN (w:World) (base:Nat) (E:TypeId) (v:Value) (xs:List Value) (L:List EN):Prop where
 own:w.ownsRow base E 2 v L.length xs
 ents:ENsP w (fun b=>base≤b∧b<w.heap.size∧some b≠v.ownBlock) xs L
section
variable {w w':World} {base:Nat} {E:TypeId} {v v':Value} {xs:List Value}
theorem RowA.start (h:w.ownsRow base E 2 v 0 []):RowA w base E v [] []:=⟨h,EAsP.nil⟩
theorem RowN.start (h:w.ownsRow base E 2 v 0 []):RowN w base E v [] []:=⟨h,ENsP.nil⟩
theorem RowA.below {L:List EA} (h:RowA w base E v xs L) (hb:Below w.heap.size w w'):RowA w' base E v xs L:=
 ⟨own_below h.own hb,h.attrs.move (fun p hp=>hb.cell hp.2.1) fun b hb2=>⟨hb2.1,Nat.lt_of_lt_of_le hb2.2.1 hb.size,hb2.2.2⟩⟩
theorem RowN.below {L:List EN} (h:RowN w base E v xs L) (hb:Below w.heap.size w w'):RowN w' base E v xs L:=
 ⟨own_below h.own hb,h.ents.move (fun p hp=>hb.cell hp.2.1) fun b hb2=>⟨hb2.1,Nat.lt_of_lt_of_le hb2.2.1 hb.size,hb2.2.2⟩⟩
theorem RowA.alloc {L:List EA} (h:RowA w base E v xs L) (o:Obj):RowA (w.alloc o) base E v xs L:=h.below ((Below.refl _ _).alloc (Nat.le_refl _) o)
theorem grown_cells {row:Option Nat} (hg:w.grownBy w' row):∀p:Addr,(base≤p.block∧p.block<w.heap.size∧some p.block≠row)→w'.cell? p=w.cell? p:=
 fun p hp=>World.cell?_of_block (hg.block _ hp.2.1 hp.2.2)
theorem grown_off (hg:w.grownBy w' v.ownBlock) (ht:v'.ownBlock=v.ownBlock∨v'.ownBlock=some w.heap.size):∀b,(base≤b∧b<w.heap.size∧some b≠v.ownBlock)→base≤b∧b<w'.heap.size∧some b≠v'.ownBlock:=fun b hb=>by
 refine⟨hb.1,Nat.lt_of_lt_of_le hb.2.1 hg.size,?_⟩
 rcases ht with ht | ht
 ·rw [ht];exact hb.2.2
 ·rw [ht];intro e;have:=Option.some.inj e;omega
theorem RowA.snoc {L:List EA} (h:RowA w base E v xs L) {a:EA} {A:Option Addr} {c:Nat} (hc:a.2.length≤c) (hm:c≤maxLen) (hH:HasP w (fun b=>base≤b∧b<w.heap.size∧some b≠v.ownBlock) 1 A a.2.length (strs a.2))
  (hown:w'.ownsRow base E 2 v' (L.length+1) (xs++[.string (txt a.1),.slice A a.2.length c])) (hg:w.grownBy w' v.ownBlock) (ht:v'.ownBlock=v.ownBlock∨v'.ownBlock=some w.heap.size):
  RowA w' base E v' (xs++[.string (txt a.1),.slice A a.2.length c]) (L++[a]):=
 ⟨by rw[List.length_append];exact hown,(h.attrs.move (grown_cells hg) (grown_off hg ht)).snoc hc hm (hH.move (grown_cells hg) (grown_off hg ht))⟩
theorem RowN.snoc {L:List EN} (h:RowN w base E v xs L) {a:EN} {A:Option Addr} {c:Nat} {ys:List Value} (hc:a.2.length≤c) (hm:c≤maxLen) (hH:HasP w (fun b=>base≤b∧b<w.heap.size∧some b≠v.ownBlock) 2 A a.2.length ys)
  (hE:EAsP w (fun b=>base≤b∧b<w.heap.size∧some b≠v.ownBlock) ys a.2)
  (hown:w'.ownsRow base E 2 v' (L.length+1) (xs++[.string (txt a.1),.slice A a.2.length c])) (hg:w.grownBy w' v.ownBlock) (ht:v'.ownBlock=v.ownBlock∨v'.ownBlock=some w.heap.size):
  RowN w' base E v' (xs++[.string (txt a.1),.slice A a.2.length c]) (L++[a]):=
 ⟨by rw[List.length_append];exact hown,(h.ents.move (grown_cells hg) (grown_off hg ht)).snoc hc hm (hH.move (grown_cells hg) (grown_off hg ht)) (hE.move (grown_cells hg) (grown_off hg ht))⟩
theorem new_off {n size:Nat} {w0:World} (ho:w0.ownsRow base E size v n xs) (hb:base≤w0.heap.size) {b1:Nat}:∀b,NewB w0.heap.size b1 b→base≤b∧b<b1∧some b≠v.ownBlock:=fun b h=>by
 refine⟨Nat.le_trans hb h.1,h.2,fun e=>?_⟩
 have:=(ho.lt b e.symm).2
 have:=h.1
 omega
structure AttrsPost (X:List EA) (w:World) (e:Ending) (w':World):Prop where
 out:∃A c ys,e=.returned (.slice A X.length c)∧X.length≤c∧c≤maxLen∧HasP w' (NewB w.heap.size w'.heap.size) 2 A X.length ys∧EAsP w' (NewB w.heap.size w'.heap.size) ys X∧Below w.heap.size w w'
structure EntsPost (X:List EN) (w:World) (e:Ending) (w':World):Prop where
 out:∃A c ys,e=.returned (.slice A X.length c)∧X.length≤c∧c≤maxLen∧HasP w' (NewB w.heap.size w'.heap.size) 2 A X.length ys∧ENsP w' (NewB w.heap.size w'.heap.size) ys X∧Below w.heap.size w w'
structure NewTexts (R:List (List UInt8)) (w:World) (e:Ending) (w':World):Prop where
 out:∃A c,e=.returned (.slice A R.length c)∧R.length≤c∧c≤maxLen∧HasP w' (NewB w.heap.size w'.heap.size) 1 A R.length (strs R)∧Below w.heap.size w w'
theorem own_most {n size:Nat} {A:Option Addr} {c:Nat} (h:w.ownsRow base E size (.slice A n c) n xs):c≤maxLen:=(own_caps h).2
theorem RowA.told {L:List EA} {w0:World} (h:RowA w w0.heap.size E v xs L) (hb:Below w0.heap.size w0 w):AttrsPost L w0 (.returned v) w:=by
 obtain⟨A,c,rfl,hc,hH⟩:=own_formP h.own
 exact⟨⟨A,c,xs,rfl,hc,own_most h.own,hH.move (fun p _=>rfl) fun b hb=>hb,h.attrs.move (fun p _=>rfl) fun b hb=>⟨hb.1,hb.2.1⟩,hb⟩⟩
theorem RowN.told {L:List EN} {w0:World} (h:RowN w w0.heap.size E v xs L) (hb:Below w0.heap.size w0 w):EntsPost L w0 (.returned v) w:=by
 obtain⟨A,c,rfl,hc,hH⟩:=own_formP h.own
 exact⟨⟨A,c,xs,rfl,hc,own_most h.own,hH.move (fun p _=>rfl) fun b hb=>hb,h.ents.move (fun p _=>rfl) fun b hb=>⟨hb.1,hb.2.1⟩,hb⟩⟩
end
end Go.Proofs.YtjjepcnijmlliaaGreatDoor
namespace Go.Proofs.YtjjepcnijmlliaaGreatDoor
open Go.RowKit
set_option linter.unusedVariables false
set_option linter.unusedSimpArgs false
section
variable {α:Type} (f:α→Nat)
theorem sum_take {l:List α} {i:Nat} {x:α} (h:l[i]?=some x):((l.take (i+1)).map f).sum=((l.take i).map f).sum+f x:=by
 rw[List.take_add_one,h]
 simp
theorem sum_take_le (l:List α) (i:Nat):((l.take i).map f).sum≤(l.map f).sum:=by
 conv=>rhs;rw[←List.take_append_drop i l]
 rw[List.map_append,List.sum_append]
 omega
theorem sum_bound:∀(l:List α) (B:Nat),(∀x∈l,f x≤B)→(l.map f).sum≤l.length*B
 | [],B,_=>by simp
 | x::l,B,h=>by
  have h1:=h x (by simp)
  have h2:=sum_bound l B fun y hy=>h y (by simp[hy])
  simp only[List.map_cons,List.sum_cons,List.length_cons,Nat.succ_mul]
  omega
theorem sum_mem:∀{l:List α} {x:α},x∈l→f x≤(l.map f).sum
 | y::l,x,h=>by
  simp only[List.map_cons,List.sum_cons]
  rcases List.mem_cons.1 h with rfl | h
  ·omega
  ·have:=sum_mem h;omega
theorem sum_len:∀(l:List α),(∀x∈l,1≤f x)→l.length≤(l.map f).sum
 | [],_=>by simp
 | x::l,h=>by
  have h1:=h x (by simp)
  have h2:=sum_len l fun y hy=>h y (by simp[hy])
  simp only[List.map_cons,List.sum_cons,List.length_cons]
  omega
end
def vW (x:List UInt8):Nat:=x.length/100
def aW (a:EA):Nat:=1+a.2.length+(a.2.map vW).sum
def eW (e:EN):Nat:=1+e.1.length/100+(e.2.map aW).sum
def nW (L:List EN):Nat:=(L.map eW).sum
def BulkN (e:EN):Prop:=e.1.length≤1048576∧e.2.length≤1048576∧∀a∈e.2,a.2.length≤1048576∧∀u∈a.2,u.length≤1048576
theorem aW_bulk {a:EA} (h:a.2.length≤1048576∧∀u∈a.2,u.length≤1048576):aW a≤11000000000:=by
 have h1:=sum_bound vW a.2 10486 fun u hu=>by have:=h.2 u hu;unfold vW;omega
 have h2:a.2.length*10486≤1048576*10486:=Nat.mul_le_mul_right _ h.1
 unfold aW
 have:=h.1
 omega
theorem eW_bulk {e:EN} (h:BulkN e):eW e≤19000000000000000:=by
 have h1:=sum_bound aW e.2 11000000000 fun a ha=>aW_bulk (h.2.2 a ha)
 have h2:e.2.length*11000000000≤1048576*11000000000:=Nat.mul_le_mul_right _ h.2.1
 unfold eW
 have:=h.1
 omega
structure SmallN (L:List EN):Prop where
 len:L.length≤3000
 name:∀e∈L,e.1.length≤400000
 attrs:∀e∈L,e.2.length≤3000
 each:∀e∈L,∀a∈e.2,a.2.length≤3000∧∀u∈a.2,u.length≤400000
theorem small_ofN {L:List EN} (h:nW L≤3000):SmallN L:=by
 have he:∀e∈L,eW e≤3000:=fun e hm=>Nat.le_trans (sum_mem eW hm) h
 refine⟨Nat.le_trans (sum_len eW L fun e _=>by unfold eW;omega) h,fun e hm=>?_,fun e hm=>?_,fun e hm a ha=>?_⟩
 ·have:=he e hm
  unfold eW at this
  omega
 ·have:=he e hm
  have h2:=sum_len aW e.2 fun a _=>by unfold aW;omega
  unfold eW at this
  omega
 ·have:=he e hm
  have h2:=sum_mem aW ha
  unfold eW at this
  have h3:aW a≤3000:=by omega
  unfold aW at h3
  refine⟨by omega,fun u hu=>?_⟩
  have:=sum_mem vW hu
  unfold vW at this h3
  omega
theorem rsmallE_all (L:List EN) (w:World) (A:Option Addr) (n c:Nat) (xs:List Value) (hA:Has w w.heap.size 2 A n xs) (hL:ENs w w.heap.size xs L) (hn:n≤1048576) (hs:∀e∈L,BulkN e):
  Calls Tryz.prog 25 #[.slice A n c] w fun e w'=>e=.returned (.bool (decide (nW L≤3000)))∧w'=w:=by
 have hnl:=hA.ens_n hL
 obtain⟨b,hb⟩:∃b,decide (nW L≤3000)=b:=⟨_,rfl⟩
 rw[hb]
 have Hb:=hide hb
 have HA:=hide hA
 have HL:=hide hL
 have HN:=hide hnl
 have HS:=hide hs
 clear hA hL hnl hs hb
 go_enter Tryz.func25,Tryz.ntmps25
 go_wp2
 go_loopg [3,9] n (fun r s3 s9 wx=>∃i p:Nat,i+r=n∧s9=.int .i64 (i:Int)∧s3=.int .i64 (p:Int)∧p≤3000∧Hid (p=nW (L.take i))∧wx=w)
 case atStart=>exact⟨0,0,by omega,rfl,rfl,by omega,hide (by simp[nW]),rfl⟩
 case round=>
  obtain⟨i,p,hig,rfl,rfl,hp3,hpre,rfl⟩:=hrel
  cases gk with
  | zero=>
   obtain rfl:n=i:=by omega
   have hiz:¬((n:Int)<(n:Int)):=by omega
   have hbt:Hid (b=true):=hide (by
    rw[←Hb.out]
    have:=hpre.out
    rw[List.take_of_length_le (by rw[HN.out];exact Nat.le_refl _)] at this
    exact decide_eq_true (by omega))
   clear HA HL HN HS hpre Hb
   go_wp2
   go_ret
   exact⟨by rw[hbt.out];rfl,rfl⟩
  | succ r=>
   have hi:i<n:=by omega
   have hiz:(i:Int)<(n:Int):=by omega
   obtain⟨e,he⟩:∃e,L[i]?=some e:=⟨_,List.getElem?_eq_getElem (by rw[←HN.out];exact hi)⟩
   obtain⟨g,o,hAe,hg,hat⟩:=HA.out.en HL.out (fun h=>by rw[h] at he;simp at he)
   subst hAe
   obtain⟨V,cv,ys,hai⟩:=hat i e he
   have e0:=hai.e0
   have e1:=hai.e1
   have hbe:=HS.out e (List.mem_of_getElem? he)
   have hlim:=eW_bulk hbe
   obtain⟨dl,hdl⟩:∃dl,e.1.length/100=dl:=⟨_,rfl⟩
   have hnext:=sum_take eW he
   obtain⟨m,hm⟩:∃m,e.2.length=m:=⟨_,rfl⟩
   rw[hm] at e1
   have Hst:Hid (∀j,p+1+dl+((e.2.take j).map aW).sum≤20000000000000000):=hide fun j=>by
    have:=sum_take_le aW e.2 j
    unfold eW at hlim
    omega
   have Hnx:Hid (p+1+dl+(e.2.map aW).sum=nW (L.take (i+1))):=hide (by
    have:=hpre.out
    unfold nW at this ⊢
    rw[hnext]
    unfold eW at this ⊢
    omega)
   have Hle:Hid (nW (L.take (i+1))≤nW L):=hide (sum_take_le eW L (i+1))
   have hm6:m≤1048576:=by rw[←hm];exact hbe.2.1
   have hsz:=txt_size e.1
   have hl6:=hbe.1
   have hsz6:(txt e.1).size≤1048576:=by omega
   have d2:Int.tdiv ((txt e.1).size:Int) 100=(dl:Int):=by rw[Int.tdiv_eq_ediv_of_nonneg (by omega)];omega
   have hdl6:dl≤20000:=by omega
   have Hm:=hide hm
   have Ha:=hide hai.attrs
   have Hh:Hid (Has wr wr.heap.size 2 V m ys):=hide (by rw[←hm];exact hai.has)
   have Hbe:=hide hbe
   have hstart:Hid (p+1+dl=p+1+dl+((e.2.take 0).map aW).sum):=hide (by simp)
   clear hai hat hm he hbe hlim hnext hdl hl6 hsz hpre
   generalize txt e.1=T at *
   go_wp2
   go_loopg [3,28] m (fun r2 s3 s28 wx=>∃j q:Nat,j+r2=m∧s28=.int .i64 (j:Int)∧s3=.int .i64 (q:Int)∧q≤20000000000000000∧Hid (q=p+1+dl+((e.2.take j).map aW).sum)∧wx=wr)
   case atStart=>exact⟨0,p+1+dl,by omega,rfl,by go_num,by have:=Hst.out 0;simp at this;omega,hstart,rfl⟩
   case round=>
    obtain⟨j,q,hjg,rfl,rfl,hq9,hpre,hw⟩:=hrel
    obtain rfl:=hw.symm
    clear hw
    cases gk with
    | zero=>
     obtain rfl:m=j:=by omega
     have hjz:¬((m:Int)<(m:Int)):=by omega
     have hqe:Hid (q=nW (L.take (i+1))):=hide (by
      have:=hpre.out
      rw[List.take_of_length_le (by rw[Hm.out];exact Nat.le_refl _)] at this
      rw[this]
      exact Hnx.out)
     clear Ha Hh Hbe Hm Hst Hnx hpre hstart
     by_cases hy:3000<q
     ·have hyz:(3000:Int)<(q:Int):=by omega
      have hbf:Hid (b=false):=hide (by
       rw[←Hb.out]
       refine decide_eq_false ?_
       have h1:=hqe.out
       have h2:=Hle.out
       omega)
      clear hqe Hle HA HL HN HS Hb
      go_wp2
      go_ret
      exact⟨by rw[hbf.out];rfl,rfl⟩
     ·have hyz:¬(3000:Int)<(q:Int):=by omega
      clear Hle
      go_wp2
      go_roundg r
      case measure=>omega
      case rel=>exact⟨i+1,q,by omega,by go_num,rfl,by omega,hqe,rfl⟩
    | succ r2=>
     have hj:j<m:=by omega
     have hjz:(j:Int)<(m:Int):=by omega
     obtain⟨a,ha⟩:∃a,e.2[j]?=some a:=⟨_,List.getElem?_eq_getElem (by rw[Hm.out];exact hj)⟩
     obtain⟨g2,o2,hVe,hg2,hat2⟩:=Hh.out.ea Ha.out (fun h=>by rw[h] at ha;simp at ha)
     subst hVe
     obtain⟨U,cu,hai2⟩:=hat2 j a ha
     have f1:=hai2.e1
     have hba:=Hbe.out.2.2 a (List.mem_of_getElem? ha)
     have hnext:=sum_take aW ha
     obtain⟨k,hk⟩:∃k,a.2.length=k:=⟨_,rfl⟩
     rw[hk] at f1
     have hlim:=Hst.out (j+1)
     have hpo:=hpre.out
     have Hnx2:Hid (q+1+k+(a.2.map vW).sum=p+1+dl+((e.2.take (j+1)).map aW).sum):=hide (by
      rw[hnext,hpo]
      unfold aW
      rw[hk]
      omega)
     have Hst2:Hid (∀l,q+1+k+((a.2.take l).map vW).sum≤20000000000000000):=hide fun l=>by
      have:=sum_take_le vW a.2 l
      have:=Hnx2.out
      omega
     have hk6:k≤1048576:=by rw[←hk];exact hba.1
     have Hk:=hide hk
     have Hu:Hid (Has wr wr.heap.size 1 U k (strs a.2)):=hide (by rw[←hk];exact hai2.has)
     have Hba:=hide hba
     have hstart2:Hid (q+1+k=q+1+k+((a.2.take 0).map vW).sum):=hide (by simp)
     clear hai2 hat2 hk ha hba hnext hlim hpo hpre
     go_wp2
     go_loopg [3,54] k (fun r3 s3 s54 wx=>∃l z:Nat,l+r3=k∧s54=.int .i64 (l:Int)∧s3=.int .i64 (z:Int)∧z≤20000000000000000∧Hid (z=q+1+k+((a.2.take l).map vW).sum)∧wx=wr)
     case atStart=>exact⟨0,q+1+k,by omega,rfl,by go_num,by have:=Hst2.out 0;simp at this;omega,hstart2,rfl⟩
     case round=>
      obtain⟨l,z,hlg,rfl,rfl,hz9,hpre,hw⟩:=hrel
      obtain rfl:=hw.symm
      clear hw
      cases gk with
      | zero=>
       obtain rfl:k=l:=by omega
       have hlz:¬((k:Int)<(k:Int)):=by omega
       have hze:Hid (z=p+1+dl+((e.2.take (j+1)).map aW).sum):=hide (by
        have:=hpre.out
        rw[List.take_of_length_le (by rw[Hk.out];exact Nat.le_refl _)] at this
        rw[this]
        exact Hnx2.out)
       clear Hu Hk Hba Hst2 Hnx2 hpre hstart2
       go_wp2
       go_roundg r2
       case measure=>omega
       case rel=>exact⟨j+1,z,by omega,by go_num,rfl,hz9,hze,rfl⟩
      | succ r3=>
       have hl:l<k:=by omega
       have hlz:(l:Int)<(k:Int):=by omega
       obtain⟨v,hv⟩:∃v,a.2[l]?=some v:=⟨_,List.getElem?_eq_getElem (by rw[Hk.out];exact hl)⟩
       obtain⟨g3,o3,hUe,hg3,hat3⟩:=Hu.out.texts (fun h=>by rw[h] at hv;simp at hv)
       subst hUe
       have d0:=hat3 l v hv
       have hvs:=txt_size v
       have hv6:=Hba.out.2 v (List.mem_of_getElem? hv)
       have hnext:=sum_take vW hv
       have hlim:=Hst2.out (l+1)
       have hpo:=hpre.out
       obtain⟨dv,hdv⟩:∃dv,v.length/100=dv:=⟨_,rfl⟩
       have hz2:Hid (z+dv=q+1+k+((a.2.take (l+1)).map vW).sum):=hide (by rw[hnext];unfold vW at hpo ⊢;rw[hdv];omega)
       have hzl:z+dv≤20000000000000000:=by rw[hz2.out];exact hlim
       have d2:Int.tdiv ((txt v).size:Int) 100=(dv:Int):=by rw[Int.tdiv_eq_ediv_of_nonneg (by omega)];omega
       have hvs6:(txt v).size≤1048576:=by omega
       generalize txt v=SV at *
       clear hat3 hv hvs hv6 hnext hlim hpo hdv hpre Hst2 Hnx2 Hba hstart2
       go_wp2
       go_roundg r3
       case measure=>omega
       case rel=>exact⟨l+1,z+dv,by omega,by go_num,by go_num,hzl,hz2,rfl⟩
end Go.Proofs.YtjjepcnijmlliaaGreatDoor
namespace Go.Proofs.YtjjepcnijmlliaaGreatDoor
open Go.RowKit
set_option linter.unusedVariables false
set_option linter.unusedSimpArgs false
theorem texts_own {w w':World} {v:Value} {R:List (List UInt8)} (h:w'.ownsRow w.heap.size 9 1 v R.length (strs R)) (hb:Below w.heap.size w w'):NewTexts R w (.returned v) w':=by
 obtain⟨A,c,rfl,hc,hH⟩:=own_formP h
 exact⟨⟨A,c,rfl,hc,own_most h,hH,hb⟩⟩
theorem pcopied_any (L:List (List UInt8)) (w:World) (A:Option Addr) (n c:Nat) (hA:Has w w.heap.size 1 A n (strs L)) (hn:n≤1000000) (hs:∀v∈L,v.length≤1000000):
  Calls Tryz.prog 79 #[.slice A n c] w (NewTexts L w):=by
 have hnl:=hA.strs_n
 suffices H:Calls Tryz.prog 79 #[.slice A n c] w fun e w'=>∃v,e=.returned v∧w'.ownsRow w.heap.size 9 1 v L.length (strs L)∧Below w.heap.size w w' from H.mono fun e w' ⟨v,h1,h2,h3⟩=>by
  subst h1
  exact texts_own h2 h3
 obtain⟨wm,hmake,hom,hbm⟩:=makeS w n hn
 have HA:=hide hA
 have HN:=hide hnl
 have HS:=hide hs
 have HB:=hide hbm
 have Ho:=hide hom
 clear hA hnl hs hbm hom
 go_enter Tryz.func79,Tryz.ntmps79
 go_wp2
 go_loopg [3,11] n (fun k s3 s11 wx=>∃i:Nat,i+k=n∧s11=.int .i64 (i:Int)∧Hid (wx.ownsRow w.heap.size 9 1 s3 i (strs (L.take i)))∧Hid (Below w.heap.size w wx))
 case atStart=>exact⟨0,by omega,rfl,Ho,HB⟩
 case round=>
  obtain⟨i,hig,rfl,hor,hbr⟩:=hrel
  clear hmake HB Ho
  cases gk with
  | zero=>
   obtain rfl:i=n:=by omega
   have hiz:¬((i:Int)<(i:Int)):=by omega
   have ho:=hor.out
   rw[List.take_of_length_le (by rw[←HN.out];exact Nat.le_refl _)] at ho
   have Ho:Hid (wr.ownsRow w.heap.size 9 1 u3 L.length (strs L)):=hide (by rw[←HN.out];exact ho)
   clear HA HN HS hor ho
   go_wp2
   go_ret
   exact⟨_,rfl,Ho.out,hbr.out⟩
  | succ k=>
   have hi:i<n:=by omega
   have hiz:(i:Int)<(n:Int):=by omega
   obtain⟨v,hv⟩:∃v,L[i]?=some v:=⟨_,List.getElem?_eq_getElem (by rw[←HN.out];exact hi)⟩
   obtain⟨g,o,hAe,hg,hat⟩:=HA.out.texts (fun h=>by rw[h] at hv;simp at hv)
   subst hAe
   have x0:=(hbr.out.cell (p:=⟨g,o+i,none⟩) hg).trans (hat i v hv)
   have hsz:=HS.out v (List.mem_of_getElem? hv)
   have hC:=fun w=>clone_any (txt v) (by rw[txt_size];omega) w
   have Htk:Hid (strs (L.take (i+1))=strs (L.take i)++[.string (txt v)]):=hide (by rw[List.take_add_one,hv];simp[strs])
   have HC:=hide hC
   generalize txt v=X at *
   clear hat hv hsz hC HA HS HN
   go_wp2_with (go_at_call 29;fail)
   refine (HC.out _).mono ?_
   rintro e w4 ⟨rfl,hb4⟩
   have hor4:=own_below hor.out hb4
   have hB4:=hbr.out.trans (hb4.mono hbr.out.size)
   clear hor hb4 hbr HC x0
   have hone:=litS w4 X
   have hH:=Has.own hone
   have hor5:=hor4.alloc (.cells #[.string X] 9)
   have hB5:=hide (hB4.alloc hB4.size (.cells #[.string X] 9))
   have hs5:=hB5.out.size
   have h1c:∀u∈[Value.string X],u.oneCell'=true:=by simp[Value.oneCell']
   clear hone hor4 hB4
   go_wp2_with (at_builtin;go_must (refine appE _ 40 9 _ 1 16 Tryz.underlying40 infoS rfl (by omega) (by omega) rfl (.tmp 15) (.tmp 18) rfl w.heap.size _ i (strs (L.take i)) rfl hor5 _ _ 1 1 [.string X] rfl hH h1c (by omega) hs5 ?_))
   intro v' w6 hor6 hb6 _
   have hB6:=hide (hB5.out.trans hb6)
   rw[←Htk.out] at hor6
   have Hor6:=hide hor6
   clear hor5 hB5 hs5 hH hb6 h1c Htk hor6
   go_wp2
   go_roundg k
   case measure=>omega
   case rel=>exact⟨i+1,by omega,by go_num,Hor6,hB6⟩
theorem pvalues_any (nm:List UInt8) (L:List EA) (name:List UInt8) (w:World) (A:Option Addr) (n c:Nat) (xs:List Value) (hA:Has w w.heap.size 2 A n xs) (hL:EAs w w.heap.size xs L) (hn:n≤1000000)
  (hvs:∀a∈L,a.2.length≤1000000∧∀u∈a.2,u.length≤1000000) (hT:TM w):
  Calls Tryz.prog 54 #[.agg #[.string (txt nm),.slice A n c],.string (txt name)] w (NewTexts (valuesE L name) w):=by
 have hb1:=below1 w (.cells #[.string (txt nm),.slice A n c] 33)
 have hX:=BoxE.new w (txt nm) A n c 33
 have hV:=pvals_any nm L name _ A n c xs ((hA.below hb1).upto hb1.size) (hL.grow hb1) hn (hT.below hb1)
 have hlen:(valuesE L name).length≤1000000∧∀u∈valuesE L name,u.length≤1000000:=by
  unfold valuesE
  split
  ·simp
  ·rcases pick_mem L (typ name).1 with h | ⟨a,ha,h⟩
   ·rw [h];simp
   ·rw [h];exact hvs a ha
 have hC:=fun w A c hh=>pcopied_any (valuesE L name) w A (valuesE L name).length c hh hlen.1 hlen.2
 have x0:=hX.c0
 have x1:=hX.c1
 generalize valuesE L name=R at *
 have HV:=hide hV
 have HC:=hide hC
 have HB:=hide hb1
 generalize txt nm=SN at *
 generalize txt name=S at *
 clear hA hL hn hvs hT hX hlen hV hC hb1
 generalize hm:R.length=m at *
 have Hm:=hide hm
 clear hm
 go_enter Tryz.func54,Tryz.ntmps54
 go_wp2_with (go_at_call 49;fail)
 refine HV.out.mono ?_
 rintro e w2 hpost
 obtain⟨A2,c2,rfl,hh2,_,_,hb2⟩:=hpost.out
 have HB2:=hide (HB.out.trans (hb2.mono HB.out.size))
 have HH:=hide hh2
 rw[Hm.out] at HH ⊢
 clear hpost HV hb2 HB x0 x1 hh2
 go_wp2_with (go_at_call 79;fail)
 refine (HC.out _ _ _ HH.out).mono ?_
 rintro e w3 hpost
 obtain⟨A3,c3,rfl,hc3,hm3,hh3,hb3⟩:=hpost.out
 have HB3:=hide (HB2.out.trans (hb3.mono HB2.out.size))
 have H3:=hide (And.intro hc3 (And.intro hm3 (hh3.move (P':=NewB w.heap.size w3.heap.size) (fun p _=>rfl) fun b hb=>⟨Nat.le_trans HB2.out.size hb.1,hb.2⟩)))
 rw[Hm.out] at H3 ⊢
 clear hpost HC HH hb3 HB2 hc3 hm3 hh3
 go_wp2
 go_ret
 exact⟨⟨A3,c3,by rw[Hm.out];rfl,by rw[Hm.out];exact H3.out.1,H3.out.2.1,by rw[Hm.out];exact H3.out.2.2,HB3.out⟩⟩
end Go.Proofs.YtjjepcnijmlliaaGreatDoor
namespace Go.Proofs.YtjjepcnijmlliaaGreatDoor
open Go.RowKit
set_option linter.unusedVariables false
set_option linter.unusedSimpArgs false
theorem mayread_any (R:List Ru) (s nm at_:List UInt8) (w:World) (AR:Option Addr) (m cR:Nat) (hR:Has w w.heap.size 5 AR m (rusC R)) (hsm:∀r∈R,r.small) (hs:s.length≤1000000) (hn:nm.length≤1000000) (hm:m≤1000000) (hT:TM w):
  Calls Tryz.prog 51 #[.agg #[.slice AR m cR,.string (txt s)],.string (txt nm),.string (txt at_)] w fun e w'=>e=.returned (.bool (decideV R s 1 nm at_))∧Below w.heap.size w w':=by
 have hb1:=below1 w (.cells #[.slice AR m cR,.string (txt s)] 64)
 have hX:=Blk.new w [.slice AR m cR,.string (txt s)] 64
 have x0:=hX.cells 0 _ rfl
 have x1:=hX.cells 1 _ rfl
 have hD:=decide_any R s 1 nm at_ _ AR m cR ((hR.below hb1).upto hb1.size) hsm hs hn hm (hT.below hb1)
 have HD:=hide hD
 have HB:=hide hb1
 generalize decideV R s 1 nm at_=B at *
 generalize txt s=S at *
 generalize txt nm=U at *
 generalize txt at_=V at *
 clear hb1 hX hD hR hsm hs hn hm hT
 go_enter Tryz.func51,Tryz.ntmps51
 go_wp2_with (go_at_call 18;fail)
 refine HD.out.mono ?_
 rintro e w2 ⟨rfl,hb2⟩
 have HB2:=hide (HB.out.trans (hb2.mono HB.out.size))
 clear hb2 HB HD x0 x1
 go_wp2
 go_ret
 exact⟨rfl,HB2.out⟩
theorem reaches_any (R:List Ru) (s nm:List UInt8) (w:World) (AR:Option Addr) (m cR:Nat) (hR:Has w w.heap.size 5 AR m (rusC R)) (hsm:∀r∈R,r.small) (hs:s.length≤1000000) (hn:nm.length≤1000000) (hm:m≤1000000) (hT:TM w):
  Calls Tryz.prog 28 #[.agg #[.slice AR m cR,.string (txt s)],.string (txt nm)] w fun e w'=>e=.returned (.bool (reachV R s nm))∧Below w.heap.size w w':=by
 have hb1:=below1 w (.cells #[.slice AR m cR,.string (txt s)] 64)
 have hX:=Blk.new w [.slice AR m cR,.string (txt s)] 64
 obtain⟨B,hB⟩:∃B,reachV R s nm=B:=⟨_,rfl⟩
 rw[hB]
 have hM:∀n:List UInt8,n.length≤1000000→∀w,Has w w.heap.size 5 AR m (rusC R)→TM w→Calls Tryz.prog 51 #[.agg #[.slice AR m cR,.string (txt s)],.string (txt n),.string ⟨#[]⟩] w fun e w'=>e=.returned (.bool (decideV R s 1 n []))∧Below w.heap.size w w':=
  fun n hn w hR hT=>mayread_any R s n [] w AR m cR hR hsm hs hn hm hT
 have hR1:=(hR.below hb1).upto hb1.size
 have hT1:=hT.below hb1
 have h0:(w.alloc (.cells [.slice AR m cR,.string (txt s)].toArray 64))=(w.alloc (.cells #[.slice AR m cR,.string (txt s)] 64)):=rfl
 rw[h0] at hX
 obtain⟨w1,hw1⟩:∃w1,w.alloc (.cells #[.slice AR m cR,.string (txt s)] 64)=w1:=⟨_,rfl⟩
 rw[hw1] at hb1 hX hR1 hT1
 have HM:=hide hM
 have HX:=hide hX
 have HB:=hide hb1
 have HR:=hide hR1
 have HT:=hide hT1
 have Hk:Hid (reachK R s 13 nm=B):=hide hB
 have Hs:Hid (stepsV nm≤13):=hide (steps_le nm)
 have Hw1:=hide hw1
 clear hM hX hb1 hR1 hT1 hB hw1 h0 hR hT hsm
 generalize txt s=S at *
 go_enter Tryz.func28,Tryz.ntmps28
 go_wp2
 rw[Hw1.out]
 go_loopg [1] 13 (fun k s1 wx=>∃n:List UInt8,s1=.string (txt n)∧n.length≤1000000∧Hid (reachK R s k n=B)∧Hid (stepsV n≤k)∧Hid (Below w1.heap.size w1 wx))
 case atStart=>exact⟨nm,rfl,hn,Hk,Hs,hide (Below.refl _ _)⟩
 case round=>
  obtain⟨n,rfl,hnl,hk,hst,hbr⟩:=hrel
  clear Hk Hs Hw1
  have hXr:=HX.out.grow hbr.out
  have x0:=hXr.cells 0 _ rfl
  have x1:=hXr.cells 1 _ rfl
  have q1:((txt n).toList==[])=(n==[]):=toeq _ _
  have hbw:=HB.out.trans (hbr.out.mono HB.out.size)
  have HBr:=hide hbw
  by_cases hn0:n=[]
  ·have hB1:Hid (B=true):=hide (by rw[←hk.out,hn0];exact reach_nil _ _ _)
   have e1:(n==[])=true:=by rw[hn0];rfl
   rw[e1] at q1
   have q2:((txt n).toList !=[])=false:=by unfold bne;rw[q1];rfl
   generalize txt n=U at *
   clear hk hst hbr HM HX HB HR HT hXr x0 x1 hbw hn0 e1
   go_wp2
   go_ret
   exact⟨by rw[hB1.out];rfl,HBr.out⟩
  ·cases gk with
   | zero=>exact absurd (steps_zero hst.out) hn0
   | succ r=>
    have e1:(n==[])=false:=by simpa using hn0
    rw[e1] at q1
    have q2:((txt n).toList !=[])=true:=by unfold bne;rw[q1];rfl
    have hk2:(decideV R s 1 n []&&reachK R s r (parentV n).1)=B:=by
     have:=hk.out
     rw[reachK.eq_2,if_neg hn0] at this
     exact this
    have hstn:=steps_next hn0
    have Hst2:Hid (stepsV (parentV n).1≤r):=hide (by have:=hst.out;omega)
    have hcall:=HM.out n hnl wr ((HR.out.below hbr.out).upto hbr.out.size) (HT.out.below hbr.out)
    have hpar:=fun w hT=>pparent_any n hnl w hT
    have Hps:=hide (parent_short n)
    have Hcall:=hide hcall
    have Hpar:=hide hpar
    have HTr:=hide (HT.out.below hbr.out)
    generalize decideV R s 1 n []=d at *
    obtain⟨p,hp⟩:∃p,(parentV n).1=p:=⟨_,rfl⟩
    rw[hp] at hk2 Hst2 Hpar Hps
    have Hk2:=hide hk2
    clear hk hst hXr hbw hn0 e1 hk2 hstn hcall hpar HM hp
    generalize txt n=U at *
    generalize (parentV n).2=pb at *
    cases d with
    | false=>
     have hB1:Hid (B=false):=hide (by rw[←Hk2.out];rfl)
     clear HX HB HR HT
     go_wp2_with (go_at_call 51;fail)
     refine Hcall.out.mono ?_
     rintro e w3 ⟨rfl,hb3⟩
     have HB3:=hide (HBr.out.trans (hb3.mono HBr.out.size))
     clear hb3 HBr Hcall x0 x1 hbr
     go_wp2
     go_ret
     exact⟨by rw[hB1.out];rfl,HB3.out⟩
    | true=>
     have Hk3:Hid (reachK R s r p=B):=hide (by have:=Hk2.out;rwa [Bool.true_and] at this)
     go_wp2_with (go_at_call 51;fail)
     refine Hcall.out.mono ?_
     rintro e w3 ⟨rfl,hb3⟩
     have hbr3:=hide (hbr.out.trans (hb3.mono hbr.out.size))
     have HT3:=hide (HTr.out.below hb3)
     clear hb3 HBr Hcall x0 x1 hbr HTr HX HB HR HT Hk2
     go_wp2_with (go_at_call 52;fail)
     refine (Hpar.out _ HT3.out).mono ?_
     rintro e w4 ⟨rfl,hb4⟩
     have hbr4:=hide (hbr3.out.trans (hb4.mono hbr3.out.size))
     have hpl:p.length≤1000000:=by have:=Hps.out;omega
     clear hb4 Hpar hbr3 HT3
     go_wp2
     go_roundg r
     case measure=>omega
     case rel=>exact⟨p,rfl,hpl,Hk3,Hst2,hbr4⟩
end Go.Proofs.YtjjepcnijmlliaaGreatDoor
namespace Go.Proofs.YtjjepcnijmlliaaGreatDoor
open Go Go.RowKit
set_option linter.unusedVariables false
set_option linter.unusedSimpArgs false
def upBut (row:Option Nat) (w:World):World→Prop:=fun W=>w.grownBy W row
theorem but_of_below {w W:World} (row:Option Nat) (h:Below w.heap.size w W):upBut row w W:=⟨h.os,h.tape,h.output,h.size,fun k hk _=>h.block k hk⟩
instance butWay (row:Option Nat):Way (upBut row):=⟨fun w=>World.grownBy.refl w _,fun h k=>⟨k.os.trans h.os,k.tape.trans h.tape,k.output.trans h.output,Nat.le_trans h.size k.size,fun j hj hne=>(k.block j (Nat.lt_of_lt_of_le hj h.size) hne).trans (h.block j hj hne)⟩⟩
theorem grow_begin_but {P:Program} {ops:Array Oper} {Q:Exit→Act→World→Prop} (row:Option Nat) {id:Nat} {a:Act} {w:World} (hm:P.follows .mixedOrders=true)
  (h:wpAnyG (upBut row) P .any ops Q ops.size (Array.replicate ops.size false) a w.drew):(Code.region id ops true).wp P Q a w:=
 wp_region_any hm (wpAny_of_grow _ _ _ _ h)
theorem upBut.cell {row:Option Nat} {w W:World} (h:upBut row w W) {p:Addr} (hp:p.block<w.heap.size) (hne:some p.block≠row):W.cell? p=w.cell? p:=World.cell?_of_block (h.block _ hp hne)
theorem stepE {ops:Array Oper} {o:Oper} {a:Act} {K:Act→World→Prop} {Q:Exit→Act→World→Prop} {E:Prop} (W:World) (t e:TypeId) (z:Value) (size bytes:Nat) (hu:Tryz.prog.underlying t=some (.slice e))
  (hinf:(Tryz.prog.info? e).map (fun i=>(i.zero,i.size,i.bytes))=some (some z,size,bytes)) (hzs:z.cells.size=size) (hsz:0<size) (h32:bytes≤128)
  (d:Option Tmp) (hd:o.dst=d) (hgd:o.guard=none) (s x:Operand) (ho:o.op=.call { callee:=.builtin .append,args:=#[s,x],argTypes:=#[t,t] })
  (base:Nat) (v:Value) (n:Nat) (xs:List Value) (hs:a.eval s=v) (hown:W.ownsRow base e size v n xs)
  (B:Nat) (A:Option Addr) (m c:Nat) (l:List Value) (hx:a.eval x=.slice A m c) (hr:Has W B size A m l) (h1:∀u∈l,u.oneCell'=true)
  (hb:n+m≤2000000) (hbase:base≤W.heap.size)
  (h:∀v' w',w'.ownsRow base e size v' (n+m) (xs++l)→Below base W w'→W.grownBy w' v.ownBlock→(v'.ownBlock=v.ownBlock∨v'.ownBlock=some W.heap.size)→K (a.put d v') w'):
  if Region.wanted o (yielded ops a.tmps)=true then Oper.wp Tryz.prog o a W K Q else E:=by
 subst hd
 obtain⟨i0,hi,hz0,hz1,hz2⟩:=info_parts hinf
 have hbb:(n+m)*bytes≤140737488355328:=Nat.le_trans (Nat.mul_le_mul hb h32) (by omega)
 refine step_app W hgd s x t ho base e i0 z size bytes hu hi hz0 hz1 hz2 hzs hsz v n xs hs hown B A m c l hx hr h1 (by unfold maxLen;omega) hbb hbase ?_
 intro v' w' h1 h2 h3
 exact h v' w' h1 (below_grown hown h2 hbase) h2 h3
theorem appN {ops:Array Oper} {rest:List Oper} {o:Oper} {a:Act} {Q:Exit→Act→World→Prop} (W:World) (t e:TypeId) (z:Value) (size bytes:Nat) (hu:Tryz.prog.underlying t=some (.slice e))
  (hinf:(Tryz.prog.info? e).map (fun i=>(i.zero,i.size,i.bytes))=some (some z,size,bytes)) (hzs:z.cells.size=size) (hsz:0<size) (h32:bytes≤128)
  (hgd:o.guard=none) (s x:Operand) (ho:o.op=.call { callee:=.builtin .append,args:=#[s,x],argTypes:=#[t,t] })
  (base:Nat) (v:Value) (n:Nat) (xs:List Value) (hs:a.eval s=v) (hown:W.ownsRow base e size v n xs)
  (B:Nat) (A:Option Addr) (m c:Nat) (l:List Value) (hx:a.eval x=.slice A m c) (hr:Has W B size A m l) (h1:∀u∈l,u.oneCell'=true)
  (hb:n+m≤2000000) (hbase:base≤W.heap.size)
  (h:∀v' w',w'.ownsRow base e size v' (n+m) (xs++l)→Below base W w'→W.grownBy w' v.ownBlock→(v'.ownBlock=v.ownBlock∨v'.ownBlock=some W.heap.size)→wpList Tryz.prog ops Q rest (a.put o.dst v') w'):
  wpList Tryz.prog ops Q (o::rest) a W:=by
 obtain⟨i0,hi,hz0,hz1,hz2⟩:=info_parts hinf
 have hbb:(n+m)*bytes≤140737488355328:=Nat.le_trans (Nat.mul_le_mul hb h32) (by omega)
 refine wpList_app W hgd s x t ho base e i0 z size bytes hu hi hz0 hz1 hz2 hzs hsz v n xs hs hown B A m c l hx hr h1 (by unfold maxLen;omega) hbb hbase ?_
 intro v' w' h1 h2 h3
 exact h v' w' h1 (below_grown hown h2 hbase) h2 h3
theorem infoEA:(Tryz.prog.info? 42).map (fun i=>(i.zero,i.size,i.bytes))=some (some (.agg #[.string .empty,.slice none 0 0]),2,40):=by kernel_rfl
theorem infoEN:(Tryz.prog.info? 33).map (fun i=>(i.zero,i.size,i.bytes))=some (some (.agg #[.string .empty,.slice none 0 0]),2,40):=by kernel_rfl
section
variable {w w' w0:World} {base:Nat} {E:TypeId} {v v':Value} {xs:List Value}
theorem RowA.more {L:List EA} {w4 w5 w7:World} (hR:RowA w4 base E v xs L) (hbase:base≤w4.heap.size) (hb5:Below w4.heap.size w4 w5) {a:EA} {A:Option Addr} {c:Nat} (hc:a.2.length≤c) (hm:c≤maxLen)
  (hH:HasP w5 (NewB w4.heap.size w5.heap.size) 1 A a.2.length (strs a.2)) (C:Obj) (hown:w7.ownsRow base E 2 v' (L.length+1) (xs++[.string (txt a.1),.slice A a.2.length c])) (hg:(w5.alloc C).grownBy w7 v.ownBlock)
  (ht:v'.ownBlock=v.ownBlock∨v'.ownBlock=some (w5.alloc C).heap.size):RowA w7 base E v' (xs++[.string (txt a.1),.slice A a.2.length c]) (L++[a]):=by
 have h6:Below w5.heap.size w5 (w5.alloc C):=(Below.refl _ _).alloc (Nat.le_refl _) C
 refine ((hR.below hb5).alloc C).snoc hc hm (hH.move (fun p hp=>h6.cell hp.2) fun b hb=>?_) hown hg ht
 obtain⟨h1,h2,h3⟩:=new_off hR.own hbase b hb
 exact⟨h1,Nat.lt_of_lt_of_le h2 h6.size,h3⟩
theorem RowN.more {L:List EN} {w4 w5 w7:World} (hR:RowN w4 base E v xs L) (hbase:base≤w4.heap.size) (hb5:Below w4.heap.size w4 w5) {a:EN} {A:Option Addr} {c:Nat} {ys:List Value} (hc:a.2.length≤c) (hm:c≤maxLen)
  {w6:World} (h6:Below w5.heap.size w5 w6) (hH:HasP w5 (NewB w4.heap.size w5.heap.size) 2 A a.2.length ys) (hE:EAsP w5 (NewB w4.heap.size w5.heap.size) ys a.2) (hown:w7.ownsRow base E 2 v' (L.length+1) (xs++[.string (txt a.1),.slice A a.2.length c])) (hg:w6.grownBy w7 v.ownBlock)
  (ht:v'.ownBlock=v.ownBlock∨v'.ownBlock=some w6.heap.size):RowN w7 base E v' (xs++[.string (txt a.1),.slice A a.2.length c]) (L++[a]):=by
 have hoff:∀b,NewB w4.heap.size w5.heap.size b→base≤b∧b<w6.heap.size∧some b≠v.ownBlock:=fun b hb=>by
  obtain⟨h1,h2,h3⟩:=new_off hR.own hbase b hb
  exact⟨h1,Nat.lt_of_lt_of_le h2 h6.size,h3⟩
 exact ((hR.below hb5).below h6).snoc hc hm (hH.move (fun p hp=>h6.cell hp.2) hoff) (hE.move (fun p hp=>h6.cell hp.2) hoff) hown hg ht
theorem AttrsPost.upto {X:List EA} {e:Ending} (h:AttrsPost X w e w') (hb:Below w0.heap.size w0 w):AttrsPost X w0 e w':=by
 obtain⟨A,c,ys,h1,h2,h3,h4,h5,h6⟩:=h.out
 exact⟨⟨A,c,ys,h1,h2,h3,h4.move (fun p _=>rfl) fun b hb2=>⟨Nat.le_trans hb.size hb2.1,hb2.2⟩,h5.move (fun p _=>rfl) fun b hb2=>⟨Nat.le_trans hb.size hb2.1,hb2.2⟩,hb.trans (h6.mono hb.size)⟩⟩
theorem litY (w:World) (u0 u1:Value) (e:TypeId) (h0:u0.oneCell'=true) (h1:u1.oneCell'=true):(w.alloc (.cells #[u0,u1] e)).ownsRow w.heap.size e 2 (.slice (some ⟨w.heap.size,0,none⟩) 1 1) 1 [u0,u1]:=
 World.ownsRow_lit w #[u0,u1] 1 (Nat.le_refl _) (by unfold maxLen;omega) rfl
end
structure VC (w0 w:World) (hv he:Nat) (AR:Option Addr) (m cR:Nat) (S:ByteArray) (R:List Ru) (SN:ByteArray) (A:Option Addr) (n c:Nat) (xs:List Value) (L:List EA):Prop where
 base:Below w0.heap.size w0 w
 box:Blk w hv [.slice AR m cR,.string S]
 ebox:Blk w he [.string SN,.slice A n c]
 tm:TM w
 rules:Has w w.heap.size 5 AR m (rusC R)
 has:Has w w.heap.size 2 A n xs
 attrs:EAs w w.heap.size xs L
theorem VC.grow {w0 w w':World} {hv he:Nat} {AR:Option Addr} {m cR:Nat} {S:ByteArray} {R:List Ru} {SN:ByteArray} {A:Option Addr} {n c:Nat} {xs:List Value} {L:List EA}
  (h:VC w0 w hv he AR m cR S R SN A n c xs L) (hb:Below w.heap.size w w'):VC w0 w' hv he AR m cR S R SN A n c xs L:=
 ⟨h.base.trans (hb.mono h.base.size),h.box.grow hb,h.ebox.grow hb,h.tm.below hb,(h.rules.below hb).upto hb.size,(h.has.below hb).upto hb.size,h.attrs.grow hb⟩
noncomputable def seenF (R:List Ru) (s nm:List UInt8) (L M:List EA):List EA:=(M.filter fun a=>decideV R s 1 nm a.1).map fun a=>(a.1,valuesE L a.1)
theorem seenF_all (R:List Ru) (s nm:List UInt8) (L:List EA):seenF R s nm L L=seenA R s nm L:=rfl
theorem seenF_yes {R:List Ru} {s nm:List UInt8} {L M:List EA} {a:EA} (h:decideV R s 1 nm a.1=true):seenF R s nm L (M++[a])=seenF R s nm L M++[(a.1,valuesE L a.1)]:=by
 unfold seenF
 simp[h]
theorem seenF_no {R:List Ru} {s nm:List UInt8} {L M:List EA} {a:EA} (h:decideV R s 1 nm a.1=false):seenF R s nm L (M++[a])=seenF R s nm L M:=by
 unfold seenF
 simp[h]
theorem seenF_len (R:List Ru) (s nm:List UInt8) (L M:List EA):(seenF R s nm L M).length≤M.length:=by
 unfold seenF
 rw[List.length_map]
 exact List.length_filter_le _ _
end Go.Proofs.YtjjepcnijmlliaaGreatDoor
namespace Go.Proofs.YtjjepcnijmlliaaGreatDoor
open Go.RowKit
set_option linter.unusedVariables false
set_option linter.unusedSimpArgs false
theorem vattrs_any (R:List Ru) (s nm:List UInt8) (L:List EA) (w:World) (AR:Option Addr) (m cR:Nat) (hR:Has w w.heap.size 5 AR m (rusC R)) (hsm:∀r∈R,r.small) (hs:s.length≤1000000) (hnm:nm.length≤1000000) (hm:m≤1000000)
  (A:Option Addr) (n c:Nat) (xs:List Value) (hA:Has w w.heap.size 2 A n xs) (hL:EAs w w.heap.size xs L) (hn:n≤1000000) (hvs:∀a∈L,a.2.length≤1000000∧∀u∈a.2,u.length≤1000000) (hts:∀a∈L,a.1.length≤1000000) (hT:TM w):
  Calls Tryz.prog 30 #[.agg #[.slice AR m cR,.string (txt s)],.agg #[.string (txt nm),.slice A n c]] w (AttrsPost (seenA R s nm L) w):=by
 have hnl:=hA.eas_n hL
 have hb1:=below1 w (.cells #[.slice AR m cR,.string (txt s)] 64)
 have hX:Blk (w.alloc (.cells #[.slice AR m cR,.string (txt s)] 64)) w.heap.size [.slice AR m cR,.string (txt s)]:=Blk.new w [.slice AR m cR,.string (txt s)] 64
 obtain⟨w1,hw1⟩:∃w1,w.alloc (.cells #[.slice AR m cR,.string (txt s)] 64)=w1:=⟨_,rfl⟩
 have hs1:w1.heap.size=w.heap.size+1:=by rw[←hw1];simp
 rw[hw1] at hb1 hX
 have hb2:=below1 w1 (.cells #[.string (txt nm),.slice A n c] 33)
 have hY:Blk (w1.alloc (.cells #[.string (txt nm),.slice A n c] 33)) w1.heap.size [.string (txt nm),.slice A n c]:=Blk.new w1 [.string (txt nm),.slice A n c] 33
 obtain⟨w2,hw2⟩:∃w2,w1.alloc (.cells #[.string (txt nm),.slice A n c] 33)=w2:=⟨_,rfl⟩
 have hs2:w2.heap.size=w.heap.size+2:=by rw[←hw2];simp[hs1]
 rw[hw2] at hb2 hY
 rw[hs1] at hY
 have hbb:=hb1.trans (hb2.mono hb1.size)
 have hC:VC w w2 w.heap.size (w.heap.size+1) AR m cR (txt s) R (txt nm) A n c xs L:=⟨hbb,hX.grow hb2,hY,hT.below hbb,(hR.below hbb).upto hbb.size,(hA.below hbb).upto hbb.size,hL.grow hbb⟩
 have hM:∀a:EA,a.1.length≤1000000→∀w,Has w w.heap.size 5 AR m (rusC R)→TM w→Calls Tryz.prog 51 #[.agg #[.slice AR m cR,.string (txt s)],.string (txt nm),.string (txt a.1)] w fun e w'=>e=.returned (.bool (decideV R s 1 nm a.1))∧Below w.heap.size w w':=
  fun a _ w hR hT=>mayread_any R s nm a.1 w AR m cR hR hsm hs hnm hm hT
 have hVs:∀(a:EA) (w:World),Has w w.heap.size 2 A n xs→EAs w w.heap.size xs L→TM w→Calls Tryz.prog 54 #[.agg #[.string (txt nm),.slice A n c],.string (txt a.1)] w (NewTexts (valuesE L a.1) w):=
  fun a w hA hL hT=>pvalues_any nm L a.1 w A n c xs hA hL hn hvs hT
 have HM:=hide hM
 have HVs:=hide hVs
 have HC0:=hide hC
 have HN:=hide hnl
 have HTs:=hide hts
 have Hw1:=hide hw1
 have Hw2:=hide hw2
 have Hs1:=hide hs1
 have Hs2:=hide hs2
 clear hM hVs hC hnl hts hw1 hw2 hs1 hs2 hbb hY hb2 hX hb1 hR hsm hs hnm hm hA hL hvs hT
 generalize txt s=S at *
 generalize txt nm=SN at *
 suffices H:Calls Tryz.prog 30 #[.agg #[.slice AR m cR,.string S],.agg #[.string SN,.slice A n c]] w fun e w'=>∃v,e=.returned v∧(∃zs,RowA w' w2.heap.size 42 v zs (seenA R s nm L))∧Below w2.heap.size w2 w' from H.mono fun e w' ⟨v,h1,⟨zs,h2⟩,h3⟩=>by
  subst h1
  exact (h2.told h3).upto HC0.out.base
 go_enter Tryz.func30,Tryz.ntmps30
 go_wp2
 rw[Hw1.out,Hw2.out]
 try rw[Hs1.out]
 have p0:=HC0.out.ebox.cells 1 _ rfl
 go_wp2
 go_loopg [5,11] n (fun k s5 s11 wx=>∃(i:Nat) (zs:List Value),i+k=n∧s11=.int .i64 (i:Int)∧Hid (RowA wx w2.heap.size 42 s5 zs (seenF R s nm L (L.take i)))∧Hid (Below w2.heap.size w2 wx))
 case atStart=>exact⟨0,[],by omega,rfl,hide (RowA.start (World.ownsRow_nil _ _ _ _)),hide (Below.refl _ _)⟩
 case round=>
  obtain⟨i,zs,hig,rfl,hro,hbr⟩:=hrel
  clear p0
  cases gk with
  | zero=>
   obtain rfl:i=n:=by omega
   have hiz:¬((i:Int)<(i:Int)):=by omega
   have ho:=hro.out
   rw[List.take_of_length_le (by rw[←HN.out];exact Nat.le_refl _),seenF_all] at ho
   have Ho:=hide ho
   clear HM HVs HC0 HN HTs hro ho
   go_wp2
   go_ret
   exact⟨_,rfl,⟨zs,Ho.out⟩,hbr.out⟩
  | succ r=>
   have hi:i<n:=by omega
   have hiz:(i:Int)<(n:Int):=by omega
   obtain⟨a,ha⟩:∃a,L[i]?=some a:=⟨_,List.getElem?_eq_getElem (by rw[←HN.out];exact hi)⟩
   obtain⟨g,o,hAe,hg,hat⟩:=HC0.out.has.ea HC0.out.attrs (fun h=>by rw[h] at ha;simp at ha)
   have HAe:=hide hAe
   obtain⟨U,cu,hat⟩:=hat i a ha
   have hat:=hat.below hg hbr.out
   have e0:=hat.e0
   have e1:=hat.e1
   obtain⟨k,hk⟩:∃k,a.2.length=k:=⟨_,rfl⟩
   rw[hk] at e1
   have hba:=below1 wr (.cells #[.string (txt a.1),.slice U k cu] 42)
   have hXa:=BoxE.new wr (txt a.1) U k cu 42
   have hC1:=(HC0.out.grow hbr.out).grow hba
   have v0:=hC1.box.cells 0 _ rfl
   have v1:=hC1.box.cells 1 _ rfl
   have y0:=hC1.ebox.cells 0 _ rfl
   have z0:=hXa.c0
   have HXa1:=hide hXa
   have HC1:=hide hC1
   have HE1:=hide (hbr.out.trans (hba.mono hbr.out.size))
   have HRo1:=hide (hro.out.below hba)
   have Hne:Hid (some wr.heap.size≠u5.ownBlock):=hide fun e=>by have:=(hro.out.own.lt _ e.symm).2;omega
   have hcall:=HM.out a (HTs.out a (List.mem_of_getElem? ha)) _ hC1.rules hC1.tm
   have Hcall:=hide hcall
   have HVa:=hide (HVs.out a)
   have HCl:=hide (fun w=>clone_any (txt a.1) (by rw[txt_size];have:=HTs.out a (List.mem_of_getElem? ha);omega) w)
   have Htk:Hid (L.take (i+1)=L.take i++[a]):=hide (by rw[List.take_add_one,ha];rfl)
   have hll:i<L.length:=by rw[←HN.out];exact hi
   obtain⟨d,hd⟩:∃d,decideV R s 1 nm a.1=d:=⟨_,rfl⟩
   rw[hd] at Hcall
   have Hd:=hide hd
   obtain⟨kk,hkk⟩:∃kk,(valuesE L a.1).length=kk:=⟨_,rfl⟩
   have Hkk:=hide hkk
   obtain⟨TA,hta⟩:∃TA,txt a.1=TA:=⟨_,rfl⟩
   rw[hta] at Hcall HVa HCl HXa1 HRo1 HE1 HC1 e0 v0 v1 y0 z0
   rw[hta] at hba hXa hC1 hcall
   have Hta:=hide hta
   subst hAe
   clear hba hXa hC1 hcall hat ha hk hd hkk hta hbr hro HM HVs
   obtain⟨hb,hhb⟩:∃hb,wr.heap.size=hb:=⟨_,rfl⟩
   rw[hhb] at HXa1 Hne z0
   clear HC0 HTs
   go_wp2_with (go_at_call 51;fail)
   refine Hcall.out.mono ?_
   rintro e w3 ⟨rfl,hb3⟩
   try rw[hhb]
   have HC3:=hide (HC1.out.grow hb3)
   have HE3:=hide (HE1.out.trans (hb3.mono HE1.out.size))
   have HRo3:=hide (HRo1.out.below hb3)
   have HXa3:=hide (HXa1.out.grow hb3)
   clear hb3 Hcall HC1 HE1 HRo1 HXa1 v0 v1 y0 z0 e0 e1
   cases d with
   | false=>
    have Hro:Hid (RowA w3 w2.heap.size 42 u5 zs (seenF R s nm L (L.take (i+1)))):=hide (by rw[Htk.out,seenF_no Hd.out];exact HRo3.out)
    clear HRo3 HC3 HXa3
    go_wp2
    go_roundg r
    case measure=>omega
    case rel=>exact⟨i+1,zs,by omega,by go_num,Hro,HE3⟩
   | true=>
    go_wp2_with fail
    refine grow_begin_but u5.ownBlock (by kernel_rfl) ?_
    have hdr:Below w3.heap.size w3 w3.drew:=(Below.refl _ _).drew
    have hCd:=HC3.out.grow hdr
    have hRd:=HRo3.out.below hdr
    have X0:Hid (∀W,upBut u5.ownBlock w3.drew W→W.cell? ⟨hb,0,none⟩=some (.string TA)∧W.cell? ⟨w.heap.size+1,0,none⟩=some (.string SN)∧W.cell? ⟨w.heap.size+1,1,none⟩=some (.slice (some ⟨g,o,none⟩) n c)):=hide fun W hW=>by
     have q:=HXa3.out.grow hdr
     have hne:some hb≠u5.ownBlock:=Hne.out
     have hlt:hb<w3.drew.heap.size:=q.lt
     have hne2:some (w.heap.size+1)≠u5.ownBlock:=fun e=>by have:=(hRd.own.lt _ e.symm).1;have:=Hs2.out;omega
     exact⟨(hW.cell (p:=⟨hb,0,none⟩) hlt hne).trans q.c0,(hW.cell (p:=⟨w.heap.size+1,0,none⟩) hCd.ebox.lt hne2).trans (hCd.ebox.cells 0 _ rfl),(hW.cell (p:=⟨w.heap.size+1,1,none⟩) hCd.ebox.lt hne2).trans (hCd.ebox.cells 1 _ rfl)⟩
    have HC:=hide hCd
    have HRo:=hide hRd
    have Hbr:Hid (Below w2.heap.size w2 w3.drew):=hide (HE3.out.trans (hdr.mono HE3.out.size))
    clear hdr hCd hRd HC3 HRo3 HE3 HXa3 Hne
    generalize w3.drew=wd at *
    refine grow_take 0 (some 21) (v:=?va0) rfl rfl (by kernel_rfl) (by kernel_rfl) (by kernel_rfl) (fun _ _ _ h=>h) (by rfl) (fun W hW=>?ya0) ?_
    case ya0=>
     go_simp<;>with_reducible rfl
    try simp only[Act.put,List.setIfInBounds_toArray,List.set_cons_zero,List.set_cons_succ]
    refine grow_take 1 (some 22) (v:=?va1) rfl rfl (by kernel_rfl) (by kernel_rfl) (by kernel_rfl) (fun _ _ _ h=>h) (by rfl) (fun W hW=>?ya1) ?_
    case ya1=>
     go_simp<;>with_reducible rfl
    try simp only[Act.put,List.setIfInBounds_toArray,List.set_cons_zero,List.set_cons_succ]
    refine grow_take 2 (some 23) (v:=?va2) rfl rfl (by kernel_rfl) (by kernel_rfl) (by kernel_rfl) (fun _ _ _ h=>h) (by rfl) (fun W hW=>?ya2) ?_
    case ya2=>
     have k0:=(X0.out W hW).1
     go_simp<;>with_reducible rfl
    try simp only[Act.put,List.setIfInBounds_toArray,List.set_cons_zero,List.set_cons_succ]
    refine grow_take 4 (some 25) (v:=?va4) rfl rfl (by kernel_rfl) (by kernel_rfl) (by kernel_rfl) (fun _ _ _ h=>h) (by rfl) (fun W hW=>?ya4) ?_
    case ya4=>
     obtain⟨_,k1,k2⟩:=X0.out W hW
     go_simp<;>with_reducible rfl
    try simp only[Act.put,List.setIfInBounds_toArray,List.set_cons_zero,List.set_cons_succ]
    refine grow_take 5 (some 26) (v:=?va5) rfl rfl (by kernel_rfl) (by kernel_rfl) (by kernel_rfl) (fun _ _ _ h=>h) (by rfl) (fun W hW=>?ya5) ?_
    case ya5=>
     go_simp<;>with_reducible rfl
    try simp only[Act.put,List.setIfInBounds_toArray,List.set_cons_zero,List.set_cons_succ]
    refine grow_take 6 (some 27) (v:=?va6) rfl rfl (by kernel_rfl) (by kernel_rfl) (by kernel_rfl) (fun _ _ _ h=>h) (by rfl) (fun W hW=>?ya6) ?_
    case ya6=>
     have k0:=(X0.out W hW).1
     go_simp<;>with_reducible rfl
    try simp only[Act.put,List.setIfInBounds_toArray,List.set_cons_zero,List.set_cons_succ]
    refine grow_only 3 rfl (by kernel_rfl) (fun K hK=>?_)
    go_simp
    refine (HCl.out _).mono ?_
    rintro e w4 ⟨rfl,hb4⟩
    refine hK.out _ _ (but_of_below _ hb4) ?_
    have HC4:=hide (HC.out.grow hb4)
    have HRo4:=hide (HRo.out.below hb4)
    have Hbr4:=hide (Hbr.out.trans (hb4.mono Hbr.out.size))
    clear hK K hb4 HC HRo Hbr HCl
    try simp only[Act.put,List.setIfInBounds_toArray,List.set_cons_zero,List.set_cons_succ]
    refine grow_only 7 rfl (by kernel_rfl) (fun K hK=>?_)
    go_simp
    refine (HVa.out _ HC4.out.has HC4.out.attrs HC4.out.tm).mono ?_
    rintro e w5 hpost
    obtain⟨A5,c5,rfl,hc5,hm5,hh5,hb5⟩:=hpost.out
    refine hK.out _ _ (but_of_below _ hb5) ?_
    have HV5:=hide (And.intro hc5 (And.intro hm5 (And.intro hh5 hb5)))
    rw[Hkk.out]
    clear hK K hpost hc5 hm5 hh5 hb5 HVa
    try simp only[Act.put,List.setIfInBounds_toArray,List.set_cons_zero,List.set_cons_succ]
    refine grow_take 8 (some 29) (v:=?va8) rfl rfl (by kernel_rfl) (by kernel_rfl) (by kernel_rfl) (fun _ _ _ h=>h) (by rfl) (fun W hW=>?ya8) ?_
    case ya8=>
     go_simp<;>with_reducible rfl
    try simp only[Act.put,List.setIfInBounds_toArray,List.set_cons_zero,List.set_cons_succ]
    refine grow_only 9 rfl (by kernel_rfl) (fun K hK=>?_)
    go_simp
    have hba:=below1 w5 (.cells #[.string TA,.slice A5 kk c5] 42)
    refine hK.out _ _ (but_of_below _ hba) ?_
    have hlit:=litY w5 (.string TA) (.slice A5 kk c5) 42 rfl rfl
    have hown6:=own_below (own_below HRo4.out.own HV5.out.2.2.2) hba
    have hs6:w2.heap.size≤(w5.alloc (.cells #[.string TA,.slice A5 kk c5] 42)).heap.size:=Nat.le_trans Hbr4.out.size (Nat.le_trans HV5.out.2.2.2.size hba.size)
    have h1c:∀u∈([.string TA,.slice A5 kk c5]:List Value),u.oneCell'=true:=by simp[Value.oneCell']
    have hlen:=seenF_len R s nm L (L.take i)
    rw[List.length_take] at hlen
    clear hK K
    try simp only[Act.put,List.setIfInBounds_toArray,List.set_cons_zero,List.set_cons_succ]
    refine grow_only 10 rfl (by kernel_rfl) (fun K hK=>?_)
    refine stepE _ 31 42 _ 2 40 Tryz.underlying31 infoEA rfl (by omega) (by omega) (some 31) rfl rfl (.tmp 21) (.tmp 30) rfl w2.heap.size _ _ zs rfl hown6 _ _ 1 1 [.string TA,.slice A5 kk c5] rfl (Has.own hlit) h1c (by omega) hs6 ?_
    intro v7 w7 hown7 hb7 hg7 ht7
    refine hK.out _ _ hg7 ?_
    have HRo7:Hid (RowA w7 w2.heap.size 42 v7 (zs++[.string TA,.slice A5 kk c5]) (seenF R s nm L (L.take (i+1)))):=hide (by
     rw[Htk.out,seenF_yes Hd.out]
     have hkk:=Hkk.out
     have hta:=Hta.out
     subst hkk hta
     exact HRo4.out.more (a:=(a.1,valuesE L a.1)) Hbr4.out.size HV5.out.2.2.2 HV5.out.1 HV5.out.2.1 HV5.out.2.2.1 _ hown7 hg7 ht7)
    have Hbr7:=hide (Hbr4.out.trans ((HV5.out.2.2.2.mono Hbr4.out.size).trans ((hba.mono (Nat.le_trans Hbr4.out.size HV5.out.2.2.2.size)).trans hb7)))
    clear hK K hown7 hb7 hg7 ht7 hown6 hs6 h1c hlen hlit hba HV5 HRo4 Hbr4 HC4
    try simp only[Act.put,List.setIfInBounds_toArray,List.set_cons_zero,List.set_cons_succ]
    refine grow_take 11 (some 5) (v:=?va11) rfl rfl (by kernel_rfl) (by kernel_rfl) (by kernel_rfl) (fun _ _ _ h=>h) (by rfl) (fun W hW=>?ya11) ?_
    case ya11=>
     go_simp<;>with_reducible rfl
    try simp only[Act.put,List.setIfInBounds_toArray,List.set_cons_zero,List.set_cons_succ]
    refine grow_done (by kernel_rfl) ?_ _
    go_wp2
    go_roundg r
    case measure=>omega
    case rel=>exact⟨i+1,_,by omega,by go_num,HRo7,Hbr7⟩
end Go.Proofs.YtjjepcnijmlliaaGreatDoor
namespace Go.Proofs.YtjjepcnijmlliaaGreatDoor
open Go.RowKit
set_option linter.unusedVariables false
set_option linter.unusedSimpArgs false
structure OnePost (o:Option EN) (w:World) (e:Ending) (w':World):Prop where
 out:∃(r:EN) (A':Option Addr) (c':Nat) (ys:List Value),e=.returned (.tuple #[.agg #[.string (txt r.1),.slice A' r.2.length c'],.bool o.isSome])∧r=o.getD ([],[])∧r.2.length≤c'∧c'≤maxLen∧HasP w' (NewB w.heap.size w'.heap.size) 2 A' r.2.length ys∧EAsP w' (NewB w.heap.size w'.heap.size) ys r.2∧Below w.heap.size w w'
theorem pone_nf (R:List Ru) (s nm:List UInt8) (L:List EA) (w:World) (AR:Option Addr) (m cR:Nat) (hR:Has w w.heap.size 5 AR m (rusC R)) (A:Option Addr) (n c:Nat) (xs:List Value) (hA:Has w w.heap.size 2 A n xs) (hL:EAs w w.heap.size xs L) (hT:TM w) (hF:∀w,Has w w.heap.size 2 A n xs→EAs w w.heap.size xs L→TM w→Calls Tryz.prog 27 #[.agg #[.string (txt nm),.slice A n c]] w fun e w'=>e=.returned (.bool false)∧Below w.heap.size w w'):
  Calls Tryz.prog 14 #[.agg #[.string (txt nm),.slice A n c],.slice AR m cR,.string (txt s)] w (OnePost none w):=by
 suffices H:Calls Tryz.prog 14 #[.agg #[.string (txt nm),.slice A n c],.slice AR m cR,.string (txt s)] w fun e w'=>∃(r:EN) (A':Option Addr) (c':Nat) (ys:List Value),e=.returned (.tuple #[.agg #[.string (txt r.1),.slice A' r.2.length c'],.bool (none:Option EN).isSome])∧r=(none:Option EN).getD ([],[])∧r.2.length≤c'∧c'≤maxLen∧HasP w' (NewB w.heap.size w'.heap.size) 2 A' r.2.length ys∧EAsP w' (NewB w.heap.size w'.heap.size) ys r.2∧Below w.heap.size w w' from H.mono fun e w' h=>⟨h⟩
 have HF:=hide hF
 clear hF
 have hb1:=below1 w (.cells #[.string (txt nm),.slice A n c] 33)
 have hX:Blk (w.alloc (.cells #[.string (txt nm),.slice A n c] 33)) w.heap.size [.string (txt nm),.slice A n c]:=Blk.new w [.string (txt nm),.slice A n c] 33
 obtain⟨w1,hw1⟩:∃w1,w.alloc (.cells #[.string (txt nm),.slice A n c] 33)=w1:=⟨_,rfl⟩
 have hs1:w1.heap.size=w.heap.size+1:=by rw[←hw1];simp
 rw[hw1] at hb1 hX
 have hb2:=below1 w1 (.cells #[.string ⟨#[]⟩,.slice none 0 0] 33)
 have hY:Blk (w1.alloc (.cells #[.string ⟨#[]⟩,.slice none 0 0] 33)) w1.heap.size [.string ⟨#[]⟩,.slice none 0 0]:=Blk.new w1 [.string ⟨#[]⟩,.slice none 0 0] 33
 obtain⟨w2,hw2⟩:∃w2,w1.alloc (.cells #[.string ⟨#[]⟩,.slice none 0 0] 33)=w2:=⟨_,rfl⟩
 have hs2:w2.heap.size=w.heap.size+2:=by rw[←hw2];simp[hs1]
 rw[hw2] at hb2 hY
 rw[hs1] at hY
 have hb3:=below1 w2 (.cells #[.slice AR m cR,.string (txt s)] 64)
 have hZ:Blk (w2.alloc (.cells #[.slice AR m cR,.string (txt s)] 64)) w2.heap.size [.slice AR m cR,.string (txt s)]:=Blk.new w2 [.slice AR m cR,.string (txt s)] 64
 obtain⟨w3,hw3⟩:∃w3,w2.alloc (.cells #[.slice AR m cR,.string (txt s)] 64)=w3:=⟨_,rfl⟩
 rw[hw3] at hb3 hZ
 rw[hs2] at hZ
 have hbb:=(hb1.trans (hb2.mono hb1.size)).trans (hb3.mono (hb1.trans (hb2.mono hb1.size)).size)
 have hC:VC w w3 (w.heap.size+2) w.heap.size AR m cR (txt s) R (txt nm) A n c xs L:=⟨hbb,hZ,(hX.grow hb2).grow hb3,hT.below hbb,(hR.below hbb).upto hbb.size,(hA.below hbb).upto hbb.size,hL.grow hbb⟩
 have HC:=hide hC
 have HY:=hide (hY.grow hb3)
 have Hw1:=hide hw1
 have Hw2:=hide hw2
 have Hw3:=hide hw3
 have Hs1:=hide hs1
 have Hs2:=hide hs2
 clear hC hY hw1 hw2 hw3 hs1 hs2 hbb hZ hb3 hb2 hX hb1 hR hA hL hT
 generalize txt s=S at *
 generalize txt nm=SN at *
 go_enter Tryz.func14,Tryz.ntmps14
 go_upto_region 2 with fail
 rw[Hw1.out,Hw2.out,Hw3.out]
 try rw[Hs2.out]
 try rw[Hs1.out]
 have v0:=HC.out.box.cells 0 _ rfl
 have v1:=HC.out.box.cells 1 _ rfl
 have x0:=HC.out.ebox.cells 0 _ rfl
 have x1:=HC.out.ebox.cells 1 _ rfl
 go_wp2_with (go_at_call 27;fail)
 refine (HF.out _ HC.out.has HC.out.attrs HC.out.tm).mono ?_
 rintro e w4 ⟨rfl,hb4⟩
 have HC4:=hide (HC.out.grow hb4)
 have HY4:=hide (HY.out.grow hb4)
 clear hb4 HC HY HF v0 v1 x0 x1
 have HB4:=hide HC4.out.base
 clear HC4
 go_wp2_with (refine storeB w4 rfl 33 (.tmp 6) (.tmp 22) rfl (w.heap.size+1) 0 _ [.string ⟨#[]⟩,.slice none 0 0] rfl rfl HY4.out (by simp) (by kernel_rfl) (by simp[Value.oneCell']) ?_)
 have hBz:=HY4.out.sets 0 [.string ⟨#[]⟩,.slice none 0 0] (by simp) [.string ⟨#[]⟩,.slice none 0 0] (by simp)
 have hbz:=HB4.out.trans (below_sets (base:=w.heap.size) (h:=w.heap.size+1) w4 [.string ⟨#[]⟩,.slice none 0 0] (by omega) HB4.out.size)
 have HBz:=hide hBz
 have Hbz:=hide hbz
 clear hBz hbz
 generalize w4.setCells (w.heap.size+1) 0 [.string ⟨#[]⟩,.slice none 0 0]=wz at *
 refine bodyPost_ret (v:=.tuple #[.agg #[.string ⟨#[]⟩,.slice none 0 0],.bool false]) ?_ rfl ?_
 ·exact results_cell2 rfl _ wz (w.heap.size+1) [.string ⟨#[]⟩,.slice none 0 0] _ _ rfl rfl HBz.out.range Tryz.underlying33 rfl (by kernel_rfl)
 ·exact ⟨([],[]),none,0,[],rfl,rfl,by simp,by unfold maxLen;simp,HasP.nil,EAsP.nil,Hbz.out⟩
theorem pone_nr (R:List Ru) (s nm:List UInt8) (L:List EA) (w:World) (AR:Option Addr) (m cR:Nat) (hR:Has w w.heap.size 5 AR m (rusC R)) (A:Option Addr) (n c:Nat) (xs:List Value) (hA:Has w w.heap.size 2 A n xs) (hL:EAs w w.heap.size xs L) (hT:TM w) (hF:∀w,Has w w.heap.size 2 A n xs→EAs w w.heap.size xs L→TM w→Calls Tryz.prog 27 #[.agg #[.string (txt nm),.slice A n c]] w fun e w'=>e=.returned (.bool true)∧Below w.heap.size w w') (hRe:∀w,Has w w.heap.size 5 AR m (rusC R)→TM w→Calls Tryz.prog 28 #[.agg #[.slice AR m cR,.string (txt s)],.string (txt nm)] w fun e w'=>e=.returned (.bool false)∧Below w.heap.size w w'):
  Calls Tryz.prog 14 #[.agg #[.string (txt nm),.slice A n c],.slice AR m cR,.string (txt s)] w (OnePost none w):=by
 suffices H:Calls Tryz.prog 14 #[.agg #[.string (txt nm),.slice A n c],.slice AR m cR,.string (txt s)] w fun e w'=>∃(r:EN) (A':Option Addr) (c':Nat) (ys:List Value),e=.returned (.tuple #[.agg #[.string (txt r.1),.slice A' r.2.length c'],.bool (none:Option EN).isSome])∧r=(none:Option EN).getD ([],[])∧r.2.length≤c'∧c'≤maxLen∧HasP w' (NewB w.heap.size w'.heap.size) 2 A' r.2.length ys∧EAsP w' (NewB w.heap.size w'.heap.size) ys r.2∧Below w.heap.size w w' from H.mono fun e w' h=>⟨h⟩
 have HF:=hide hF
 have HRe:=hide hRe
 clear hF hRe
 have hb1:=below1 w (.cells #[.string (txt nm),.slice A n c] 33)
 have hX:Blk (w.alloc (.cells #[.string (txt nm),.slice A n c] 33)) w.heap.size [.string (txt nm),.slice A n c]:=Blk.new w [.string (txt nm),.slice A n c] 33
 obtain⟨w1,hw1⟩:∃w1,w.alloc (.cells #[.string (txt nm),.slice A n c] 33)=w1:=⟨_,rfl⟩
 have hs1:w1.heap.size=w.heap.size+1:=by rw[←hw1];simp
 rw[hw1] at hb1 hX
 have hb2:=below1 w1 (.cells #[.string ⟨#[]⟩,.slice none 0 0] 33)
 have hY:Blk (w1.alloc (.cells #[.string ⟨#[]⟩,.slice none 0 0] 33)) w1.heap.size [.string ⟨#[]⟩,.slice none 0 0]:=Blk.new w1 [.string ⟨#[]⟩,.slice none 0 0] 33
 obtain⟨w2,hw2⟩:∃w2,w1.alloc (.cells #[.string ⟨#[]⟩,.slice none 0 0] 33)=w2:=⟨_,rfl⟩
 have hs2:w2.heap.size=w.heap.size+2:=by rw[←hw2];simp[hs1]
 rw[hw2] at hb2 hY
 rw[hs1] at hY
 have hb3:=below1 w2 (.cells #[.slice AR m cR,.string (txt s)] 64)
 have hZ:Blk (w2.alloc (.cells #[.slice AR m cR,.string (txt s)] 64)) w2.heap.size [.slice AR m cR,.string (txt s)]:=Blk.new w2 [.slice AR m cR,.string (txt s)] 64
 obtain⟨w3,hw3⟩:∃w3,w2.alloc (.cells #[.slice AR m cR,.string (txt s)] 64)=w3:=⟨_,rfl⟩
 rw[hw3] at hb3 hZ
 rw[hs2] at hZ
 have hbb:=(hb1.trans (hb2.mono hb1.size)).trans (hb3.mono (hb1.trans (hb2.mono hb1.size)).size)
 have hC:VC w w3 (w.heap.size+2) w.heap.size AR m cR (txt s) R (txt nm) A n c xs L:=⟨hbb,hZ,(hX.grow hb2).grow hb3,hT.below hbb,(hR.below hbb).upto hbb.size,(hA.below hbb).upto hbb.size,hL.grow hbb⟩
 have HC:=hide hC
 have HY:=hide (hY.grow hb3)
 have Hw1:=hide hw1
 have Hw2:=hide hw2
 have Hw3:=hide hw3
 have Hs1:=hide hs1
 have Hs2:=hide hs2
 clear hC hY hw1 hw2 hw3 hs1 hs2 hbb hZ hb3 hb2 hX hb1 hR hA hL hT
 generalize txt s=S at *
 generalize txt nm=SN at *
 go_enter Tryz.func14,Tryz.ntmps14
 go_upto_region 2 with fail
 rw[Hw1.out,Hw2.out,Hw3.out]
 try rw[Hs2.out]
 try rw[Hs1.out]
 have v0:=HC.out.box.cells 0 _ rfl
 have v1:=HC.out.box.cells 1 _ rfl
 have x0:=HC.out.ebox.cells 0 _ rfl
 have x1:=HC.out.ebox.cells 1 _ rfl
 go_wp2_with (go_at_call 27;fail)
 refine (HF.out _ HC.out.has HC.out.attrs HC.out.tm).mono ?_
 rintro e w4 ⟨rfl,hb4⟩
 have HC4:=hide (HC.out.grow hb4)
 have HY4:=hide (HY.out.grow hb4)
 clear hb4 HC HY HF v0 v1 x0 x1
 have v0:=HC4.out.box.cells 0 _ rfl
 have v1:=HC4.out.box.cells 1 _ rfl
 have x0:=HC4.out.ebox.cells 0 _ rfl
 have x1:=HC4.out.ebox.cells 1 _ rfl
 go_wp2_with (go_at_call 28;fail)
 refine (HRe.out _ HC4.out.rules HC4.out.tm).mono ?_
 rintro e w5 ⟨rfl,hb5⟩
 have HC5:=hide (HC4.out.grow hb5)
 have HY5:=hide (HY4.out.grow hb5)
 clear hb5 HC4 HY4 HRe v0 v1 x0 x1
 have HB5:=hide HC5.out.base
 clear HC5
 go_wp2_with (refine storeB w5 rfl 33 (.tmp 6) (.tmp 22) rfl (w.heap.size+1) 0 _ [.string ⟨#[]⟩,.slice none 0 0] rfl rfl HY5.out (by simp) (by kernel_rfl) (by simp[Value.oneCell']) ?_)
 have hBz:=HY5.out.sets 0 [.string ⟨#[]⟩,.slice none 0 0] (by simp) [.string ⟨#[]⟩,.slice none 0 0] (by simp)
 have hbz:=HB5.out.trans (below_sets (base:=w.heap.size) (h:=w.heap.size+1) w5 [.string ⟨#[]⟩,.slice none 0 0] (by omega) HB5.out.size)
 have HBz:=hide hBz
 have Hbz:=hide hbz
 clear hBz hbz
 generalize w5.setCells (w.heap.size+1) 0 [.string ⟨#[]⟩,.slice none 0 0]=wz at *
 refine bodyPost_ret (v:=.tuple #[.agg #[.string ⟨#[]⟩,.slice none 0 0],.bool false]) ?_ rfl ?_
 ·exact results_cell2 rfl _ wz (w.heap.size+1) [.string ⟨#[]⟩,.slice none 0 0] _ _ rfl rfl HBz.out.range Tryz.underlying33 rfl (by kernel_rfl)
 ·exact ⟨([],[]),none,0,[],rfl,rfl,by simp,by unfold maxLen;simp,HasP.nil,EAsP.nil,Hbz.out⟩
theorem pone_ok (R:List Ru) (s nm:List UInt8) (L:List EA) (w:World) (AR:Option Addr) (m cR:Nat) (hR:Has w w.heap.size 5 AR m (rusC R)) (A:Option Addr) (n c:Nat) (xs:List Value) (hA:Has w w.heap.size 2 A n xs) (hL:EAs w w.heap.size xs L) (hT:TM w) (hF:∀w,Has w w.heap.size 2 A n xs→EAs w w.heap.size xs L→TM w→Calls Tryz.prog 27 #[.agg #[.string (txt nm),.slice A n c]] w fun e w'=>e=.returned (.bool true)∧Below w.heap.size w w') (hRe:∀w,Has w w.heap.size 5 AR m (rusC R)→TM w→Calls Tryz.prog 28 #[.agg #[.slice AR m cR,.string (txt s)],.string (txt nm)] w fun e w'=>e=.returned (.bool true)∧Below w.heap.size w w') (X:List EA) (kx:Nat) (hXl:X.length=kx) (hAt:∀w,Has w w.heap.size 5 AR m (rusC R)→Has w w.heap.size 2 A n xs→EAs w w.heap.size xs L→TM w→Calls Tryz.prog 30 #[.agg #[.slice AR m cR,.string (txt s)],.agg #[.string (txt nm),.slice A n c]] w (AttrsPost X w)) (hCl:∀w,Calls Tryz.prog 29 #[.string (txt nm)] w fun e w'=>e=.returned (.string (txt nm))∧Below w.heap.size w w'):
  Calls Tryz.prog 14 #[.agg #[.string (txt nm),.slice A n c],.slice AR m cR,.string (txt s)] w (OnePost (some (nm,X)) w):=by
 suffices H:Calls Tryz.prog 14 #[.agg #[.string (txt nm),.slice A n c],.slice AR m cR,.string (txt s)] w fun e w'=>∃(r:EN) (A':Option Addr) (c':Nat) (ys:List Value),e=.returned (.tuple #[.agg #[.string (txt r.1),.slice A' r.2.length c'],.bool ((some (nm,X)):Option EN).isSome])∧r=((some (nm,X)):Option EN).getD ([],[])∧r.2.length≤c'∧c'≤maxLen∧HasP w' (NewB w.heap.size w'.heap.size) 2 A' r.2.length ys∧EAsP w' (NewB w.heap.size w'.heap.size) ys r.2∧Below w.heap.size w w' from H.mono fun e w' h=>⟨h⟩
 have Hxl:=hide hXl
 clear hXl
 have HF:=hide hF
 have HRe:=hide hRe
 have HAt:=hide hAt
 have HCl:=hide hCl
 clear hF hRe hAt hCl
 have hb1:=below1 w (.cells #[.string (txt nm),.slice A n c] 33)
 have hX:Blk (w.alloc (.cells #[.string (txt nm),.slice A n c] 33)) w.heap.size [.string (txt nm),.slice A n c]:=Blk.new w [.string (txt nm),.slice A n c] 33
 obtain⟨w1,hw1⟩:∃w1,w.alloc (.cells #[.string (txt nm),.slice A n c] 33)=w1:=⟨_,rfl⟩
 have hs1:w1.heap.size=w.heap.size+1:=by rw[←hw1];simp
 rw[hw1] at hb1 hX
 have hb2:=below1 w1 (.cells #[.string ⟨#[]⟩,.slice none 0 0] 33)
 have hY:Blk (w1.alloc (.cells #[.string ⟨#[]⟩,.slice none 0 0] 33)) w1.heap.size [.string ⟨#[]⟩,.slice none 0 0]:=Blk.new w1 [.string ⟨#[]⟩,.slice none 0 0] 33
 obtain⟨w2,hw2⟩:∃w2,w1.alloc (.cells #[.string ⟨#[]⟩,.slice none 0 0] 33)=w2:=⟨_,rfl⟩
 have hs2:w2.heap.size=w.heap.size+2:=by rw[←hw2];simp[hs1]
 rw[hw2] at hb2 hY
 rw[hs1] at hY
 have hb3:=below1 w2 (.cells #[.slice AR m cR,.string (txt s)] 64)
 have hZ:Blk (w2.alloc (.cells #[.slice AR m cR,.string (txt s)] 64)) w2.heap.size [.slice AR m cR,.string (txt s)]:=Blk.new w2 [.slice AR m cR,.string (txt s)] 64
 obtain⟨w3,hw3⟩:∃w3,w2.alloc (.cells #[.slice AR m cR,.string (txt s)] 64)=w3:=⟨_,rfl⟩
 rw[hw3] at hb3 hZ
 rw[hs2] at hZ
 have hbb:=(hb1.trans (hb2.mono hb1.size)).trans (hb3.mono (hb1.trans (hb2.mono hb1.size)).size)
 have hC:VC w w3 (w.heap.size+2) w.heap.size AR m cR (txt s) R (txt nm) A n c xs L:=⟨hbb,hZ,(hX.grow hb2).grow hb3,hT.below hbb,(hR.below hbb).upto hbb.size,(hA.below hbb).upto hbb.size,hL.grow hbb⟩
 have HC:=hide hC
 have HY:=hide (hY.grow hb3)
 have Hw1:=hide hw1
 have Hw2:=hide hw2
 have Hw3:=hide hw3
 have Hs1:=hide hs1
 have Hs2:=hide hs2
 clear hC hY hw1 hw2 hw3 hs1 hs2 hbb hZ hb3 hb2 hX hb1 hR hA hL hT
 generalize txt s=S at *
 obtain⟨SN,hSN⟩:∃SN,txt nm=SN:=⟨_,rfl⟩
 rw[hSN] at HC HF HRe HAt HCl Hw1 ⊢
 have HSN0:Hid (SN=txt nm):=hide hSN.symm
 clear hSN
 have Hsn:Hid (SN=txt nm):=HSN0
 clear HSN0
 go_enter Tryz.func14,Tryz.ntmps14
 go_upto_region 2 with fail
 rw[Hw1.out,Hw2.out,Hw3.out]
 try rw[Hs2.out]
 try rw[Hs1.out]
 have v0:=HC.out.box.cells 0 _ rfl
 have v1:=HC.out.box.cells 1 _ rfl
 have x0:=HC.out.ebox.cells 0 _ rfl
 have x1:=HC.out.ebox.cells 1 _ rfl
 go_wp2_with (go_at_call 27;fail)
 refine (HF.out _ HC.out.has HC.out.attrs HC.out.tm).mono ?_
 rintro e w4 ⟨rfl,hb4⟩
 have HC4:=hide (HC.out.grow hb4)
 have HY4:=hide (HY.out.grow hb4)
 clear hb4 HC HY HF v0 v1 x0 x1
 have v0:=HC4.out.box.cells 0 _ rfl
 have v1:=HC4.out.box.cells 1 _ rfl
 have x0:=HC4.out.ebox.cells 0 _ rfl
 have x1:=HC4.out.ebox.cells 1 _ rfl
 go_wp2_with (go_at_call 28;fail)
 refine (HRe.out _ HC4.out.rules HC4.out.tm).mono ?_
 rintro e w5 ⟨rfl,hb5⟩
 have HC5:=hide (HC4.out.grow hb5)
 have HY5:=hide (HY4.out.grow hb5)
 clear hb5 HC4 HY4 HRe v0 v1 x0 x1
 go_wp2_with fail
 refine grow_begin_but (some (w.heap.size+1)) (by kernel_rfl) ?_
 have hdr:Below w5.heap.size w5 w5.drew:=(Below.refl _ _).drew
 have hCd:=HC5.out.grow hdr
 have HY:=hide (HY5.out.grow hdr)
 have X0:Hid (∀W,upBut (some (w.heap.size+1)) w5.drew W→W.cell? ⟨w.heap.size,0,none⟩=some (.string SN)∧W.cell? ⟨w.heap.size,1,none⟩=some (.slice A n c)∧W.cell? ⟨w.heap.size+2,0,none⟩=some (.slice AR m cR)∧W.cell? ⟨w.heap.size+2,1,none⟩=some (.string S)):=hide fun W hW=>by
  have n1:some w.heap.size≠some (w.heap.size+1):=fun e=>by have:=Option.some.inj e;omega
  have n2:some (w.heap.size+2)≠some (w.heap.size+1):=fun e=>by have:=Option.some.inj e;omega
  exact⟨(hW.cell (p:=⟨w.heap.size,0,none⟩) hCd.ebox.lt n1).trans (hCd.ebox.cells 0 _ rfl),(hW.cell (p:=⟨w.heap.size,1,none⟩) hCd.ebox.lt n1).trans (hCd.ebox.cells 1 _ rfl),(hW.cell (p:=⟨w.heap.size+2,0,none⟩) hCd.box.lt n2).trans (hCd.box.cells 0 _ rfl),(hW.cell (p:=⟨w.heap.size+2,1,none⟩) hCd.box.lt n2).trans (hCd.box.cells 1 _ rfl)⟩
 have HC:=hide hCd
 clear hdr hCd HC5 HY5
 generalize w5.drew=wd at *
 refine grow_take 0 (some 23) (v:=?va0) rfl rfl (by kernel_rfl) (by kernel_rfl) (by kernel_rfl) (fun _ _ _ h=>h) (by rfl) (fun W hW=>?ya0) ?_
 case ya0=>
  go_simp<;>with_reducible rfl
 try simp only[Act.put,List.setIfInBounds_toArray,List.set_cons_zero,List.set_cons_succ]
 refine grow_take 1 (some 24) (v:=?va1) rfl rfl (by kernel_rfl) (by kernel_rfl) (by kernel_rfl) (fun _ _ _ h=>h) (by rfl) (fun W hW=>?ya1) ?_
 case ya1=>
  obtain⟨k0,k1,_,_⟩:=X0.out W hW
  go_simp<;>with_reducible rfl
 try simp only[Act.put,List.setIfInBounds_toArray,List.set_cons_zero,List.set_cons_succ]
 refine grow_take 3 (some 26) (v:=?va3) rfl rfl (by kernel_rfl) (by kernel_rfl) (by kernel_rfl) (fun _ _ _ h=>h) (by rfl) (fun W hW=>?ya3) ?_
 case ya3=>
  obtain⟨_,_,k2,k3⟩:=X0.out W hW
  go_simp<;>with_reducible rfl
 try simp only[Act.put,List.setIfInBounds_toArray,List.set_cons_zero,List.set_cons_succ]
 refine grow_take 4 (some 27) (v:=?va4) rfl rfl (by kernel_rfl) (by kernel_rfl) (by kernel_rfl) (fun _ _ _ h=>h) (by rfl) (fun W hW=>?ya4) ?_
 case ya4=>
  obtain⟨k0,k1,_,_⟩:=X0.out W hW
  go_simp<;>with_reducible rfl
 try simp only[Act.put,List.setIfInBounds_toArray,List.set_cons_zero,List.set_cons_succ]
 refine grow_only 2 rfl (by kernel_rfl) (fun K hK=>?_)
 go_simp
 refine (HCl.out _).mono ?_
 rintro e w6 ⟨rfl,hb6⟩
 refine hK.out _ _ (but_of_below _ hb6) ?_
 have HC6:=hide (HC.out.grow hb6)
 have HY6:=hide (HY.out.grow hb6)
 clear hK K hb6 HC HY HCl
 try simp only[Act.put,List.setIfInBounds_toArray,List.set_cons_zero,List.set_cons_succ]
 refine grow_only 5 rfl (by kernel_rfl) (fun K hK=>?_)
 go_simp
 refine (HAt.out _ HC6.out.rules HC6.out.has HC6.out.attrs HC6.out.tm).mono ?_
 rintro e w7 hpost
 obtain⟨A7,c7,ys7,rfl,hc7,hm7,hh7,he7,hb7⟩:=hpost.out
 refine hK.out _ _ (but_of_below _ hb7) ?_
 have HY7:=hide (HY6.out.grow hb7)
 have HB7:=hide (HC6.out.base.trans (hb7.mono HC6.out.base.size))
 have HV7:=hide (And.intro hc7 (And.intro hm7 (And.intro (hh7.move (P':=NewB w.heap.size w7.heap.size) (fun p _=>rfl) fun b hb=>⟨Nat.le_trans HC6.out.base.size hb.1,hb.2⟩) (he7.move (P':=NewB w.heap.size w7.heap.size) (fun p _=>rfl) fun b hb=>⟨Nat.le_trans HC6.out.base.size hb.1,hb.2⟩))))
 have HO7:Hid (∀p:Addr,NewB w.heap.size w7.heap.size p.block→p.block≠w.heap.size+1∨True):=hide fun _ _=>.inr trivial
 have HN7:Hid (HasP w7 (NewB w6.heap.size w7.heap.size) 2 A7 X.length ys7∧EAsP w7 (NewB w6.heap.size w7.heap.size) ys7 X∧w.heap.size+2≤w6.heap.size):=hide ⟨hh7,he7,HY6.out.lt⟩
 rw[Hxl.out]
 clear hK K hpost hc7 hm7 hh7 he7 hb7 HC6 HY6 HAt HO7
 try simp only[Act.put,List.setIfInBounds_toArray,List.set_cons_zero,List.set_cons_succ]
 refine grow_take 6 (some 29) (v:=?va6) rfl rfl (by kernel_rfl) (by kernel_rfl) (by kernel_rfl) (fun _ _ _ h=>h) (by rfl) (fun W hW=>?ya6) ?_
 case ya6=>
  go_simp<;>with_reducible rfl
 try simp only[Act.put,List.setIfInBounds_toArray,List.set_cons_zero,List.set_cons_succ]
 refine grow_only 7 rfl (by kernel_rfl) (fun K hK=>?_)
 refine step_store w7 none rfl rfl 33 (.tmp 6) (.tmp 29) rfl (w.heap.size+1) 0 #[.string SN,.slice A7 kx c7] rfl rfl (HY7.out.there 0 2 (by simp)) (by kernel_rfl) (by simp[Value.oneCell']) ?_
 have hgs:=grown_setCells (w.heap.size+1) [.string SN,.slice A7 kx c7] 0 w7
 refine hK.out _ _ hgs ?_
 have hBz:=HY7.out.sets 0 [.string SN,.slice A7 kx c7] (by simp) [.string SN,.slice A7 kx c7] (by simp)
 have hbz:=HB7.out.trans (below_sets (base:=w.heap.size) (h:=w.heap.size+1) w7 [.string SN,.slice A7 kx c7] (by omega) HB7.out.size)
 have hHH:HasP (w7.setCells (w.heap.size+1) 0 [.string SN,.slice A7 kx c7]) (NewB w.heap.size (w7.setCells (w.heap.size+1) 0 [.string SN,.slice A7 kx c7]).heap.size) 2 A7 X.length ys7∧EAsP (w7.setCells (w.heap.size+1) 0 [.string SN,.slice A7 kx c7]) (NewB w.heap.size (w7.setCells (w.heap.size+1) 0 [.string SN,.slice A7 kx c7]).heap.size) ys7 X:=by
  obtain⟨q1,q2,q3⟩:=HN7.out
  have hq:∀p:Addr,NewB w6.heap.size w7.heap.size p.block→(w7.setCells (w.heap.size+1) 0 [.string SN,.slice A7 kx c7]).cell? p=w7.cell? p:=fun p hp=>World.cell?_of_block (hgs.block _ hp.2 (fun e=>by have:=Option.some.inj e;have:=hp.1;omega))
  exact⟨q1.move hq fun b hb=>⟨by have:=hb.1;omega,by have:=hb.2;have:=hgs.size;omega⟩,q2.move hq fun b hb=>⟨by have:=hb.1;omega,by have:=hb.2;have:=hgs.size;omega⟩⟩
 have HBz:=hide hBz
 have Hbz:=hide hbz
 have HHz:=hide hHH
 clear hK K hBz hbz hHH hgs HY7 HB7 HN7
 change wpAnyG _ _ _ _ _ _ _ _ (w7.setCells (w.heap.size+1) 0 [.string SN,.slice A7 kx c7])
 generalize w7.setCells (w.heap.size+1) 0 [.string SN,.slice A7 kx c7]=wz at *
 try simp only[Act.put,List.setIfInBounds_toArray,List.set_cons_zero,List.set_cons_succ]
 refine grow_take 8 (some 7) (v:=?va8) rfl rfl (by kernel_rfl) (by kernel_rfl) (by kernel_rfl) (fun _ _ _ h=>h) (by rfl) (fun W hW=>?ya8) ?_
 case ya8=>
  go_simp<;>with_reducible rfl
 try simp only[Act.put,List.setIfInBounds_toArray,List.set_cons_zero,List.set_cons_succ]
 refine grow_done (by kernel_rfl) ?_ _
 go_wp2_with fail
 refine bodyPost_ret (v:=.tuple #[.agg #[.string SN,.slice A7 kx c7],.bool true]) ?_ rfl ?_
 ·exact results_cell2 rfl _ wz (w.heap.size+1) [.string SN,.slice A7 kx c7] _ _ rfl rfl HBz.out.range Tryz.underlying33 rfl (by kernel_rfl)
 ·have hsn:=Hsn.out
  have hxl:=Hxl.out
  subst hsn hxl
  exact⟨(nm,X),A7,c7,ys7,rfl,rfl,HV7.out.1,HV7.out.2.1,HHz.out.1,HHz.out.2,Hbz.out⟩
theorem pone_any (R:List Ru) (s nm:List UInt8) (L:List EA) (w:World) (AR:Option Addr) (m cR:Nat) (hR:Has w w.heap.size 5 AR m (rusC R)) (hsm:∀r∈R,r.small) (hs:s.length≤1000000) (hnm:nm.length≤1000000) (hm:m≤1000000)
  (A:Option Addr) (n c:Nat) (xs:List Value) (hA:Has w w.heap.size 2 A n xs) (hL:EAs w w.heap.size xs L) (hn:n≤1000000) (hvs:∀a∈L,a.2.length≤1000000∧∀u∈a.2,u.length≤1000000) (hT:TM w):
  Calls Tryz.prog 14 #[.agg #[.string (txt nm),.slice A n c],.slice AR m cR,.string (txt s)] w (OnePost (viewV R s (nm,L)) w):=by
 have hF:=fun w hA hL hT=>pformedE_any nm L w A n c xs hA hL hn hnm hvs hT
 have hRe:=fun w hR hT=>reaches_any R s nm w AR m cR hR hsm hs hnm hm hT
 by_cases h:FormedE nm L
 ·have hts:∀a∈L,a.1.length≤1000000:=fun a ha=>typ_short (h.loose.attrs.each a ha).name
  have hAt:=fun w hR hA hL hT=>vattrs_any R s nm L w AR m cR hR hsm hs hnm hm A n c xs hA hL hn hvs hts hT
  rw[Tr_yes h] at hF
  cases hr:reachV R s nm with
  | true=>
   rw[hr] at hRe
   rw[view_yes (e:=(nm,L)) h hr]
   exact pone_ok R s nm L w AR m cR hR A n c xs hA hL hT hF hRe (seenA R s nm L) _ rfl hAt (fun w=>clone_any (txt nm) (by rw[txt_size];omega) w)
  | false=>
   rw[hr] at hRe
   rw[view_no (e:=(nm,L)) fun hh=>by rw[hr] at hh;cases hh.2]
   exact pone_nr R s nm L w AR m cR hR A n c xs hA hL hT hF hRe
 ·rw [Tr_no h] at hF
  rw[view_no (e:=(nm,L)) fun hh=>h hh.1]
  exact pone_nf R s nm L w AR m cR hR A n c xs hA hL hT hF
end Go.Proofs.YtjjepcnijmlliaaGreatDoor
namespace Go.Proofs.YtjjepcnijmlliaaGreatDoor
open Go.RowKit
set_option linter.unusedVariables false
set_option linter.unusedSimpArgs false
theorem one_none {w w':World} {e:Ending} (h:OnePost none w e w'):∃A c,e=.returned (.tuple #[.agg #[.string ⟨#[]⟩,.slice A 0 c],.bool false])∧Below w.heap.size w w':=by
 obtain⟨r,A,c,ys,h1,rfl,_,_,_,_,hb⟩:=h.out
 exact⟨A,c,h1,hb⟩
theorem one_some {v:EN} {w w':World} {e:Ending} (h:OnePost (some v) w e w'):∃A c ys,e=.returned (.tuple #[.agg #[.string (txt v.1),.slice A v.2.length c],.bool true])∧v.2.length≤c∧c≤maxLen∧HasP w' (NewB w.heap.size w'.heap.size) 2 A v.2.length ys∧EAsP w' (NewB w.heap.size w'.heap.size) ys v.2∧Below w.heap.size w w':=by
 obtain⟨r,A,c,ys,h1,rfl,h2,h3,h4,h5,hb⟩:=h.out
 exact⟨A,c,ys,h1,h2,h3,h4,h5,hb⟩
def WeeN (e:EN):Prop:=e.1.length≤1000000∧e.2.length≤1000000∧∀a∈e.2,a.2.length≤1000000∧∀u∈a.2,u.length≤1000000
structure VO (w0 w:World) (AR:Option Addr) (m cR:Nat) (R:List Ru) (A:Option Addr) (n:Nat) (xs:List Value) (L:List EN):Prop where
 base:Below w0.heap.size w0 w
 tm:TM w
 rules:Has w w.heap.size 5 AR m (rusC R)
 has:Has w w.heap.size 2 A n xs
 ents:ENs w w.heap.size xs L
theorem VO.grow {w0 w w':World} {AR:Option Addr} {m cR:Nat} {R:List Ru} {A:Option Addr} {n:Nat} {xs:List Value} {L:List EN}
  (h:VO w0 w AR m cR R A n xs L) (hb:Below w.heap.size w w'):VO w0 w' AR m cR R A n xs L:=
 ⟨h.base.trans (hb.mono h.base.size),h.tm.below hb,(h.rules.below hb).upto hb.size,(h.has.below hb).upto hb.size,h.ents.grow hb⟩
theorem EnAt.below {w w':World} {B g o:Nat} {e:EN} {V:Option Addr} {c:Nat} {ys:List Value} (h:EnAt w B g o e V c ys) (hg:g<B) (hb:Below B w w'):EnAt w' B g o e V c ys:=
 ⟨(hb.cell (p:=⟨g,o,none⟩) hg).trans h.e0,(hb.cell (p:=⟨g,o+1,none⟩) hg).trans h.e1,h.cap,h.most,h.has.below hb,h.attrs.below hb⟩
theorem pof_any (R:List Ru) (s:List UInt8) (L:List EN) (w:World) (AR:Option Addr) (m cR:Nat) (hR:Has w w.heap.size 5 AR m (rusC R)) (hsm:∀r∈R,r.small) (hs:s.length≤1000000) (hm:m≤1000000)
  (A:Option Addr) (n c:Nat) (xs:List Value) (hA:Has w w.heap.size 2 A n xs) (hL:ENs w w.heap.size xs L) (hn:n≤1000000) (hwe:∀e∈L,WeeN e) (hT:TM w):
  Calls Tryz.prog 11 #[.slice A n c,.slice AR m cR,.string (txt s)] w (EntsPost (viewL R s L) w):=by
 have hnl:=hA.ens_n hL
 have hC:VO w w AR m cR R A n xs L:=⟨Below.refl _ _,hT,hR,hA,hL⟩
 have hOne:∀e∈L,∀(w:World) (U:Option Addr) (cu:Nat) (ys:List Value),Has w w.heap.size 5 AR m (rusC R)→Has w w.heap.size 2 U e.2.length ys→EAs w w.heap.size ys e.2→TM w→
   Calls Tryz.prog 14 #[.agg #[.string (txt e.1),.slice U e.2.length cu],.slice AR m cR,.string (txt s)] w (OnePost (viewV R s e) w):=fun e he w U cu ys hR hA hL hT=>by
  obtain⟨h1,h2,h3⟩:=hwe e he
  exact pone_any R s e.1 e.2 w AR m cR hR hsm hs h1 hm U _ cu ys hA hL h2 h3 hT
 have HO:=hide hOne
 have HC:=hide hC
 have HN:=hide hnl
 clear hOne hC hnl hR hsm hs hm hA hL hwe hT
 generalize txt s=S at *
 suffices H:Calls Tryz.prog 11 #[.slice A n c,.slice AR m cR,.string S] w fun e w'=>∃v,e=.returned v∧(∃zs,RowN w' w.heap.size 33 v zs (viewL R s L))∧Below w.heap.size w w' from H.mono fun e w' ⟨v,h1,⟨zs,h2⟩,h3⟩=>by
  subst h1
  exact h2.told h3
 go_enter Tryz.func11,Tryz.ntmps11
 go_wp2
 go_loopg [7,14] n (fun k s7 s14 wx=>∃(i:Nat) (zs:List Value),i+k=n∧s14=.int .i64 (i:Int)∧Hid (RowN wx w.heap.size 33 s7 zs (viewL R s (L.take i)))∧Hid (Below w.heap.size w wx))
 case atStart=>exact⟨0,[],by omega,rfl,hide (RowN.start (World.ownsRow_nil _ _ _ _)),hide (Below.refl _ _)⟩
 case round=>
  obtain⟨i,zs,hig,rfl,hro,hbr⟩:=hrel
  cases gk with
  | zero=>
   obtain rfl:i=n:=by omega
   have hiz:¬((i:Int)<(i:Int)):=by omega
   have ho:=hro.out
   rw[List.take_of_length_le (by rw[←HN.out];exact Nat.le_refl _)] at ho
   have Ho:=hide ho
   clear HO HC HN hro ho
   go_wp2
   go_ret
   exact⟨_,rfl,⟨zs,Ho.out⟩,hbr.out⟩
  | succ r=>
   have hi:i<n:=by omega
   have hiz:(i:Int)<(n:Int):=by omega
   obtain⟨e,he⟩:∃e,L[i]?=some e:=⟨_,List.getElem?_eq_getElem (by rw[←HN.out];exact hi)⟩
   have hem:=List.mem_of_getElem? he
   obtain⟨g,o,hAe,hg,hat⟩:=HC.out.has.en HC.out.ents (fun h=>by rw[h] at he;simp at he)
   subst hAe
   obtain⟨U,cu,ys,hat⟩:=hat i e he
   have hat:=hat.below hg hbr.out
   have e0:=hat.e0
   have e1:=hat.e1
   have hba:=below1 wr (.cells #[.string (txt e.1),.slice U e.2.length cu] 33)
   have hXa:=BoxE.new wr (txt e.1) U e.2.length cu 33
   have z0:=hXa.c0
   have z1:=hXa.c1
   have hC1:=(HC.out.grow hbr.out).grow hba
   have Hcall:=hide (HO.out e hem _ U cu ys hC1.rules (((hat.has.upto hbr.out.size).below hba).upto hba.size) (((hat.attrs.upto hbr.out.size).grow hba)) hC1.tm)
   have Hb1:=hide (hbr.out.trans (hba.mono hbr.out.size))
   have HRo1:=hide (hro.out.below hba)
   have hlen:=view_len R s (L.take i)
   rw[List.length_take] at hlen
   have hlen2:(viewL R s (L.take i)).length+1≤2000000:=by omega
   have Htk:Hid (viewL R s (L.take (i+1))=viewL R s (L.take i)++(viewV R s e).toList):=hide (by rw[List.take_add_one,he];exact view_snoc R s _ e)
   generalize viewV R s e=vo at *
   generalize txt e.1=TA at *
   generalize e.2.length=k at *
   clear hba hXa hC1 hat he hem hbr hro hlen HO HC HN
   cases vo with
   | none=>
    go_wp2_with (go_at_call 14;fail)
    refine Hcall.out.mono ?_
    rintro e w3 hpost
    obtain⟨A3,c3,rfl,hb3⟩:=one_none hpost
    have hba:=below1 w3 (.cells #[.string ⟨#[]⟩,.slice A3 0 c3] 33)
    have Hb4:=hide ((Hb1.out.trans (hb3.mono Hb1.out.size)).trans (hba.mono (Hb1.out.trans (hb3.mono Hb1.out.size)).size))
    have HRo4:Hid (RowN (w3.alloc (.cells #[.string ⟨#[]⟩,.slice A3 0 c3] 33)) w.heap.size 33 u7 zs (viewL R s (L.take (i+1)))):=hide (by
     rw[Htk.out]
     simpa using (HRo1.out.below hb3).below hba)
    clear hpost hb3 hba Hcall HRo1 Hb1 z0 z1 e0 e1
    go_wp2
    go_roundg r
    case measure=>omega
    case rel=>exact⟨i+1,zs,by omega,by go_num,HRo4,Hb4⟩
   | some v=>
    go_wp2_with (go_at_call 14;fail)
    refine Hcall.out.mono ?_
    rintro e w3 hpost
    obtain⟨A3,c3,ys3,rfl,hc3,hm3,hh3,he3,hb3⟩:=one_some hpost
    have HV3:=hide (And.intro hc3 (And.intro hm3 (And.intro hh3 (And.intro he3 hb3))))
    have Hv0:Hid (∃k3 TV,v.2.length=k3∧txt v.1=TV):=hide ⟨_,_,rfl,rfl⟩
    obtain⟨k3,TV,hk3,hTV⟩:=Hv0.out
    rw[hk3,hTV]
    have Hk3:=hide (And.intro hk3 hTV)
    clear hpost hc3 hm3 hh3 he3 Hcall Hv0 z0 z1 e0 e1 hk3 hTV
    have hba:=below1 w3 (.cells #[.string TV,.slice A3 k3 c3] 33)
    have hXb:=BoxE.new w3 TV A3 k3 c3 33
    obtain⟨w4,hw4⟩:∃w4,w3.alloc (.cells #[.string TV,.slice A3 k3 c3] 33)=w4:=⟨_,rfl⟩
    rw[hw4] at hba hXb
    have z0:=hXb.c0
    have z1:=hXb.c1
    have hbc:=below1 w4 (.cells #[.string TV,.slice A3 k3 c3] 33)
    have hlit:=litY w4 (.string TV) (.slice A3 k3 c3) 33 rfl rfl
    have h1c:∀u∈[Value.string TV,Value.slice A3 k3 c3],u.oneCell'=true:=by simp[Value.oneCell']
    have hb34:Below w3.heap.size w3 (w4.alloc (.cells #[.string TV,.slice A3 k3 c3] 33)):=hba.trans (hbc.mono hba.size)
    have hown6:=own_below (own_below HRo1.out.own hb3) hb34
    have hs1:=Hb1.out.size
    have hs6:w.heap.size≤(w4.alloc (.cells #[.string TV,.slice A3 k3 c3] 33)).heap.size:=Nat.le_trans (Nat.le_trans hs1 hb3.size) hb34.size
    have H34:=hide (And.intro hb34 (And.intro hb3 hs1))
    have Hw4:=hide hw4
    clear hba hXb hbc hb34 hb3 hs1 hw4
    go_upto_region 6 with fail
    rw[Hw4.out]
    go_wp2_with (at_builtin;go_must (refine appN _ 22 33 _ 2 40 Tryz.underlying22 infoEN rfl (by omega) (by omega) rfl (.tmp 26) (.tmp 28) rfl w.heap.size _ _ zs rfl hown6 _ _ 1 1 [.string TV,.slice A3 k3 c3] rfl (Has.own hlit) h1c hlen2 hs6 ?_))
    intro v7 w7 hown7 hb7 hg7 ht7
    have HRo7:Hid (RowN w7 w.heap.size 33 v7 (zs++[.string TV,.slice A3 k3 c3]) (viewL R s (L.take (i+1)))):=hide (by
     rw[Htk.out]
     obtain⟨hk,ht⟩:=Hk3.out
     subst hk ht
     exact HRo1.out.more H34.out.2.2 H34.out.2.1 HV3.out.1 HV3.out.2.1 H34.out.1 HV3.out.2.2.1 HV3.out.2.2.2.1 hown7 hg7 (ht7.imp id fun h=>h.trans (by simp)))
    have Hb9:=hide ((Hb1.out.trans (H34.out.2.1.mono Hb1.out.size)).trans ((H34.out.1.mono (Hb1.out.trans (H34.out.2.1.mono Hb1.out.size)).size).trans hb7))
    clear hown7 hb7 hg7 ht7 HV3 HRo1 H34 Hw4 hlit h1c hown6 hs6 z0 z1 hlen2
    go_wp2
    go_roundg r
    case measure=>omega
    case rel=>exact⟨i+1,_,by omega,by go_num,HRo7,Hb9⟩
end Go.Proofs.YtjjepcnijmlliaaGreatDoor
namespace Go.Proofs.YtjjepcnijmlliaaGreatDoor
open Go.RowKit
set_option linter.unusedVariables false
set_option linter.unusedSimpArgs false
end Go.Proofs.YtjjepcnijmlliaaGreatDoor
namespace Go.Proofs.YtjjepcnijmlliaaGreatDoor
open Go.RowKit
set_option linter.unusedVariables false
set_option linter.unusedSimpArgs false
def findN:List EN→List UInt8→Nat→Int
 | [],_,_=> -1
 | e::L,n,i=>if e.1=n then (i:Int) else findN L n (i+1)
noncomputable def atN (L:List EN) (nm:List UInt8):Int:=if (normT nm).2=0 then findN L (normT nm).1 0 else -1
theorem findN_drop {L:List EN} {i:Nat} {e:EN} (h:L[i]?=some e) (n:List UInt8):findN (L.drop i) n i=if e.1=n then (i:Int) else findN (L.drop (i+1)) n (i+1):=by
 obtain⟨h1,h2⟩:=List.getElem?_eq_some_iff.1 h
 rw[List.drop_eq_getElem_cons h1,h2]
 rfl
theorem findN_yes:∀{L:List EN} {e:EN} {n:List UInt8} (i:Nat),e∈L→e.1=n→(i:Int)≤findN L n i
 | x::L,e,n,i,hm,he=>by
  unfold findN
  split
  ·omega
  ·rename_i hx
   rcases List.mem_cons.1 hm with rfl | hm
   ·exact absurd he hx
   ·have:=findN_yes (i+1) hm he
    omega
theorem findN_some:∀{L:List EN} {n:List UInt8} (i:Nat),0≤findN L n i→∃k e,L[k]?=some e∧e.1=n∧findN L n i=((i+k:Nat):Int)
 | [],n,i,h=>by unfold findN at h;omega
 | x::L,n,i,h=>by
  unfold findN at h ⊢
  split
  ·rename_i hx
   exact⟨0,x,rfl,hx,by omega⟩
  ·rename_i hx
   rw[if_neg hx] at h
   obtain⟨k,e,h1,h2,h3⟩:=findN_some (i+1) h
   exact⟨k+1,e,by simpa using h1,h2,by rw[h3];omega⟩
theorem atN_yes {L:List EN} {e:EN} {nm:List UInt8} (h:normT nm=(nm,0)) (hm:e∈L) (he:e.1=nm):0≤atN L nm:=by
 unfold atN
 rw[if_pos (by rw[h]),h]
 have:=findN_yes (n:=nm) 0 hm he
 simpa using this
theorem rat_any (L:List EN) (nm:List UInt8) (w:World) (A:Option Addr) (n c:Nat) (xs:List Value) (hA:Has w w.heap.size 2 A n xs) (hL:ENs w w.heap.size xs L) (hn:n≤1000000000) (hnm:nm.length≤1000000) (hT:TM w):
  Calls Tryz.prog 17 #[.slice A n c,.string (txt nm)] w fun e w'=>e=.returned (.int .i64 (atN L nm))∧Below w.heap.size w w':=by
 have hnl:=hA.ens_n hL
 have hN:=rnormal_text nm hnm w hT
 obtain⟨R,hR⟩:∃R,atN L nm=R:=⟨_,rfl⟩
 rw[hR]
 have HN:=hide hN
 have HA:=hide hA
 have HL:=hide hL
 have Hn:=hide hnl
 have HR:=hide hR
 clear hN hA hL hnl hR hT hnm
 obtain⟨T,hTt⟩:∃T,(normT nm).1=T:=⟨_,rfl⟩
 obtain⟨y,hy⟩:∃y,(normT nm).2=y:=⟨_,rfl⟩
 rw[hTt,hy] at HN
 have HR2:Hid ((if y=0 then findN L T 0 else -1)=R):=hide (by rw[←HR.out];unfold atN;rw[hTt,hy])
 clear HR hTt hy
 generalize txt nm=S at *
 obtain⟨TS,hTS⟩:∃TS,txt T=TS:=⟨_,rfl⟩
 have HTS:=hide hTS
 rw[hTS] at HN
 clear hTS
 go_enter Tryz.func17,Tryz.ntmps17
 go_wp2_with (go_at_call 23;fail)
 refine HN.out.mono ?_
 rintro e w2 ⟨rfl,hb2⟩
 have HB2:=hide hb2
 have HA2:=hide ((HA.out.below hb2).upto hb2.size)
 have HL2:=hide (HL.out.grow hb2)
 clear hb2 HN HA HL
 by_cases hy0:y=0
 ·have hf:Hid (findN L T 0=R):=hide (by have:=HR2.out;rwa [if_pos hy0] at this)
  subst hy0
  clear HR2
  go_wp2
  go_loopg [15] n (fun r s15 wx=>∃i:Nat,i+r=n∧s15=.int .i64 (i:Int)∧Hid (findN (L.drop i) T i=R)∧wx=w2)
  case atStart=>exact⟨0,by omega,rfl,hide (by rw[List.drop_zero];exact hf.out),rfl⟩
  case round=>
   obtain⟨i,hig,rfl,hpre,hw⟩:=hrel
   obtain rfl:=hw.symm
   clear hw hf
   cases gk with
   | zero=>
    obtain rfl:i=n:=by omega
    have hiz:¬((i:Int)<(i:Int)):=by omega
    have hp:=hpre.out
    rw[List.drop_eq_nil_of_le (by rw[Hn.out];exact Nat.le_refl _)] at hp
    have hR1:Hid (R= -1):=hide (by rw[←hp];rfl)
    clear hp hpre HA2 HL2 Hn HTS
    go_wp2
    go_ret
    exact⟨by rw[hR1.out];rfl,HB2.out⟩
   | succ r=>
    have hi:i<n:=by omega
    have hiz:(i:Int)<(n:Int):=by omega
    obtain⟨e,he⟩:∃e,L[i]?=some e:=⟨_,List.getElem?_eq_getElem (by rw[←Hn.out];exact hi)⟩
    obtain⟨g,o,hAe,hg,hat⟩:=HA2.out.en HL2.out (fun h=>by rw[h] at he;simp at he)
    subst hAe
    obtain⟨U,cu,us,hat⟩:=hat i e he
    have e0:=hat.e0
    have hpd:=findN_drop he T
    rw[hpre.out] at hpd
    by_cases h1:e.1=T
    ·rw [if_pos h1] at hpd
     have q1:((txt e.1).toList==TS.toList)=true:=by rw[h1,HTS.out];simp
     have Hpd:=hide hpd
     generalize txt e.1=TE at *
     clear hat he hpre hpd h1 HA2 HL2 Hn HTS
     go_wp2
     go_ret
     exact⟨by rw[Hpd.out];rfl,HB2.out⟩
    ·rw [if_neg h1] at hpd
     have q1:((txt e.1).toList==TS.toList)=false:=by rw[←HTS.out];exact str_ne h1
     have Hpd:=hide hpd.symm
     generalize txt e.1=TE at *
     clear hat he hpre hpd h1
     go_wp2
     go_roundg r
     case measure=>omega
     case rel=>exact⟨i+1,by omega,by go_num,Hpd,rfl⟩
 ·have hR1:Hid (R= -1):=hide (by have:=HR2.out;rw[if_neg hy0] at this;exact this.symm)
  have q0:(y==0)=false:=beq_false_of_ne hy0
  have q1:(y !=0)=true:=by unfold bne;rw[q0];rfl
  clear HR2
  go_wp2
  go_loopg [15] n (fun r s15 wx=>∃i:Nat,i+r=n∧s15=.int .i64 (i:Int)∧wx=w2)
  case atStart=>exact⟨0,by omega,rfl,rfl⟩
  case round=>
   obtain⟨i,hig,rfl,hw⟩:=hrel
   obtain rfl:=hw.symm
   clear hw
   cases gk with
   | zero=>
    obtain rfl:i=n:=by omega
    have hiz:¬((i:Int)<(i:Int)):=by omega
    clear HA2 HL2 Hn HTS
    go_wp2
    go_ret
    exact⟨by rw[hR1.out];rfl,HB2.out⟩
   | succ r=>
    have hi:i<n:=by omega
    have hiz:(i:Int)<(n:Int):=by omega
    go_wp2
    go_roundg r
    case measure=>omega
    case rel=>exact⟨i+1,by omega,by go_num,rfl⟩
end Go.Proofs.YtjjepcnijmlliaaGreatDoor
