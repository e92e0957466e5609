/- Several texts in one: GrowZ, LState, LRead1. By an AI agent. -/
import Derived.Test.YtpkedjohgmnhhaaGreatM06
import Derived.Test.YtpkedjohgmnhhaaGreatM04
import Derived.Test.YtpkedjohgmnhhaaGreatM02
set_option maxRecDepth 100000
set_option maxHeartbeats 16000000
set_option linter.unusedSimpArgs false
namespace Go.Proofs.YtpkedjohgmnhhaaGreat
open Go Go.RowKit
def waitZ (md:Region.Mode) (ops:Array Oper) (Z:List Nat) (listed:Array Bool) (i:Nat):Bool:=Z.all fun z=>listed.getD z false||waitsOn md ops z i
section
variable {P:Program} {ops:Array Oper} {Q:Exit→Act→World→Prop} {md:Region.Mode} {Z:List Nat}
variable {R:World→World→Prop} [Way R]
def wpAnyZ (R:World→World→Prop) (P:Program) (md:Region.Mode) (ops:Array Oper) (Q:Exit→Act→World→Prop) (Z:List Nat):Nat→Array Bool→Act→World→Prop
 | 0,listed,a,w=>Region.ready md ops listed=[]∧Q .normal a w
 | fuel+1,listed,a,w=>
  (Region.ready md ops listed=[]→Q .normal a w)∧
  ∀i∈Region.ready md ops listed,wpOp P ops Q i (fun a' w'=>(i ∉ Z→R w w')∧wpAnyZ R P md ops Q Z fuel (listed.setIfInBounds i true) a' w') a w
omit [Way R] in
theorem wpAny_of_growZ:∀(fuel:Nat) (listed:Array Bool) (a:Act) (w:World),wpAnyZ R P md ops Q Z fuel listed a w→wpAny P md ops Q fuel listed a w
 | 0,_,_,_,h=>h
 | fuel+1,_,_,_,h=>⟨h.1,fun i hi=>wpOp_mono (fun a' w' h'=>wpAny_of_growZ fuel _ a' w' h'.2) (h.2 i hi)⟩
theorem grow_firstZ {S:World→World→Prop} (hS0:∀w,S w w) {i:Nat} {oi:Oper} {v:Value} (hi:ops[i]?=some oi) (hsel:∀(j:Nat) (o:Oper) cs b,ops[j]?=some o→o.op≠.select cs b)
  (hQ:∀c a w,Q (.panic c) (a.put oi.dst v) w→Q (.panic c) a w):
  ∀(fuel:Nat) (listed:Array Bool) (a:Act) (w:World),
   ((∀w w' W,S w' W→S w W)∨((∀w w' W,R w w'→S w' W→S w W)∧waitZ md ops Z listed i=true))→
   (∀j oj,ops[j]?=some oj→j≠i→listed.getD j true=false→(∀e∈oj.after,Region.binds md e=true→e.on≠i)→oi.apart ops oj=true)→
   i∈Region.ready md ops listed→YieldsIf P ops (S w) oi v a→
   wpAnyZ R P md ops Q Z fuel (listed.setIfInBounds i true) (a.put oi.dst v) w→wpAnyZ R P md ops Q Z (fuel+1) listed a w:=by
 intro fuel
 induction fuel with
 | zero=>
  intro listed a w _ _ hr hy H
  refine⟨fun h=>(by rw[h] at hr;cases hr),fun j hj=>?_⟩
  rcases Nat.decEq j i with hne | rfl
  ·have hm:=ready_mono hj hne
   rw[H.1] at hm
   cases hm
  ·exact hy.wpOp hi (hS0 w) ⟨fun _=>Way.refl w,H⟩
 | succ fuel ih=>
  intro listed a w hS hfree hr hy H
  refine⟨fun h=>(by rw[h] at hr;cases hr),fun j hj=>?_⟩
  rcases Nat.decEq j i with hne | rfl
  ·obtain ⟨hun,oj,hoj,hwait⟩:=mem_ready.1 hj
   have hno:∀e∈oj.after,Region.binds md e=true→e.on≠i:=by
    intro e he hb hon
    have h1:=hwait e he hb
    have h0:=(mem_ready.1 hr).1
    rw[hon] at h1
    rcases Nat.lt_or_ge i listed.size with hlt | hge
    ·simp [hlt] at h0 h1
     rw[h0] at h1
     cases h1
    ·simp [Array.getElem?_eq_none hge] at h1
   have hjl:listed.getD j false=false:=by
    rcases Nat.lt_or_ge j listed.size with hlt | hge
    ·simp [hlt] at hun ⊢;exact hun
    ·simp [Array.getElem?_eq_none hge]
   have hstep:=wpOp_putIf hoj (hfree j oj hoj hne hun hno) (fun cs b=>hsel i oi cs b hi) (fun cs b=>hsel j oj cs b hoj) hQ hy (H.2 j (ready_mono hj hne))
   refine wpOp_mono (fun a' w' hh=>⟨hh.2.1,ih (listed.setIfInBounds j true) a' w' ?_ ?_ (ready_mono hr (Ne.symm hne)) ?_ ?_⟩) hstep
   ·rcases hS with hS | ⟨hS,hw⟩
    ·exact .inl hS
    ·refine .inr ⟨hS,?_⟩
     unfold waitZ at hw ⊢
     rw[List.all_eq_true] at hw ⊢
     intro z hz
     have:=hw z hz
     simp only[Bool.or_eq_true] at this ⊢
     rcases this with h | h
     ·left
      rcases Nat.decEq j z with hjz | rfl
      ·simp only[Array.getD_eq_getD_getElem?,Array.getElem?_setIfInBounds] at h ⊢
       rw[if_neg hjz];exact h
      ·rw [h] at hjl;cases hjl
     ·exact .inr h
   ·intro k ok hk hki hkun hkno
    refine hfree k ok hk hki ?_ hkno
    rcases Nat.decEq j k with hjk | rfl
    ·rwa [getD_set_ne true hjk] at hkun
    ·exact hun
   ·refine hh.1.imp (fun ⟨x,y⟩=>⟨x,fun W hW=>y W ?_⟩) id
    rcases hS with hS | ⟨hS,hw⟩
    ·exact hS _ _ _ hW
    ·refine hS _ _ _ (hh.2.1 fun hz=>?_) hW
     unfold waitZ at hw
     rw[List.all_eq_true] at hw
     have:=hw j hz
     rw[hjl,Bool.false_or] at this
     obtain⟨e,he,hb,hon⟩:=waitsOn_spec this oj hoj
     exact hno e he hb hon
   ·rw [Array.setIfInBounds_comm _ _ hne]
    exact hh.2.2
  ·exact hy.wpOp hi (hS0 w) ⟨fun _=>Way.refl w,H⟩
theorem grow_takeZ (i:Nat) (d:Option Tmp) {oi:Oper} {v:Value} {fuel:Nat} {listed:Array Bool} {a:Act} {w:World} (hi:ops[i]?=some oi) (hd:oi.dst=d)
  (hs:Region.noSelect ops=true) (hf:Region.free md ops listed i=true) (hr:(Region.ready md ops listed).contains i=true)
  (hQ:∀c a w,Q (.panic c) (a.put d v) w→Q (.panic c) a w) (hz:waitZ md ops Z listed i=true) (hw:Region.wanted oi (yielded ops a.tmps)=true) (hy:∀W,R w W→(execOp a.eval oi).run P W=.ok (.value v) W)
  (h:wpAnyZ R P md ops Q Z fuel (listed.setIfInBounds i true) (a.put d v) w):wpAnyZ R P md ops Q Z (fuel+1) listed a w:=by
 subst hd
 exact grow_firstZ (S:=R) Way.refl hi (Region.noSelect_spec hs) hQ fuel listed a w (.inr ⟨fun _ _ _ h k=>Way.trans h k,hz⟩) (Region.free_spec hi hf) (by simpa using hr) (.inl ⟨hw,hy⟩) h
theorem grow_takeP (i:Nat) (d:Option Tmp) {oi:Oper} {v:Value} {fuel:Nat} {listed:Array Bool} {a:Act} {w:World} (hi:ops[i]?=some oi) (hd:oi.dst=d)
  (hs:Region.noSelect ops=true) (hf:Region.free md ops listed i=true) (hr:(Region.ready md ops listed).contains i=true)
  (hQ:∀c a w,Q (.panic c) (a.put d v) w→Q (.panic c) a w) (hw:Region.wanted oi (yielded ops a.tmps)=true) (hy:∀W,(execOp a.eval oi).run P W=.ok (.value v) W)
  (h:wpAnyZ R P md ops Q Z fuel (listed.setIfInBounds i true) (a.put d v) w):wpAnyZ R P md ops Q Z (fuel+1) listed a w:=by
 subst hd
 exact grow_firstZ (S:=fun _ _=>True) (fun _=>trivial) hi (Region.noSelect_spec hs) hQ fuel listed a w (.inl fun _ _ _ _=>trivial) (Region.free_spec hi hf) (by simpa using hr) (.inl ⟨hw,fun W _=>hy W⟩) h
theorem grow_skipZ (i:Nat) (d:Option Tmp) {oi:Oper} {fuel:Nat} {listed:Array Bool} {a:Act} {w:World} (hi:ops[i]?=some oi) (hd:oi.dst=d)
  (hs:Region.noSelect ops=true) (hf:Region.free md ops listed i=true) (hr:(Region.ready md ops listed).contains i=true)
  (hQ:∀c a w,Q (.panic c) (a.put d undef) w→Q (.panic c) a w) (hw:Region.wanted oi (yielded ops a.tmps)=false)
  (h:wpAnyZ R P md ops Q Z fuel (listed.setIfInBounds i true) (a.put d undef) w):wpAnyZ R P md ops Q Z (fuel+1) listed a w:=by
 subst hd
 exact grow_firstZ (S:=fun _ _=>True) (fun _=>trivial) hi (Region.noSelect_spec hs) hQ fuel listed a w (.inl fun _ _ _ _=>trivial) (Region.free_spec hi hf) (by simpa using hr) (.inr ⟨hw,rfl⟩) h
omit [Way R] in
theorem grow_onlyZ (i:Nat) {oi:Oper} {fuel:Nat} {listed:Array Bool} {a:Act} {w:World} (hi:ops[i]?=some oi) (hr:Region.ready md ops listed=[i])
  (h:∀K':Act→World→Prop,Shut (∀a' w',(i ∉ Z→R w w')→wpAnyZ R P md ops Q Z fuel (listed.setIfInBounds i true) a' w'→K' a' w')→if Region.wanted oi (yielded ops a.tmps)=true then Oper.wp P oi a w K' Q else K' (a.put oi.dst undef) w):
  wpAnyZ R P md ops Q Z (fuel+1) listed a w:=by
 refine⟨fun h0=>(by rw[hr] at h0;cases h0),fun j hj=>?_⟩
 rw[hr] at hj
 obtain rfl:j=i:=by simpa using hj
 exact wpOp_step hi (fun K' hK=>h K' (fun a' w' hb hg=>hK a' w' ⟨hb,hg⟩))
omit [Way R] in
theorem grow_doneZ {listed:Array Bool} {a:Act} {w:World} (hr:Region.ready md ops listed=[]) (h:Q .normal a w):
  ∀fuel,wpAnyZ R P md ops Q Z fuel listed a w
 | 0=>⟨hr,h⟩
 | _+1=>⟨fun _=>h,by rw[hr];simp⟩
def AllZ (R:World→World→Prop) (P:Program) (md:Region.Mode) (ops:Array Oper) (Q:Exit→Act→World→Prop) (Z:List Nat) (fuel:Nat) (listed:Array Bool) (a:Act) (w:World) (rs:List Nat):Prop:=
 ∀i∈rs,wpOp P ops Q i (fun a' w'=>(i ∉ Z→R w w')∧wpAnyZ R P md ops Q Z fuel (listed.setIfInBounds i true) a' w') a w
omit [Way R] in
theorem AllZ.nil {fuel:Nat} {listed:Array Bool} {a:Act} {w:World}:AllZ R P md ops Q Z fuel listed a w []:=fun _ h=>by cases h
omit [Way R] in
theorem AllZ.cons {fuel:Nat} {listed:Array Bool} {a:Act} {w:World} {i:Nat} {oi:Oper} {rs:List Nat} (hi:ops[i]?=some oi)
  (h:∀K':Act→World→Prop,Shut (∀a' w',(i ∉ Z→R w w')→wpAnyZ R P md ops Q Z fuel (listed.setIfInBounds i true) a' w'→K' a' w')→if Region.wanted oi (yielded ops a.tmps)=true then Oper.wp P oi a w K' Q else K' (a.put oi.dst undef) w)
  (hs:AllZ R P md ops Q Z fuel listed a w rs):AllZ R P md ops Q Z fuel listed a w (i::rs):=fun j hj=>by
 rcases List.mem_cons.1 hj with rfl | hj
 ·exact wpOp_step hi (fun K' hK=>h K' (fun a' w' hb hg=>hK a' w' ⟨hb,hg⟩))
 ·exact hs j hj
omit [Way R] in
theorem grow_eachZ (rs:List Nat) {fuel:Nat} {listed:Array Bool} {a:Act} {w:World} (hr:Region.ready md ops listed=rs) (hne:rs≠[]) (h:AllZ R P md ops Q Z fuel listed a w rs):
  wpAnyZ R P md ops Q Z (fuel+1) listed a w:=by
 refine⟨fun h0=>absurd (hr ▸ h0) hne,fun j hj=>?_⟩
 rw[hr] at hj
 exact h j hj
theorem grow_beginZ (R:World→World→Prop) [Way R] (Z:List Nat) {id:Nat} {a:Act} {w:World} (hm:P.follows .mixedOrders=true)
  (h:wpAnyZ R P .any ops Q Z ops.size (Array.replicate ops.size false) a w.drew):(Code.region id ops true).wp P Q a w:=
 wp_region_any hm (wpAny_of_growZ _ _ _ _ h)
end
end Go.Proofs.YtpkedjohgmnhhaaGreat
namespace Go.Proofs.YtpkedjohgmnhhaaGreat
open Go.RowKit
set_option linter.unusedVariables false
structure Fr (X:Nat→Prop) (w w':World):Prop where
 os:w'.os=w.os
 tape:w'.tape=w.tape
 output:w'.output=w.output
 size:w.heap.size≤w'.heap.size
 same:∀k,k<w.heap.size→¬X k→w'.heap[k]?=w.heap[k]?
section
variable {X Y:Nat→Prop} {w w' w1:World}
theorem Fr.refl (X:Nat→Prop) (w:World):Fr X w w:=⟨rfl,rfl,rfl,Nat.le_refl _,fun _ _ _=>rfl⟩
theorem Fr.trans (h:Fr X w w1) (k:Fr X w1 w'):Fr X w w':=
 ⟨k.os.trans h.os,k.tape.trans h.tape,k.output.trans h.output,Nat.le_trans h.size k.size,fun i hi hx=>(k.same i (Nat.lt_of_lt_of_le hi h.size) hx).trans (h.same i hi hx)⟩
theorem Fr.mono (h:Fr X w w') (hx:∀k,k<w.heap.size→X k→Y k):Fr Y w w':=⟨h.os,h.tape,h.output,h.size,fun i hi hy=>h.same i hi fun q=>hy (hx i hi q)⟩
theorem Fr.trans' (h:Fr X w w1) (k:Fr Y w1 w') (hx:∀i,i<w.heap.size→Y i→X i):Fr X w w':=
 ⟨k.os.trans h.os,k.tape.trans h.tape,k.output.trans h.output,Nat.le_trans h.size k.size,fun i hi hn=>(k.same i (Nat.lt_of_lt_of_le hi h.size) (fun q=>hn (hx i hi q))).trans (h.same i hi hn)⟩
theorem Fr.of (h:Below w.heap.size w w'):Fr X w w':=⟨h.os,h.tape,h.output,h.size,fun i hi _=>h.block i hi⟩
theorem Fr.below {B:Nat} (h:Fr X w w') (hB:B≤w.heap.size) (hx:∀k,X k→B≤k):Below B w w':=
 ⟨h.os,h.tape,h.output,h.size,fun i hi=>h.same i (by omega) fun q=>by have:=hx i q;omega⟩
theorem Fr.setCell (w:World) (p:Addr) (u:Value) (hp:X p.block):Fr X w (w.setCell p u):=
 ⟨rfl,rfl,rfl,by simp[World.setCell],fun i _ hx=>Below.heap_setCell w p u i (fun e=>hx (e ▸ hp))⟩
theorem Fr.alloc (X:Nat→Prop) (w:World) (o:Obj):Fr X w (w.alloc o):=Fr.of ((Below.refl _ w).alloc (Nat.le_refl _) o)
theorem Fr.drew (X:Nat→Prop) (w:World):Fr X w w.drew:=Fr.of (Below.refl _ w).drew
theorem Fr.cell (h:Fr X w w') {p:Addr} (hp:p.block<w.heap.size) (hx:¬X p.block):w'.cell? p=w.cell? p:=World.cell?_of_block (w:=w) (h.same p.block hp hx)
theorem Fr.frozen (h:Fr X w w') {p:Addr} (hp:p.block<w.heap.size) (hx:¬X p.block):w'.frozen? p=w.frozen? p:=World.frozen?_of_block (w:=w) (h.same p.block hp hx)
theorem Fr.grown {row:Option Nat} (hg:w.grownBy w' row) (hr:∀k,row=some k→X k):Fr X w w':=
 ⟨hg.os,hg.tape,hg.output,hg.size,fun i hi hx=>hg.block i hi fun e=>hx (hr i e.symm)⟩
instance frWay (X:Nat→Prop):Way (Fr X):=⟨fun _=>Fr.refl _ _,fun h k=>h.trans k⟩
theorem HasP.fr {P P':Nat→Prop} {size n:Nat} {A:Option Addr} {xs:List Value} (h:HasP w P size A n xs) (hf:Fr X w w') (hP:∀b,P b→b<w.heap.size∧¬X b∧P' b):HasP w' P' size A n xs:=
 h.move (fun p hp=>hf.cell (hP _ hp).1 (hP _ hp).2.1) fun b hb=>(hP b hb).2.2
theorem HasP.lies {P:Nat→Prop} {size n:Nat} {A:Option Addr} {xs:List Value} (h:HasP w P size A n xs) (hn:0<xs.length):∃g o,A=some ⟨g,o,none⟩∧P g∧∀j u,xs[j]?=some u→w.cell? ⟨g,o+j,none⟩=some u:=by
 rcases h.2 with rfl | ⟨ad,rfl,hb,hc⟩
 ·simp at hn
 ·obtain ⟨g,o,sp⟩:=ad
  have h0:=hc 0 _ (List.getElem?_eq_getElem hn)
  have hsp:sp=none:=by simpa[Addr.add] using World.cell?_spot h0
  subst hsp
  refine⟨g,o,rfl,hb,fun j u hu=>?_⟩
  have:=hc j u hu
  rwa [show (⟨g,o,none⟩:Addr).add j=⟨g,o+j,none⟩ by unfold Addr.add;split<;>simp_all] at this
theorem HasP.tail {P:Nat→Prop} {n g o:Nat} {x:Value} {xs:List Value} (h:HasP w P 1 (some ⟨g,o,none⟩) (n+1) (x::xs)):HasP w P 1 (some ⟨g,o+1,none⟩) n xs:=by
 have h1:=h.1
 refine⟨by simpa using h1,?_⟩
 rcases h.2 with h0 | ⟨ad,e,hb,hc⟩
 ·cases h0
 ·cases e
  refine .inr ⟨_,rfl,hb,fun j u hu=>?_⟩
  have:=hc (j+1) u (by simpa using hu)
  have e:(⟨g,o,none⟩:Addr).add (j+1)=(⟨g,o+1,none⟩:Addr).add j:=by
   unfold Addr.add
   split<;>split<;>simp_all<;>omega
  rwa [e] at this
theorem HasP.none {P:Nat→Prop} {size:Nat} (w:World):HasP w P size none 0 []:=⟨by simp,.inl rfl⟩
end
structure RdS (w:World) (lo g b:Nat) (F:List Fd) (φ:Bool):Prop where
 lt:g<w.heap.size
 log:lo≤g
 blo:b<lo
 mem:∃A c A' c' xs,w.cell? ⟨g,0,none⟩=some (.slice A F.length c)∧w.cell? ⟨g,1,none⟩=some (.slice A' F.length c')∧(F.length≤c∧c≤maxLen∧F.length≤c'∧c'≤maxLen)∧
  HasP w (fun k=>lo≤k∧k<g) 1 A F.length (bys (F.map Prod.fst))∧HasP w (fun k=>lo≤k∧k<g) 1 A' F.length xs∧
  ∀(i:Nat) (f:Fd),F[i]?=some f→∃B d,xs[i]?=some (Value.slice B f.2.length d)∧f.2.length≤d∧d≤maxLen∧HasP w (fun k=>lo≤k∧k<g) 1 B f.2.length (bys f.2)
 c2:w.cell? ⟨g,2,none⟩=some (.pointer (some ⟨b,0,none⟩))
 fz:∀i,w.frozen? ⟨g,i,none⟩=false
 fc:w.cell? ⟨b,0,none⟩=some (.bool φ)
 fzb:∀i,w.frozen? ⟨b,i,none⟩=false
 small:F.length≤16384∧∀f∈F,f.2.length≤16384
section
variable {w w':World} {lo g b:Nat} {F:List Fd} {φ:Bool} {X:Nat→Prop}
theorem RdS.fr (h:RdS w lo g b F φ) (hf:Fr X w w') (hg:¬X g) (hb:¬X b) (hI:∀k,lo≤k→k<g→¬X k):RdS w' lo g b F φ:=by
 have hlt:=h.lt
 have hlog:=h.log
 have hblo:=h.blo
 refine⟨Nat.lt_of_lt_of_le h.lt hf.size,h.log,h.blo,?_,(hf.cell h.lt hg).trans h.c2,fun i=>(hf.frozen h.lt hg).trans (h.fz i),(hf.cell (by simp only;omega) hb).trans h.fc,fun i=>(hf.frozen (by simp only;omega) hb).trans (h.fzb i),h.small⟩
 obtain⟨A,c,A',c',xs,h1,h2,h3,h4,h5,h6⟩:=h.mem
 have key:∀k,(lo≤k∧k<g)→k<w.heap.size∧¬X k∧(lo≤k∧k<g):=fun k hk=>⟨by omega,hI k hk.1 hk.2,hk⟩
 refine⟨A,c,A',c',xs,(hf.cell h.lt hg).trans h1,(hf.cell h.lt hg).trans h2,h3,h4.fr hf key,h5.fr hf key,fun i f hi=>?_⟩
 obtain⟨B,d,q1,q2,q3,q4⟩:=h6 i f hi
 exact⟨B,d,q1,q2,q3,q4.fr hf key⟩
def own2 (g b:Nat):Nat→Prop:=fun k=>k=g∨k=b
theorem RdS.failed (h:RdS w lo g b F φ):RdS (w.setCell ⟨b,0,none⟩ (.bool true)) lo g b F true:=by
 have hlog:=h.log
 have hblo:=h.blo
 have hf:Fr (fun k=>k=b) w (w.setCell ⟨b,0,none⟩ (.bool true)):=Fr.setCell w _ _ rfl
 have h1:=h.lt
 have kb:∀k,k<w.heap.size→k≠b→(w.setCell ⟨b,0,none⟩ (.bool true)).heap[k]?=w.heap[k]?:=fun k hk hn=>hf.same k hk hn
 obtain⟨A,c,A',c',xs,q1,q2,q3,q4,q5,q6⟩:=h.mem
 have key:∀k,(lo≤k∧k<g)→k<w.heap.size∧¬(k=b)∧(lo≤k∧k<g):=fun k hk=>⟨by omega,by omega,hk⟩
 have hgb:¬(g=b):=by omega
 refine⟨Nat.lt_of_lt_of_le h.lt hf.size,h.log,h.blo,⟨A,c,A',c',xs,(hf.cell h.lt hgb).trans q1,(hf.cell h.lt hgb).trans q2,q3,q4.fr hf key,q5.fr hf key,fun i f hi=>?_⟩,(hf.cell h.lt hgb).trans h.c2,fun i=>(hf.frozen h.lt hgb).trans (h.fz i),
  World.cell?_setCell_same _ _ _ h.fc,fun i=>by rw[World.frozen?_setCell];exact h.fzb i,h.small⟩
 obtain⟨B,d,p1,p2,p3,p4⟩:=q6 i f hi
 exact⟨B,d,p1,p2,p3,p4.fr hf key⟩
theorem RdS.step {f:Fd} {gt ot ct gc oc cc:Nat} {A1 A2:Option Addr} (hA1:F=[]∨A1=some ⟨gt,ot+1,none⟩) (hA2:F=[]∨A2=some ⟨gc,oc+1,none⟩) (h:RdS w lo g b (f::F) φ) (e0:w.cell? ⟨g,0,none⟩=some (.slice (some ⟨gt,ot,none⟩) (F.length+1) ct)) (e1:w.cell? ⟨g,1,none⟩=some (.slice (some ⟨gc,oc,none⟩) (F.length+1) cc)):
  RdS ((w.setCell ⟨g,0,none⟩ (.slice A1 F.length (ct-1))).setCell ⟨g,1,none⟩ (.slice A2 F.length (cc-1))) lo g b F φ:=by
 have hlog:=h.log
 have hblo:=h.blo
 have h1:=h.lt
 obtain⟨A,c,A',c',xs,q1,q2,q3,q4,q5,q6⟩:=h.mem
 rw[e0] at q1
 rw[e1] at q2
 simp only[Option.some.injEq,Value.slice.injEq,List.length_cons] at q1 q2
 obtain⟨rfl,_,rfl⟩:=q1
 obtain⟨rfl,_,rfl⟩:=q2
 have hf1:Fr (fun k=>k=g) w (w.setCell ⟨g,0,none⟩ (.slice A1 F.length (ct-1))):=Fr.setCell w _ _ rfl
 have hf2:Fr (fun k=>k=g) (w.setCell ⟨g,0,none⟩ (.slice A1 F.length (ct-1))) ((w.setCell ⟨g,0,none⟩ (.slice A1 F.length (ct-1))).setCell ⟨g,1,none⟩ (.slice A2 F.length (cc-1))):=Fr.setCell _ _ _ rfl
 have hf:=hf1.trans hf2
 have key:∀k,(lo≤k∧k<g)→k<w.heap.size∧¬(k=g)∧(lo≤k∧k<g):=fun k hk=>⟨by omega,by omega,hk⟩
 have hbg:¬(b=g):=by omega
 have hbs:b<w.heap.size:=by omega
 simp only[List.length_cons] at q3 q4 q5
 obtain⟨r1,r2,r3,r4⟩:=q3
 obtain⟨x,ys,rfl⟩:∃x ys,xs=x::ys:=by
  cases xs with
  | nil=>have:=q5.1;simp at this
  | cons x ys=>exact⟨x,ys,rfl⟩
 have t4:=HasP.tail (x:=c8 f.1) (xs:=bys (F.map Prod.fst)) (by simpa[bys] using q4)
 have t5:=HasP.tail q5
 have t4:HasP w (fun k=>lo≤k∧k<g) 1 A1 F.length (bys (F.map Prod.fst)):=by
  rcases hA1 with rfl | rfl
  ·exact ⟨rfl,.inl rfl⟩
  ·exact t4
 have t5:HasP w (fun k=>lo≤k∧k<g) 1 A2 F.length ys:=by
  rcases hA2 with rfl | rfl
  ·have:=t5.1
   exact⟨this,.inl (List.eq_nil_of_length_eq_zero (by simpa using this))⟩
  ·exact t5
 refine⟨Nat.lt_of_lt_of_le h.lt hf.size,h.log,h.blo,⟨_,ct-1,_,cc-1,ys,?_,?_,⟨by omega,by omega,by omega,by omega⟩,t4.fr hf key,t5.fr hf key,fun i f' hi=>?_⟩,?_,fun i=>by rw[World.frozen?_setCell,World.frozen?_setCell];exact h.fz i,
  (hf.cell (p:=⟨b,0,none⟩) hbs hbg).trans h.fc,fun i=>by rw[World.frozen?_setCell,World.frozen?_setCell];exact h.fzb i,⟨by have:=h.small.1;simp at this;omega,fun f' hf'=>h.small.2 f' (List.mem_cons_of_mem _ hf')⟩⟩
 ·rw [World.cell?_setCell_other _ _ _ _ (by simp)]
  exact World.cell?_setCell_same _ _ _ e0
 ·refine World.cell?_setCell_same _ _ _ (u:=.slice (some ⟨gc,oc,none⟩) (F.length+1) cc) ?_
  rw[World.cell?_setCell_other _ _ _ _ (by simp)]
  exact e1
 ·obtain ⟨B,d,p1,p2,p3,p4⟩:=q6 (i+1) f' (by simpa using hi)
  exact⟨B,d,by simpa using p1,p2,p3,p4.fr hf key⟩
 ·rw [World.cell?_setCell_other _ _ _ _ (by simp),World.cell?_setCell_other _ _ _ _ (by simp)]
  exact h.c2
theorem RdS.back (h:RdS w lo g b F φ):b<w.heap.size:=by have:=h.lt;have:=h.log;have:=h.blo;omega
end
structure RdPost {α:Type} (rep:World→(Nat→Prop)→α→Value→Prop) (p:Rdr α) (w:World) (X:Nat→Prop) (lo g b:Nat) (F:List Fd) (φ:Bool) (e:Ending) (w':World):Prop where
 out:∃x v F',e=.returned v∧rep w' (fun k=>w.heap.size≤k∧k<w'.heap.size) x v∧RdS w' lo g b F' (φ||(p F).isNone)∧Fr X w w'∧(φ=false→∀x0 F0,p F=some (x0,F0)→x=x0∧F'=F0)
def repT:World→(Nat→Prop)→List UInt8→Value→Prop:=fun _ _ x v=>v=.string (txt x)
def repI:World→(Nat→Prop)→Int→Value→Prop:=fun _ _ x v=>v=.int .i64 x
def repB:World→(Nat→Prop)→Bool→Value→Prop:=fun _ _ x v=>v=.bool x
end Go.Proofs.YtpkedjohgmnhhaaGreat
namespace Go.Proofs.YtpkedjohgmnhhaaGreat
open Go.RowKit
set_option linter.unusedVariables false
theorem fail_b (w:World) (lo g b:Nat) (F:List Fd) (φ:Bool) (h:RdS w lo g b F φ):
  Calls Tryz.prog 78 #[.pointer (some ⟨g,0,none⟩)] w fun e w'=>e=.returned (.tuple #[])∧RdS w' lo g b F true∧Fr (fun k=>k=b) w w':=by
 have HR:=hide h.failed
 have c2:=h.c2
 have fc:=h.fc
 have fz:=h.fzb
 clear h
 go_enter Tryz.func78,Tryz.ntmps78
 go_wp2
 go_returns
 exact⟨rfl,HR.out,Fr.setCell _ _ _ rfl⟩
theorem fail_any (w:World) (lo g b:Nat) (F:List Fd) (φ:Bool) (h:RdS w lo g b F φ):
  Calls Tryz.prog 78 #[.pointer (some ⟨g,0,none⟩)] w fun e w'=>e=.returned (.tuple #[])∧RdS w' lo g b F true∧Fr (own2 g b) w w':=
 (fail_b w lo g b F φ h).mono fun e w' q=>⟨q.1,q.2.1,q.2.2.mono fun _ _ r=>.inr r⟩
theorem RdS.c0 {w:World} {lo g b:Nat} {F:List Fd} {φ:Bool} (h:RdS w lo g b F φ):∃A c,w.cell? ⟨g,0,none⟩=some (.slice A F.length c):=by
 obtain⟨A,c,A',c',xs,q1,_⟩:=h.mem
 exact⟨A,c,q1⟩
def moreB (F:List Fd) (φ:Bool):Bool:= !φ&& !F.isEmpty
theorem more_any (w:World) (lo g b:Nat) (F:List Fd) (φ:Bool) (h:RdS w lo g b F φ):
  Calls Tryz.prog 79 #[.pointer (some ⟨g,0,none⟩)] w fun e w'=>e=.returned (.bool (moreB F φ))∧w'=w:=by
 have c2:=h.c2
 have fc:=h.fc
 obtain⟨A,c,c0⟩:=h.c0
 cases φ with
 | true=>
  clear h c0
  go_enter Tryz.func79,Tryz.ntmps79
  go_wp2
  go_ret
  exact⟨rfl,rfl⟩
 | false=>
  cases F with
  | nil=>
   clear h
   go_enter Tryz.func79,Tryz.ntmps79
   go_wp2
   go_ret
   exact⟨rfl,rfl⟩
  | cons x F=>
   rw[List.length_cons] at c0
   obtain⟨n,hn⟩:∃n,F.length+1=n:=⟨_,rfl⟩
   rw[hn] at c0
   have z:(0:Int)<(n:Int):=by omega
   have z0:0<n:=by omega
   clear h hn
   go_enter Tryz.func79,Tryz.ntmps79
   go_wp2
   go_ret
   exact⟨by simp[moreB,z0],rfl⟩
theorem RdS.hd {w:World} {lo g b:Nat} {f:Fd} {F:List Fd} {φ:Bool} (h:RdS w lo g b (f::F) φ):∃gt ot ct gc oc cc B d,w.cell? ⟨g,0,none⟩=some (.slice (some ⟨gt,ot,none⟩) (F.length+1) ct)∧w.cell? ⟨g,1,none⟩=some (.slice (some ⟨gc,oc,none⟩) (F.length+1) cc)∧
  w.cell? ⟨gt,ot,none⟩=some (c8 f.1)∧w.cell? ⟨gc,oc,none⟩=some (.slice B f.2.length d)∧(F.length+1≤ct∧ct≤maxLen∧F.length+1≤cc∧cc≤maxLen)∧(f.2.length≤d∧d≤maxLen)∧HasP w (fun k=>lo≤k∧k<g) 1 B f.2.length (bys f.2):=by
 obtain⟨A,c,A',c',xs,q1,q2,q3,q4,q5,q6⟩:=h.mem
 obtain⟨B,d,p1,p2,p3,p4⟩:=q6 0 f rfl
 obtain⟨gt,ot,rfl,_,k1⟩:=q4.lies (by simp[bys])
 obtain⟨gc,oc,rfl,_,k2⟩:=q5.lies (by rw[q5.1];simp)
 exact⟨gt,ot,c,gc,oc,c',B,d,q1,q2,k1 0 _ (by simp[bys]),k2 0 _ p1,by simpa using q3,⟨p2,p3⟩,p4⟩
theorem next_any (w:World) (lo g b:Nat) (F:List Fd) (φ:Bool) (t:UInt8) (h:RdS w lo g b F φ):
  Calls Tryz.prog 126 #[.pointer (some ⟨g,0,none⟩),c8 t] w fun e w'=>e=.returned (.bool (!φ&&Rd.nextIs t F))∧w'=w:=by
 have hM:=more_any w lo g b F φ h
 have hc8:∀x:UInt8,c8 x=.int .u8 (x.toNat:Int):=fun _=>rfl
 cases φ with
 | true=>
  rw[show moreB F true=false from rfl] at hM
  clear h
  go_enter Tryz.func126,Tryz.ntmps126
  go_wp2_with (go_at_call 79;fail)
  refine hM.mono ?_
  rintro e w1 ⟨rfl,rfl⟩
  go_wp2
  go_ret
  exact⟨rfl,rfl⟩
 | false=>
  cases F with
  | nil=>
   rw[show moreB [] false=false from rfl] at hM
   clear h
   go_enter Tryz.func126,Tryz.ntmps126
   go_wp2_with (go_at_call 79;fail)
   refine hM.mono ?_
   rintro e w1 ⟨rfl,rfl⟩
   go_wp2
   go_ret
   exact⟨rfl,rfl⟩
  | cons x F=>
   rw[show moreB (x::F) false=true from rfl] at hM
   obtain⟨gt,ot,ct,gc,oc,cc,B,d,e0,e1,k1,k2,_,_,_⟩:=h.hd
   obtain⟨n,hn⟩:∃n,F.length+1=n:=⟨_,rfl⟩
   rw[hn] at e0
   have z:(0:Int)<(n:Int):=by omega
   obtain⟨t',x2⟩:=x
   simp only at k1
   rw[hc8] at k1 ⊢
   have hv:Rd.nextIs t ((t',x2)::F)=(t'==t):=rfl
   have hq:(((t'.toNat:Int))==((t.toNat:Int)))=(t'==t):=by
    by_cases h:t'=t
    ·subst h;simp
    ·rw [beq_false_of_ne h];exact beq_false_of_ne fun e=>h (UInt8.toNat_inj.1 (by omega))
   rw[hv,←hq]
   clear h hn hv hq e1 k2
   go_enter Tryz.func126,Tryz.ntmps126
   go_wp2_with (go_at_call 79;fail)
   refine hM.mono ?_
   rintro e w1 ⟨rfl,rfl⟩
   go_wp2
   go_ret
   exact⟨by simp,rfl⟩
structure TakePost (t:UInt8) (w:World) (lo g b:Nat) (F:List Fd) (φ:Bool) (e:Ending) (w':World):Prop where
 out:∃A c x F',e=.returned (.slice A x.length c)∧x.length≤c∧c≤maxLen∧x.length≤16384∧HasP w' (fun k=>lo≤k∧k<g) 1 A x.length (bys x)∧RdS w' lo g b F' (φ||(Rd.takeR t F).isNone)∧Fr (own2 g b) w w'∧(φ=false→∀x0 F0,Rd.takeR t F=some (x0,F0)→x=x0∧F'=F0)
theorem TakePost.no {t:UInt8} {w w':World} {lo g b:Nat} {F:List Fd} {φ:Bool} (hr:RdS w' lo g b F true) (hf:Fr (own2 g b) w w') (hno:φ=true∨Rd.takeR t F=none):TakePost t w lo g b F φ (.returned (.slice none 0 0)) w':=by
 refine⟨none,0,[],F,rfl,Nat.le_refl _,Nat.zero_le _,Nat.zero_le _,HasP.none _,?_,hf,fun h x0 F0 h0=>?_⟩
 ·have:(φ||(Rd.takeR t F).isNone)=true:=by
   rcases hno with h | h
   ·rw [h];rfl
   ·rw [h];simp
  rw[this];exact hr
 ·rcases hno with h' | h'
  ·rw [h'] at h;cases h
  ·rw [h'] at h0;cases h0
theorem take_any (w:World) (lo g b:Nat) (F:List Fd) (φ:Bool) (t:UInt8) (h:RdS w lo g b F φ):
  Calls Tryz.prog 80 #[.pointer (some ⟨g,0,none⟩),c8 t] w (TakePost t w lo g b F φ):=by
 have hN:=next_any w lo g b F φ t h
 have hno:(!φ&&Rd.nextIs t F)=false→φ=true∨Rd.takeR t F=none:=by
  intro h0
  cases φ with
  | true=>exact .inl rfl
  | false=>
   right
   cases F with
   | nil=>rfl
   | cons x F=>
    obtain⟨t',x2⟩:=x
    simp only[Rd.nextIs,Bool.not_false,Bool.true_and,beq_eq_false_iff_ne] at h0
    simp only[Rd.takeR]
    rw[if_neg h0]
 cases hb:(!φ&&Rd.nextIs t F) with
 | false=>
  have hno:=hide (hno hb)
  have hF:=fail_any w lo g b F φ h
  rw[hb] at hN
  clear h hb
  go_enter Tryz.func80,Tryz.ntmps80
  go_wp2_with (go_at_call 126;fail)
  refine hN.mono ?_
  rintro e w1 ⟨rfl,rfl⟩
  go_wp2_with (go_at_call 78;fail)
  refine hF.mono ?_
  rintro e w2 ⟨rfl,hr,hf⟩
  clear hN hF
  go_wp2
  go_ret
  exact TakePost.no hr hf hno.out
 | true=>
  rw[hb] at hN
  clear hno
  cases φ with
  | true=>cases hb
  | false=>
  cases F with
  | nil=>cases hb
  | cons x F=>
  obtain⟨t',x2⟩:=x
  obtain rfl:t'=t:=by simpa[Rd.nextIs] using hb
  obtain⟨gt,ot,ct,gc,oc,cc,B,d,e0,e1,k1,k2,k3,k4,k5⟩:=h.hd
  have hs0:=h.hd
  have ha1:F=[]∨(if ct=1 then some ⟨gt,ot,none⟩ else some ⟨gt,ot+1,none⟩)=some (⟨gt,ot+1,none⟩:Addr):=by
   by_cases q:ct=1
   ·exact .inl (List.eq_nil_of_length_eq_zero (by omega))
   ·exact .inr (if_neg q)
  have ha2:F=[]∨(if cc=1 then some ⟨gc,oc,none⟩ else some ⟨gc,oc+1,none⟩)=some (⟨gc,oc+1,none⟩:Addr):=by
   by_cases q:cc=1
   ·exact .inl (List.eq_nil_of_length_eq_zero (by omega))
   ·exact .inr (if_neg q)
  have e0d:w.drew.cell? ⟨g,0,none⟩=some (.slice (some ⟨gt,ot,none⟩) (F.length+1) ct):=e0
  have e1d:w.drew.cell? ⟨g,1,none⟩=some (.slice (some ⟨gc,oc,none⟩) (F.length+1) cc):=e1
  have hfzd:∀i,w.drew.frozen? ⟨g,i,none⟩=false:=h.fz
  have hltd:g<w.drew.heap.size:=h.lt
  have hx2:x2.length≤16384:=h.small.2 _ List.mem_cons_self
  have hT:Rd.takeR t' ((t',x2)::F)=some (x2,F):=by simp[Rd.takeR]
  have hlt:=h.lt
  have hfz:=h.fz
  have hfr2:Fr (fun k=>k=g) w ((w.setCell ⟨g,0,none⟩ (.slice (if ct=1 then some ⟨gt,ot,none⟩ else some ⟨gt,ot+1,none⟩) F.length (ct-1))).setCell ⟨g,1,none⟩ (.slice (if cc=1 then some ⟨gc,oc,none⟩ else some ⟨gc,oc+1,none⟩) F.length (cc-1))):=(Fr.setCell (X:=fun k=>k=g) _ _ _ rfl).trans (Fr.setCell (X:=fun k=>k=g) _ _ _ rfl)
  have hfr:Fr (own2 g b) w ((w.setCell ⟨g,0,none⟩ (.slice (if ct=1 then some ⟨gt,ot,none⟩ else some ⟨gt,ot+1,none⟩) F.length (ct-1))).setCell ⟨g,1,none⟩ (.slice (if cc=1 then some ⟨gc,oc,none⟩ else some ⟨gc,oc+1,none⟩) F.length (cc-1))):=hfr2.mono fun _ _ hk=>.inl hk
  have hs1:=h.step ha1 ha2 e0 e1
  have HS:=hide (hs1.fr (Fr.drew (fun _=>False) _) id id (fun _ _ _=>id))
  have hP:=(k5.fr hfr2 (P':=fun k=>lo≤k∧k<g) (fun k hk=>⟨by omega,by omega,hk⟩)).fr (Fr.drew (fun _=>False) _) (P':=fun k=>lo≤k∧k<g) (fun k hk=>⟨by have:=hs1.lt;omega,id,hk⟩)
  have HP:=hide hP
  have HF:=hide (hfr.trans (Fr.drew (own2 g b) _))
  have HT:=hide hT
  simp only at k1 k2 k4
  obtain⟨m,hm⟩:∃m,x2.length=m:=⟨_,rfl⟩
  obtain⟨n,hn⟩:∃n,F.length=n:=⟨_,rfl⟩
  have Hn:=hide hn
  have Hm:=hide hm
  have Hk4:=hide k4
  have Hx2:=hide hx2
  rw[hm] at k2
  rw[hn] at e0 e1 e0d e1d k3
  obtain⟨z1,z2,z3,z4⟩:=k3
  unfold maxLen at z2 z4
  have zz:(1:Int)≤(n:Int)+1:=by omega
  have zz2:(n:Int)+1≤(ct:Int):=by omega
  have zz3:(n:Int)+1≤(cc:Int):=by omega
  have zz4:(n:Int)+1≤9223372036854775807:=by omega
  clear h hs1 hs0 ha1 ha2 hb k5 hT hP hfr hfr2 hm hn k1 k4 hx2
  go_enter Tryz.func80,Tryz.ntmps80
  go_wp2_with (go_at_call 126;fail)
  refine hN.mono ?_
  rintro e w1 ⟨rfl,hw1⟩
  obtain rfl:=hw1
  clear hN
  go_wp2
  refine grow_beginZ (upOf) [14,17] (by kernel_rfl) ?_
  refine grow_takeP 0 (some 18) (v:=?vt0) rfl rfl (by kernel_rfl) (by kernel_rfl) (by kernel_rfl) (fun _ _ _ h=>h) (by rfl) (fun W=>?yt0) ?_
  case yt0=>
   go_simp<;>with_reducible rfl
  try simp only[Act.put,List.setIfInBounds_toArray,List.set_cons_zero,List.set_cons_succ]
  refine grow_takeP 1 (some 19) (v:=?vt1) rfl rfl (by kernel_rfl) (by kernel_rfl) (by kernel_rfl) (fun _ _ _ h=>h) (by rfl) (fun W=>?yt1) ?_
  case yt1=>
   go_simp<;>with_reducible rfl
  try simp only[Act.put,List.setIfInBounds_toArray,List.set_cons_zero,List.set_cons_succ]
  refine grow_takeP 2 (some 20) (v:=?vt2) rfl rfl (by kernel_rfl) (by kernel_rfl) (by kernel_rfl) (fun _ _ _ h=>h) (by rfl) (fun W=>?yt2) ?_
  case yt2=>
   go_simp<;>with_reducible rfl
  try simp only[Act.put,List.setIfInBounds_toArray,List.set_cons_zero,List.set_cons_succ]
  refine grow_takeP 3 (some 21) (v:=?vt3) rfl rfl (by kernel_rfl) (by kernel_rfl) (by kernel_rfl) (fun _ _ _ h=>h) (by rfl) (fun W=>?yt3) ?_
  case yt3=>
   go_simp<;>with_reducible rfl
  try simp only[Act.put,List.setIfInBounds_toArray,List.set_cons_zero,List.set_cons_succ]
  refine grow_takeP 4 (some 22) (v:=?vt4) rfl rfl (by kernel_rfl) (by kernel_rfl) (by kernel_rfl) (fun _ _ _ h=>h) (by rfl) (fun W=>?yt4) ?_
  case yt4=>
   go_simp<;>with_reducible rfl
  try simp only[Act.put,List.setIfInBounds_toArray,List.set_cons_zero,List.set_cons_succ]
  refine grow_takeZ 5 (some 23) (v:=?vt5) rfl rfl (by kernel_rfl) (by kernel_rfl) (by kernel_rfl) (fun _ _ _ h=>h) (by kernel_rfl) (by rfl) (fun W hW=>?yt5) ?_
  case yt5=>
   have e0W:W.cell? ⟨g,0,none⟩=some (.slice (some ⟨gt,ot,none⟩) (n+1) ct):=by rw[hW.cell (p:=⟨g,0,none⟩) hltd];exact e0d
   go_simp<;>with_reducible rfl
  try simp only[Act.put,List.setIfInBounds_toArray,List.set_cons_zero,List.set_cons_succ]
  refine grow_takeP 6 (some 24) (v:=?vt6) rfl rfl (by kernel_rfl) (by kernel_rfl) (by kernel_rfl) (fun _ _ _ h=>h) (by rfl) (fun W=>?yt6) ?_
  case yt6=>
   go_simp<;>with_reducible rfl
  try simp only[Act.put,List.setIfInBounds_toArray,List.set_cons_zero,List.set_cons_succ]
  refine grow_takeP 7 (some 25) (v:=?vt7) rfl rfl (by kernel_rfl) (by kernel_rfl) (by kernel_rfl) (fun _ _ _ h=>h) (by rfl) (fun W=>?yt7) ?_
  case yt7=>
   go_simp<;>with_reducible rfl
  try simp only[Act.put,List.setIfInBounds_toArray,List.set_cons_zero,List.set_cons_succ]
  refine grow_takeP 8 (some 26) (v:=?vt8) rfl rfl (by kernel_rfl) (by kernel_rfl) (by kernel_rfl) (fun _ _ _ h=>h) (by rfl) (fun W=>?yt8) ?_
  case yt8=>
   go_simp<;>with_reducible rfl
  try simp only[Act.put,List.setIfInBounds_toArray,List.set_cons_zero,List.set_cons_succ]
  refine grow_takeP 9 (some 27) (v:=?vt9) rfl rfl (by kernel_rfl) (by kernel_rfl) (by kernel_rfl) (fun _ _ _ h=>h) (by rfl) (fun W=>?yt9) ?_
  case yt9=>
   go_simp<;>with_reducible rfl
  try simp only[Act.put,List.setIfInBounds_toArray,List.set_cons_zero,List.set_cons_succ]
  refine grow_takeZ 10 (some 28) (v:=?vt10) rfl rfl (by kernel_rfl) (by kernel_rfl) (by kernel_rfl) (fun _ _ _ h=>h) (by kernel_rfl) (by rfl) (fun W hW=>?yt10) ?_
  case yt10=>
   have e1W:W.cell? ⟨g,1,none⟩=some (.slice (some ⟨gc,oc,none⟩) (n+1) cc):=by rw[hW.cell (p:=⟨g,1,none⟩) hltd];exact e1d
   go_simp<;>with_reducible rfl
  try simp only[Act.put,List.setIfInBounds_toArray,List.set_cons_zero,List.set_cons_succ]
  refine grow_takeP 11 (some 29) (v:=?vt11) rfl rfl (by kernel_rfl) (by kernel_rfl) (by kernel_rfl) (fun _ _ _ h=>h) (by rfl) (fun W=>?yt11) ?_
  case yt11=>
   go_simp<;>with_reducible rfl
  try simp only[Act.put,List.setIfInBounds_toArray,List.set_cons_zero,List.set_cons_succ]
  refine grow_takeP 12 (some 30) (v:=?vt12) rfl rfl (by kernel_rfl) (by kernel_rfl) (by kernel_rfl) (fun _ _ _ h=>h) (by rfl) (fun W=>?yt12) ?_
  case yt12=>
   go_simp<;>with_reducible rfl
  try simp only[Act.put,List.setIfInBounds_toArray,List.set_cons_zero,List.set_cons_succ]
  refine grow_takeP 13 (some 31) (v:=?vt13) rfl rfl (by kernel_rfl) (by kernel_rfl) (by kernel_rfl) (fun _ _ _ h=>h) (by rfl) (fun W=>?yt13) ?_
  case yt13=>
   go_simp<;>with_reducible rfl
  try simp only[Act.put,List.setIfInBounds_toArray,List.set_cons_zero,List.set_cons_succ]
  refine grow_onlyZ 14 rfl (by kernel_rfl) (fun K hK=>?_)
  go_simp
  refine hK.out _ _ (fun h=>absurd (by decide) h) ?_
  clear hK K
  refine grow_takeP 15 (some 32) (v:=?vt15) rfl rfl (by kernel_rfl) (by kernel_rfl) (by kernel_rfl) (fun _ _ _ h=>h) (by rfl) (fun W=>?yt15) ?_
  case yt15=>
   go_simp<;>with_reducible rfl
  try simp only[Act.put,List.setIfInBounds_toArray,List.set_cons_zero,List.set_cons_succ]
  refine grow_takeP 16 (some 33) (v:=?vt16) rfl rfl (by kernel_rfl) (by kernel_rfl) (by kernel_rfl) (fun _ _ _ h=>h) (by rfl) (fun W=>?yt16) ?_
  case yt16=>
   go_simp<;>with_reducible rfl
  try simp only[Act.put,List.setIfInBounds_toArray,List.set_cons_zero,List.set_cons_succ]
  refine grow_onlyZ 17 rfl (by kernel_rfl) (fun K hK=>?_)
  go_simp
  refine hK.out _ _ (fun h=>absurd (by decide) h) ?_
  clear hK K
  refine grow_doneZ (by kernel_rfl) ?_ _
  clear e0 e1 e0d e1d k2 zz zz2 zz3 zz4 z1 z2 z3 z4 hlt hltd hfz hfzd
  rw[Hn.out] at HS HP HF
  generalize (if ct=1 then some (⟨gt,ot,none⟩:Addr) else some ⟨gt,ot+1,none⟩)=A1 at *
  generalize (if cc=1 then some (⟨gc,oc,none⟩:Addr) else some ⟨gc,oc+1,none⟩)=A2 at *
  generalize ((w1.setCell ⟨g,0,none⟩ (.slice A1 n (ct-1))).setCell ⟨g,1,none⟩ (.slice A2 n (cc-1))).drew=wz at *
  go_wp2
  go_ret
  refine⟨_,_,x2,F,by rw[Hm.out];rfl,Hk4.out.1,Hk4.out.2,Hx2.out,HP.out,by rw[HT.out];exact HS.out,HF.out,fun _ x0 F0 h0=>by rw[HT.out] at h0;simpa using h0⟩
end Go.Proofs.YtpkedjohgmnhhaaGreat
