/- A region that draws its order and whose last operation (number z, which waits for all that is taken first) may write what was there: after XGrow. By an AI agent. -/
import Derived.Test.YtiobnllopliclaaGreatDoorGrow
namespace Go.Proofs.YtiobnllopliclaaGreatDoor
open Go Go.RowKit
def waitsOn (md:Region.Mode) (ops:Array Oper) (z i:Nat):Bool:=
 match ops[z]? with
 | some o=>o.after.any fun e=>Region.binds md e&&e.on==i
 | none=>true
theorem waitsOn_spec {md:Region.Mode} {ops:Array Oper} {z i:Nat} (h:waitsOn md ops z i=true):∀oz,ops[z]?=some oz→∃e∈oz.after,Region.binds md e=true∧e.on=i:=by
 intro oz hoz
 unfold waitsOn at h
 rw[hoz] at h
 simp only[Array.any_eq_true,Bool.and_eq_true,beq_iff_eq] at h
 obtain⟨k,hk,h1,h2⟩:=h
 exact⟨oz.after[k],Array.getElem_mem hk,h1,h2⟩
section
variable {P:Program} {ops:Array Oper} {Q:Exit→Act→World→Prop} {md:Region.Mode} {z:Nat}
variable {R:World→World→Prop} [Way R]
def wpAnyL (R:World→World→Prop) (P:Program) (md:Region.Mode) (ops:Array Oper) (Q:Exit→Act→World→Prop) (z:Nat):Nat→Array Bool→Act→World→Prop
 | 0,listed,a,w=>Region.ready md ops listed=[]∧Q .normal a w
 | fuel+1,listed,a,w=>
  (Region.ready md ops listed=[]→Q .normal a w)∧
  ∀i∈Region.ready md ops listed,wpOp P ops Q i (fun a' w'=>(i≠z→R w w')∧wpAnyL R P md ops Q z fuel (listed.setIfInBounds i true) a' w') a w
omit [Way R] in
theorem wpAny_of_growL:∀(fuel:Nat) (listed:Array Bool) (a:Act) (w:World),wpAnyL R P md ops Q z fuel listed a w→wpAny P md ops Q fuel listed a w
 | 0,_,_,_,h=>h
 | fuel+1,_,_,_,h=>⟨h.1,fun i hi=>wpOp_mono (fun a' w' h'=>wpAny_of_growL fuel _ a' w' h'.2) (h.2 i hi)⟩
theorem grow_firstL {i:Nat} {oi:Oper} {v:Value} (hi:ops[i]?=some oi) (hsel:∀(j:Nat) (o:Oper) cs b,ops[j]?=some o→o.op≠.select cs b)
  (hQ:∀c a w,Q (.panic c) (a.put oi.dst v) w→Q (.panic c) a w) (hz:∀oz,ops[z]?=some oz→∃e∈oz.after,Region.binds md e=true∧e.on=i):
  ∀(fuel:Nat) (listed:Array Bool) (a:Act) (w:World),
   (∀j oj,ops[j]?=some oj→j≠i→listed.getD j true=false→(∀e∈oj.after,Region.binds md e=true→e.on≠i)→oi.apart ops oj=true)→
   i∈Region.ready md ops listed→YieldsIf P ops (R w) oi v a→
   wpAnyL R P md ops Q z fuel (listed.setIfInBounds i true) (a.put oi.dst v) w→wpAnyL R P md ops Q z (fuel+1) listed a w:=by
 intro fuel
 induction fuel with
 | zero=>
  intro listed a w _ hr hy H
  refine⟨fun h=>(by rw[h] at hr;cases hr),fun j hj=>?_⟩
  rcases Nat.decEq j i with hne | rfl
  ·have hm:=ready_mono hj hne
   rw[H.1] at hm
   cases hm
  ·exact hy.wpOp hi (Way.refl w) ⟨fun _=>Way.refl w,H⟩
 | succ fuel ih=>
  intro listed a w hfree hr hy H
  refine⟨fun h=>(by rw[h] at hr;cases hr),fun j hj=>?_⟩
  rcases Nat.decEq j i with hne | rfl
  ·obtain ⟨hun,oj,hoj,hwait⟩:=mem_ready.1 hj
   have hno:∀e∈oj.after,Region.binds md e=true→e.on≠i:=by
    intro e he hb hon
    have h1:=hwait e he hb
    have h0:=(mem_ready.1 hr).1
    rw[hon] at h1
    rcases Nat.lt_or_ge i listed.size with hlt | hge
    ·simp [hlt] at h0 h1
     rw[h0] at h1
     cases h1
    ·simp [Array.getElem?_eq_none hge] at h1
   have hjz:j≠z:=fun e=>by
    subst e
    obtain⟨e,he,hb,hon⟩:=hz oj hoj
    exact hno e he hb hon
   have hstep:=wpOp_putIf hoj (hfree j oj hoj hne hun hno) (fun cs b=>hsel i oi cs b hi) (fun cs b=>hsel j oj cs b hoj) hQ hy (H.2 j (ready_mono hj hne))
   refine wpOp_mono (fun a' w' hh=>⟨hh.2.1,ih (listed.setIfInBounds j true) a' w' ?_ (ready_mono hr (Ne.symm hne)) (yields_later (hh.2.1 hjz) hh.1) ?_⟩) hstep
   ·intro k ok hk hki hkun hkno
    refine hfree k ok hk hki ?_ hkno
    rcases Nat.decEq j k with hjk | rfl
    ·rwa [getD_set_ne true hjk] at hkun
    ·exact hun
   ·rw [Array.setIfInBounds_comm _ _ hne]
    exact hh.2.2
  ·exact hy.wpOp hi (Way.refl w) ⟨fun _=>Way.refl w,H⟩
theorem grow_takeL (i:Nat) (d:Option Tmp) {oi:Oper} {v:Value} {fuel:Nat} {listed:Array Bool} {a:Act} {w:World} (hi:ops[i]?=some oi) (hd:oi.dst=d)
  (hs:Region.noSelect ops=true) (hf:Region.free md ops listed i=true) (hr:(Region.ready md ops listed).contains i=true)
  (hQ:∀c a w,Q (.panic c) (a.put d v) w→Q (.panic c) a w) (hz:waitsOn md ops z i=true) (hw:Region.wanted oi (yielded ops a.tmps)=true) (hy:∀W,R w W→(execOp a.eval oi).run P W=.ok (.value v) W)
  (h:wpAnyL R P md ops Q z fuel (listed.setIfInBounds i true) (a.put d v) w):wpAnyL R P md ops Q z (fuel+1) listed a w:=by
 subst hd
 exact grow_firstL hi (Region.noSelect_spec hs) hQ (waitsOn_spec hz) fuel listed a w (Region.free_spec hi hf) (by simpa using hr) (.inl ⟨hw,hy⟩) h
omit [Way R] in
theorem grow_onlyL (i:Nat) {oi:Oper} {fuel:Nat} {listed:Array Bool} {a:Act} {w:World} (hi:ops[i]?=some oi) (hr:Region.ready md ops listed=[i])
  (h:∀K':Act→World→Prop,Shut (∀a' w',(i≠z→R w w')→wpAnyL R P md ops Q z fuel (listed.setIfInBounds i true) a' w'→K' a' w')→if Region.wanted oi (yielded ops a.tmps)=true then Oper.wp P oi a w K' Q else K' (a.put oi.dst undef) w):
  wpAnyL R P md ops Q z (fuel+1) listed a w:=by
 refine⟨fun h0=>(by rw[hr] at h0;cases h0),fun j hj=>?_⟩
 rw[hr] at hj
 obtain rfl:j=i:=by simpa using hj
 exact wpOp_step hi (fun K' hK=>h K' (fun a' w' hb hg=>hK a' w' ⟨hb,hg⟩))
omit [Way R] in
theorem grow_doneL {listed:Array Bool} {a:Act} {w:World} (hr:Region.ready md ops listed=[]) (h:Q .normal a w):
  ∀fuel,wpAnyL R P md ops Q z fuel listed a w
 | 0=>⟨hr,h⟩
 | _+1=>⟨fun _=>h,by rw[hr];simp⟩
end
end Go.Proofs.YtiobnllopliclaaGreatDoor
