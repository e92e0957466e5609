/- Several texts in one: Grow, GrowB, GrowL, GrowBB. By an AI agent. -/
import Derived.Test.YtlfglibcggphjaaGreatDoorWords
import Derived.OrdersHeld
import Derived.Deep.RegionHeld
set_option linter.unusedSimpArgs false
set_option linter.unusedVariables false
namespace Go.Proofs.YtlfglibcggphjaaGreatDoor
open Go Go.RowKit
theorem pUz:(∀(a:Act) (t:Tmp) (v:Value),a.put (some t) v={ a with tmps:=a.tmps.setIfInBounds t v })/\(∀(a:Act) (v:Value),a.put none v=a)/\(∀(l:List Value) (i:Nat) (x:Value),l.toArray.setIfInBounds i x=(l.set i x).toArray)/\(∀(l:List Bool) (i:Nat) (x:Bool),l.toArray.setIfInBounds i x=(l.set i x).toArray)/\
  (∀(x y:Value) (l:List Value),(x::l).set 0 y=y::l)/\(∀(x y:Value) (l:List Value) (i:Nat),(x::l).set (i+1) y=x::l.set i y)/\(∀(x y:Bool) (l:List Bool),(x::l).set 0 y=y::l)/\(∀(x y:Bool) (l:List Bool) (i:Nat),(x::l).set (i+1) y=x::l.set i y):=
 ⟨fun _ _ _=>rfl,fun _ _=>rfl,fun _ _ _=>List.setIfInBounds_toArray ..,fun _ _ _=>List.setIfInBounds_toArray ..,fun _ _ _=>rfl,fun _ _ _ _=>rfl,fun _ _ _=>rfl,fun _ _ _ _=>rfl⟩
def okZ (md:Region.Mode) (ops:Array Oper) (listed:Array Bool) (i:Nat):Bool:=Region.noSelect ops&&Region.free md ops listed i&&(Region.ready md ops listed).contains i
theorem zHh {md:Region.Mode} {ops:Array Oper} {listed:Array Bool} {i:Nat} (h:okZ md ops listed i=true):(Region.noSelect ops=true/\Region.free md ops listed i=true)/\(Region.ready md ops listed).contains i=true:=by
 unfold okZ at h;rw[Bool.and_eq_true,Bool.and_eq_true] at h;exact h
theorem hTz {a b c:World} (h:Hid (Below a.heap.size a b)) (k:Below b.heap.size b c):Hid (Below a.heap.size a c):=hide (h.out.trans (k.mono h.out.size))
section
variable {P:Program} {ops:Array Oper} {Q:Exit->Act->World->Prop} {md:Region.Mode}
class Way (R:World->World->Prop):Prop where
 refl:∀w,R w w
 trans:∀{a b c},R a b->R b c->R a c
def upOf (w:World):World->Prop:=fun W=>Below w.heap.size w W
instance upWay:Way upOf:=⟨fun _=>Below.refl _ _,fun h k=>Below.trans h (k.mono h.size)⟩
def upAt (B:Nat) (w:World):World->Prop:=fun W=>Below B w W
instance atWay (B:Nat):Way (upAt B):=⟨fun _=>Below.refl _ _,fun h k=>Below.trans h k⟩
variable {R:World->World->Prop} [Way R]
theorem zCf {w w':World} {o:Oper} {v:Value} {a:Act} (h:R w w') (hy:YieldsIf P ops (R w) o v a):YieldsIf P ops (R w') o v a:=
 hy.imp (fun ⟨x,y⟩=>⟨x,fun W hW=>y W (Way.trans h hW)⟩) id
def wpAnyG (R:World->World->Prop) (P:Program) (md:Region.Mode) (ops:Array Oper) (Q:Exit->Act->World->Prop):Nat->Array Bool->Act->World->Prop
 | 0,listed,a,w=>Region.ready md ops listed=[]/\Q .normal a w
 | fuel+1,listed,a,w=>
  (Region.ready md ops listed=[]->Q .normal a w)/\
  ∀i∈Region.ready md ops listed,wpOp P ops Q i (fun a' w'=>R w w'/\wpAnyG R P md ops Q fuel (listed.setIfInBounds i true) a' w') a w
omit [Way R] in
theorem zAu:∀(fuel:Nat) (listed:Array Bool) (a:Act) (w:World),wpAnyG R P md ops Q fuel listed a w->wpAny P md ops Q fuel listed a w
 | 0,_,_,_,h=>h
 | fuel+1,_,_,_,h=>⟨h.1,fun i hi=>wpOp_mono (fun a' w' h'=>zAu fuel _ a' w' h'.2) (h.2 i hi)⟩
theorem zIm {i:Nat} {oi:Oper} {v:Value} (hi:ops[i]?=some oi) (hsel:∀(j:Nat) (o:Oper) cs b,ops[j]?=some o->o.op≠.select cs b)
  (hQ:∀c a w,Q (.panic c) (a.put oi.dst v) w->Q (.panic c) a w):
  ∀(fuel:Nat) (listed:Array Bool) (a:Act) (w:World),
   (∀j oj,ops[j]?=some oj->j≠i->listed.getD j true=false->(∀e∈oj.after,Region.binds md e=true->e.on≠i)->oi.apart ops oj=true)->
   i∈Region.ready md ops listed->YieldsIf P ops (R w) oi v a->
   wpAnyG R P md ops Q fuel (listed.setIfInBounds i true) (a.put oi.dst v) w->wpAnyG R P md ops Q (fuel+1) listed a w:=by
 intro fuel
 induction fuel with
 | zero=>
  intro listed a w _ hr hy H;refine⟨fun h=>(by rw[h] at hr;cases hr),fun j hj=>?_⟩;rcases Nat.decEq j i with hne | rfl
  ·have hm:=ready_mono hj hne;rw[H.1] at hm;cases hm
  ·exact hy.wpOp hi (Way.refl w) ⟨Way.refl w,H⟩
 | succ fuel ih=>
  intro listed a w hfree hr hy H;refine⟨fun h=>(by rw[h] at hr;cases hr),fun j hj=>?_⟩;rcases Nat.decEq j i with hne | rfl
  ·obtain ⟨hun,oj,hoj,hwait⟩:=mem_ready.1 hj;have hno:∀e∈oj.after,Region.binds md e=true->e.on≠i:=by
    intro e he hb hon;have h1:=hwait e he hb;have h0:=(mem_ready.1 hr).1;rw[hon] at h1;rcases Nat.lt_or_ge i listed.size with hlt | hge
    ·simp [hlt] at h0 h1;rw[h0] at h1;cases h1
    ·simp [Array.getElem?_eq_none hge] at h1
   have hstep:=wpOp_putIf hoj (hfree j oj hoj hne hun hno) (fun cs b=>hsel i oi cs b hi) (fun cs b=>hsel j oj cs b hoj) hQ hy (H.2 j (ready_mono hj hne));refine wpOp_mono (fun a' w' hh=>⟨hh.2.1,ih (listed.setIfInBounds j true) a' w' ?_ (ready_mono hr (Ne.symm hne)) (zCf hh.2.1 hh.1) ?_⟩) hstep
   ·intro k ok hk hki hkun hkno;refine hfree k ok hk hki ?_ hkno;rcases Nat.decEq j k with hjk | rfl
    ·rwa [getD_set_ne true hjk] at hkun
    ·exact hun
   ·rw [Array.setIfInBounds_comm _ _ hne];exact hh.2.2
  ·exact hy.wpOp hi (Way.refl w) ⟨Way.refl w,H⟩
theorem zAa (i:Nat) (d:Option Tmp) {oi:Oper} {v:Value} {fuel:Nat} {listed:Array Bool} {a:Act} {w:World} (hi:ops[i]?=some oi) (hd:oi.dst=d)
  (hk:okZ md ops listed i=true)
  (hQ:(fun c a w=>Q (.panic c) (a.put d v) w)=fun c a w=>Q (.panic c) a w) (hw:Region.wanted oi (yielded ops a.tmps)=true) (hy:∀W,R w W->(execOp a.eval oi).run P W=.ok (.value v) W)
  (h:wpAnyG R P md ops Q fuel (listed.setIfInBounds i true) (a.put d v) w):wpAnyG R P md ops Q (fuel+1) listed a w:=by
 obtain⟨⟨hs,hf⟩,hr⟩:=zHh hk;replace hQ:=fun c a w=>(congrFun (congrFun (congrFun hQ c) a) w).mp
 subst hd;exact zIm hi (Region.noSelect_spec hs) hQ fuel listed a w (Region.free_spec hi hf) (by simpa using hr) (.inl ⟨hw,hy⟩) h
theorem yTk (i:Nat) (d:Option Tmp) {oi:Oper} {v:Value} {fuel:Nat} {listed:Array Bool} {a:Act} {w:World} (h:wpAnyG R P md ops Q fuel (listed.setIfInBounds i true) (a.put d v) w) (hi:ops[i]?=some oi:=by exact rfl) (hd:oi.dst=d:=by exact rfl) (hk:okZ md ops listed i=true:=by kernel_rfl) (hQ:(fun c a w=>Q (.panic c) (a.put d v) w)=fun c a w=>Q (.panic c) a w:=by exact rfl) (hw:Region.wanted oi (yielded ops a.tmps)=true:=by rfl) (hy:∀W,R w W->(execOp a.eval oi).run P W=.ok (.value v) W:=by intro W hW;go_simp<;>with_reducible rfl):wpAnyG R P md ops Q (fuel+1) listed a w:=zAa i d hi hd hk hQ hw hy h
omit [Way R] in
theorem zAq (i:Nat) {oi:Oper} {fuel:Nat} {listed:Array Bool} {a:Act} {w:World} (hi:ops[i]?=some oi) (hr:Region.ready md ops listed=[i])
  (h:∀K':Act->World->Prop,Shut (∀a' w',R w w'->wpAnyG R P md ops Q fuel (listed.setIfInBounds i true) a' w'->K' a' w')->if Region.wanted oi (yielded ops a.tmps)=true then Oper.wp P oi a w K' Q else K' (a.put oi.dst undef) w):
  wpAnyG R P md ops Q (fuel+1) listed a w:=by
 refine⟨fun h0=>(by rw[hr] at h0;cases h0),fun j hj=>?_⟩;rw[hr] at hj;obtain rfl:j=i:=by simpa using hj
 exact wpOp_step hi (fun K' hK=>h K' (fun a' w' hb hg=>hK a' w' ⟨hb,hg⟩))
omit [Way R] in
theorem zBe {listed:Array Bool} {a:Act} {w:World} (hr:Region.ready md ops listed=[]) (h:Q .normal a w):
  ∀fuel,wpAnyG R P md ops Q fuel listed a w
 | 0=>⟨hr,h⟩
 | _+1=>⟨fun _=>h,by rw[hr];simp⟩
theorem zH8 {id:Nat} {a:Act} {w:World} (hm:P.follows .mixedOrders=true)
  (h:wpAnyG upOf P .any ops Q ops.size (Array.replicate ops.size false) a w.drew):(Code.region id ops true).wp P Q a w:=
 wp_region_any hm (zAu _ _ _ _ h)
theorem zBu (B:Nat) {id:Nat} {a:Act} {w:World} (hm:P.follows .mixedOrders=true)
  (h:wpAnyG (upAt B) P .any ops Q ops.size (Array.replicate ops.size false) a w.drew):(Code.region id ops true).wp P Q a w:=
 wp_region_any hm (zAu _ _ _ _ h)
end
def upBut (row:Option Nat) (w:World):World->Prop:=fun W=>w.grownBy W row
theorem zA4 {w W:World} (row:Option Nat) (h:Below w.heap.size w W):upBut row w W:=⟨h.os,h.tape,h.output,h.size,fun k hk _=>h.block k hk⟩
instance butWay (row:Option Nat):Way (upBut row):=⟨fun w=>World.grownBy.refl w _,fun h k=>⟨k.os.trans h.os,k.tape.trans h.tape,k.output.trans h.output,Nat.le_trans h.size k.size,fun j hj hne=>(k.block j (Nat.lt_of_lt_of_le hj h.size) hne).trans (h.block j hj hne)⟩⟩
theorem zBm {P:Program} {ops:Array Oper} {Q:Exit->Act->World->Prop} (row:Option Nat) {id:Nat} {a:Act} {w:World} (hm:P.follows .mixedOrders=true)
  (h:wpAnyG (upBut row) P .any ops Q ops.size (Array.replicate ops.size false) a w.drew):(Code.region id ops true).wp P Q a w:=
 wp_region_any hm (zAu _ _ _ _ h)
theorem upBut.cell {row:Option Nat} {w W:World} (h:upBut row w W) {p:Addr} (hp:p.block<w.heap.size) (hne:some p.block≠row):W.cell? p=w.cell? p:=World.cell?_of_block (h.block _ hp hne)
def waitsOn (md:Region.Mode) (ops:Array Oper) (z i:Nat):Bool:=
 match ops[z]? with
 | some o=>o.after.any fun e=>Region.binds md e&&e.on==i
 | none=>true
theorem zFn {md:Region.Mode} {ops:Array Oper} {z i:Nat} (h:waitsOn md ops z i=true):∀oz,ops[z]?=some oz->∃e∈oz.after,Region.binds md e=true/\e.on=i:=by
 intro oz hoz;unfold waitsOn at h;rw[hoz] at h;simp only[Array.any_eq_true,Bool.and_eq_true,beq_iff_eq] at h;obtain⟨k,hk,h1,h2⟩:=h;exact⟨oz.after[k],Array.getElem_mem hk,h1,h2⟩
section
variable {P:Program} {ops:Array Oper} {Q:Exit->Act->World->Prop} {md:Region.Mode} {z:Nat}
variable {R:World->World->Prop} [Way R]
def wpAnyL (R:World->World->Prop) (P:Program) (md:Region.Mode) (ops:Array Oper) (Q:Exit->Act->World->Prop) (z:Nat):Nat->Array Bool->Act->World->Prop
 | 0,listed,a,w=>Region.ready md ops listed=[]/\Q .normal a w
 | fuel+1,listed,a,w=>
  (Region.ready md ops listed=[]->Q .normal a w)/\
  ∀i∈Region.ready md ops listed,wpOp P ops Q i (fun a' w'=>(i≠z->R w w')/\wpAnyL R P md ops Q z fuel (listed.setIfInBounds i true) a' w') a w
omit [Way R] in
theorem zBk:∀(fuel:Nat) (listed:Array Bool) (a:Act) (w:World),wpAnyL R P md ops Q z fuel listed a w->wpAny P md ops Q fuel listed a w
 | 0,_,_,_,h=>h
 | fuel+1,_,_,_,h=>⟨h.1,fun i hi=>wpOp_mono (fun a' w' h'=>zBk fuel _ a' w' h'.2) (h.2 i hi)⟩
theorem zGq {i:Nat} {oi:Oper} {v:Value} (hi:ops[i]?=some oi) (hsel:∀(j:Nat) (o:Oper) cs b,ops[j]?=some o->o.op≠.select cs b)
  (hQ:∀c a w,Q (.panic c) (a.put oi.dst v) w->Q (.panic c) a w) (hz:∀oz,ops[z]?=some oz->∃e∈oz.after,Region.binds md e=true/\e.on=i):
  ∀(fuel:Nat) (listed:Array Bool) (a:Act) (w:World),
   (∀j oj,ops[j]?=some oj->j≠i->listed.getD j true=false->(∀e∈oj.after,Region.binds md e=true->e.on≠i)->oi.apart ops oj=true)->
   i∈Region.ready md ops listed->YieldsIf P ops (R w) oi v a->
   wpAnyL R P md ops Q z fuel (listed.setIfInBounds i true) (a.put oi.dst v) w->wpAnyL R P md ops Q z (fuel+1) listed a w:=by
 intro fuel
 induction fuel with
 | zero=>
  intro listed a w _ hr hy H;refine⟨fun h=>(by rw[h] at hr;cases hr),fun j hj=>?_⟩;rcases Nat.decEq j i with hne | rfl
  ·have hm:=ready_mono hj hne;rw[H.1] at hm;cases hm
  ·exact hy.wpOp hi (Way.refl w) ⟨fun _=>Way.refl w,H⟩
 | succ fuel ih=>
  intro listed a w hfree hr hy H;refine⟨fun h=>(by rw[h] at hr;cases hr),fun j hj=>?_⟩;rcases Nat.decEq j i with hne | rfl
  ·obtain ⟨hun,oj,hoj,hwait⟩:=mem_ready.1 hj;have hno:∀e∈oj.after,Region.binds md e=true->e.on≠i:=by
    intro e he hb hon;have h1:=hwait e he hb;have h0:=(mem_ready.1 hr).1;rw[hon] at h1;rcases Nat.lt_or_ge i listed.size with hlt | hge
    ·simp [hlt] at h0 h1;rw[h0] at h1;cases h1
    ·simp [Array.getElem?_eq_none hge] at h1
   have hjz:j≠z:=fun e=>by
    subst e;obtain⟨e,he,hb,hon⟩:=hz oj hoj;exact hno e he hb hon
   have hstep:=wpOp_putIf hoj (hfree j oj hoj hne hun hno) (fun cs b=>hsel i oi cs b hi) (fun cs b=>hsel j oj cs b hoj) hQ hy (H.2 j (ready_mono hj hne));refine wpOp_mono (fun a' w' hh=>⟨hh.2.1,ih (listed.setIfInBounds j true) a' w' ?_ (ready_mono hr (Ne.symm hne)) (zCf (hh.2.1 hjz) hh.1) ?_⟩) hstep
   ·intro k ok hk hki hkun hkno;refine hfree k ok hk hki ?_ hkno;rcases Nat.decEq j k with hjk | rfl
    ·rwa [getD_set_ne true hjk] at hkun
    ·exact hun
   ·rw [Array.setIfInBounds_comm _ _ hne];exact hh.2.2
  ·exact hy.wpOp hi (Way.refl w) ⟨fun _=>Way.refl w,H⟩
theorem zAb (i:Nat) (d:Option Tmp) {oi:Oper} {v:Value} {fuel:Nat} {listed:Array Bool} {a:Act} {w:World} (hi:ops[i]?=some oi) (hd:oi.dst=d)
  (hk:okZ md ops listed i=true)
  (hQ:(fun c a w=>Q (.panic c) (a.put d v) w)=fun c a w=>Q (.panic c) a w) (hz:waitsOn md ops z i=true) (hw:Region.wanted oi (yielded ops a.tmps)=true) (hy:∀W,R w W->(execOp a.eval oi).run P W=.ok (.value v) W)
  (h:wpAnyL R P md ops Q z fuel (listed.setIfInBounds i true) (a.put d v) w):wpAnyL R P md ops Q z (fuel+1) listed a w:=by
 obtain⟨⟨hs,hf⟩,hr⟩:=zHh hk;replace hQ:=fun c a w=>(congrFun (congrFun (congrFun hQ c) a) w).mp
 subst hd;exact zGq hi (Region.noSelect_spec hs) hQ (zFn hz) fuel listed a w (Region.free_spec hi hf) (by simpa using hr) (.inl ⟨hw,hy⟩) h
omit [Way R] in
theorem zAk (i:Nat) {oi:Oper} {fuel:Nat} {listed:Array Bool} {a:Act} {w:World} (hi:ops[i]?=some oi) (hr:Region.ready md ops listed=[i])
  (h:∀K':Act->World->Prop,Shut (∀a' w',(i≠z->R w w')->wpAnyL R P md ops Q z fuel (listed.setIfInBounds i true) a' w'->K' a' w')->if Region.wanted oi (yielded ops a.tmps)=true then Oper.wp P oi a w K' Q else K' (a.put oi.dst undef) w):
  wpAnyL R P md ops Q z (fuel+1) listed a w:=by
 refine⟨fun h0=>(by rw[hr] at h0;cases h0),fun j hj=>?_⟩;rw[hr] at hj;obtain rfl:j=i:=by simpa using hj
 exact wpOp_step hi (fun K' hK=>h K' (fun a' w' hb hg=>hK a' w' ⟨hb,hg⟩))
omit [Way R] in
theorem zDg {listed:Array Bool} {a:Act} {w:World} (hr:Region.ready md ops listed=[]) (h:Q .normal a w):
  ∀fuel,wpAnyL R P md ops Q z fuel listed a w
 | 0=>⟨hr,h⟩
 | _+1=>⟨fun _=>h,by rw[hr];simp⟩
end
structure upBB (B:Nat) (row:Option Nat) (w W:World):Prop where
 os:W.os=w.os
 tape:W.tape=w.tape
 output:W.output=w.output
 size:w.heap.size<=W.heap.size
 block:∀k,k<B->some k≠row->W.heap[k]?=w.heap[k]?
instance bbWay (B:Nat) (row:Option Nat):Way (upBB B row):=⟨fun w=>⟨rfl,rfl,rfl,Nat.le_refl _,fun _ _ _=>rfl⟩,fun h k=>⟨k.os.trans h.os,k.tape.trans h.tape,k.output.trans h.output,Nat.le_trans h.size k.size,fun j hj hne=>(k.block j hj hne).trans (h.block j hj hne)⟩⟩
theorem zA1 {B:Nat} (row:Option Nat) {w W:World} (hD:B<=w.heap.size) (h:Below w.heap.size w W):upBB B row w W:=⟨h.os,h.tape,h.output,h.size,fun k hk _=>h.block k (Nat.lt_of_lt_of_le hk hD)⟩
theorem zF2 {B:Nat} (row:Option Nat) {w W:World} (h:Below B w W):upBB B row w W:=⟨h.os,h.tape,h.output,h.size,fun k hk _=>h.block k hk⟩
theorem zCx {B:Nat} {row:Option Nat} {w W:World} (hB:B<=w.heap.size) (h:w.grownBy W row):upBB B row w W:=⟨h.os,h.tape,h.output,h.size,fun k hk hne=>h.block k (Nat.lt_of_lt_of_le hk hB) hne⟩
theorem upBB.cell {B:Nat} {row:Option Nat} {w W:World} (h:upBB B row w W) {p:Addr} (hp:p.block<B) (hne:some p.block≠row):W.cell? p=w.cell? p:=World.cell?_of_block (h.block _ hp hne)
theorem zBl {P:Program} {ops:Array Oper} {Q:Exit->Act->World->Prop} (B:Nat) (row:Option Nat) (z:Nat) {id:Nat} {a:Act} {w:World} (hm:P.follows .mixedOrders=true)
  (h:wpAnyL (upBB B row) P .any ops Q z ops.size (Array.replicate ops.size false) a w.drew):(Code.region id ops true).wp P Q a w:=
 wp_region_any hm (zBk _ _ _ _ h)
end Go.Proofs.YtlfglibcggphjaaGreatDoor
