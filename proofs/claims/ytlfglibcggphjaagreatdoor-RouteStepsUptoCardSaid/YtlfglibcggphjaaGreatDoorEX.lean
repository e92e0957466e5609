/- Several texts in one: Truth, EMath, EVals, EPVals, EPAttr, EHas, EPHas, EPPart, EPAttrs, EPForm, BlkG, VMath, EAwake. By an AI agent. -/
import Derived.Test.YtlfglibcggphjaaGreatDoorMI
import Derived.Deep.CutRange
import Derived.Test.YtlfglibcggphjaaGreatDoorShelf
import Derived.Test.YtlfglibcggphjaaGreatDoorGrow
import Derived.BigQuiet
import Derived.Deep.CutBlock
import Derived.Deep.MidRow
import Derived.Deep.DeepMust
set_option linter.unusedSimpArgs false
set_option linter.unusedVariables false
namespace Go.Proofs.YtlfglibcggphjaaGreatDoor
open Go.RowKit
noncomputable def Tr (p:Prop):Bool:=@decide p (Classical.propDecidable p)
theorem toeq (l m:List UInt8):((txt l).toList==m)=(l==m):=by rw[zAm]
abbrev EA:=List UInt8 × List (List UInt8)
structure EAs (w:World) (B:Nat) (xs:List Value) (L:List EA):Prop where
 len:xs.length=L.length*2
 each:∀(i:Nat) (a:EA),L[i]?=some a->∃A c,xs[i*2]?=some (.string (txt a.1))/\xs[i*2+1]?=some (.slice A a.2.length c)/\a.2.length<=c/\c<=maxLen/\Has w B 1 A a.2.length (strs a.2)
theorem EAs.below {w w':World} {B:Nat} {xs:List Value} {L:List EA} (h:EAs w B xs L) (hb:Below B w w'):EAs w' B xs L:=
 ⟨h.len,fun i a ha=>by obtain⟨A,c,h1,h2,k1,k2,h3⟩:=h.each i a ha;exact⟨A,c,h1,h2,k1,k2,h3.below hb⟩⟩
theorem EAs.upto {w:World} {B B':Nat} {xs:List Value} {L:List EA} (h:EAs w B xs L) (hB:B<=B'):EAs w B' xs L:=
 ⟨h.len,fun i a ha=>by obtain⟨A,c,h1,h2,k1,k2,h3⟩:=h.each i a ha;exact⟨A,c,h1,h2,k1,k2,h3.upto hB⟩⟩
structure EaAt (w:World) (B g o:Nat) (a:EA) (V:Option Addr) (c:Nat):Prop where
 e0:w.cell? ⟨g,o,none⟩=some (.string (txt a.1))
 e1:w.cell? ⟨g,o+1,none⟩=some (.slice V a.2.length c)
 cap:a.2.length<=c
 most:c<=maxLen
 has:Has w B 1 V a.2.length (strs a.2)
theorem EaAt.below {w w':World} {B g o:Nat} {a:EA} {V:Option Addr} {c:Nat} (h:EaAt w B g o a V c) (hg:g<B) (hb:Below B w w'):EaAt w' B g o a V c:=
 ⟨(hb.cell (p:=⟨g,o,none⟩) hg).trans h.e0,(hb.cell (p:=⟨g,o+1,none⟩) hg).trans h.e1,h.cap,h.most,h.has.below hb⟩
theorem Has.ea {w:World} {B n:Nat} {A:Option Addr} {xs:List Value} {L:List EA} (h:Has w B 2 A n xs) (hL:EAs w B xs L) (hn:L≠[]):
  ∃g o,A=some ⟨g,o,none⟩/\g<B/\∀(i:Nat) (a:EA),L[i]?=some a->∃V c,EaAt w B g (o+i*2) a V c:=by
 have hp:=List.length_pos_iff.2 hn;obtain⟨g,o,rfl,hg,hc⟩:=h.lies (by rw[hL.len];omega);refine⟨g,o,rfl,hg,fun i a ha=>?_⟩;obtain⟨V,c,h1,h2,k1,k2,h3⟩:=hL.each i a ha;exact⟨V,c,hc _ _ h1,by have:=hc _ _ h2;rwa [<-Nat.add_assoc] at this,k1,k2,h3⟩
theorem Has.eas_n {w:World} {B n:Nat} {A:Option Addr} {xs:List Value} {L:List EA} (h:Has w B 2 A n xs) (hL:EAs w B xs L):n=L.length:=by
 have h1:=h.1;have h2:=hL.len;omega
structure Blk (w:World) (h:Nat) (us:List Value):Prop where
 lt:h<w.heap.size
 cells:∀(i:Nat) (u:Value),us[i]?=some u->w.cell? ⟨h,i,none⟩=some u
 fz:∀i,w.frozen? ⟨h,i,none⟩=false
section
variable {w w':World} {h:Nat} {us:List Value}
theorem Blk.new (w:World) (us:List Value) (e:TypeId):Blk (w.alloc (.cells us.toArray e)) w.heap.size us:=
 ⟨by simp,fun i u hu=>by
  have hi:=(List.getElem?_eq_some_iff.1 hu).1
  rw[World.cell?_alloc_at (hn:=by simp)]
  simp[hu],fun i=>World.frozen?_alloc_at _ _ _ _ rfl⟩
theorem Blk.below (t:Blk w h us) {B:Nat} (hB:h<B) (hb:Below B w w'):Blk w' h us:=
 ⟨Nat.lt_of_lt_of_le t.lt hb.size,fun i u hu=>(hb.cell (p:=⟨h,i,none⟩) hB).trans (t.cells i u hu),fun i=>(hb.frozen (p:=⟨h,i,none⟩) hB).trans (t.fz i)⟩
theorem Blk.grow (t:Blk w h us) (hb:Below w.heap.size w w'):Blk w' h us:=t.below t.lt hb
theorem Blk.set (t:Blk w h us) (i:Nat) (u:Value) (hi:i<us.length):Blk (w.setCell ⟨h,i,none⟩ u) h (us.set i u):=by
 refine⟨by simpa[World.setCell] using t.lt,fun j v hv=>?_,fun j=>by rw[World.frozen?_setCell];exact t.fz j⟩;rw[List.getElem?_set] at hv;split at hv
 ·rename_i hij;subst hij;(try rw[if_pos hi] at hv);cases hv;exact World.cell?_setCell_same _ _ _ (t.cells i us[i] (List.getElem?_eq_getElem hi))
 ·rename_i hij;rw[World.cell?_setCell_other _ _ _ _ (by simp;try omega)];exact t.cells j v hv
theorem Blk.there (t:Blk w h us) (o n:Nat) (hn:o+n<=us.length):w.there h o n:=fun j hj=>
 ⟨by rw[t.cells (o+j) us[o+j] (List.getElem?_eq_getElem (by omega))];rfl,t.fz _⟩
theorem Blk.range (t:Blk w h us):w.rangeAt h 0 us:=fun j u hu=>by rw[Nat.zero_add];exact t.cells j u hu
theorem setCells_size (h:Nat):∀(vs:List Value) (o:Nat) (w:World),(w.setCells h o vs).heap.size=w.heap.size
 | [],o,w=>rfl
 | v::r,o,w=>by rw[World.setCells,setCells_size h r];simp[World.setCell]
theorem zA8 (h j:Nat):∀(vs:List Value) (o:Nat) (w:World),(j<o\/o+vs.length<=j)->(w.setCells h o vs).cell? ⟨h,j,none⟩=w.cell? ⟨h,j,none⟩
 | [],o,w,_=>rfl
 | v::r,o,w,hj=>by
  simp only[List.length_cons] at hj;rw[World.setCells,zA8 h j r (o+1) _ (by omega),World.cell?_setCell_other _ _ _ _ (by simp;try omega)]
theorem Blk.sets (t:Blk w h us) (o:Nat) (cs:List Value) (ho:o+cs.length<=us.length) (vs:List Value) (hv:vs=us.take o++cs++us.drop (o+cs.length)):Blk (w.setCells h o cs) h vs:=by
 subst hv;refine⟨by rw[setCells_size];exact t.lt,fun j v hj=>?_,fun j=>by rw[World.frozen?_setCells];exact t.fz j⟩;have hs:∀j,j<cs.length->(w.cell? ⟨h,o+j,none⟩).isSome=true:=fun j hj=>(t.there o cs.length ho j hj).1
 rw[List.append_assoc] at hj;rcases Nat.lt_or_ge j o with h1 | h1
 ·rw [zA8 h j cs o w (.inl h1)];rw[List.getElem?_append_left (by simp;omega),List.getElem?_take] at hj;rw[if_pos h1] at hj;exact t.cells j v hj
 ·rw [List.getElem?_append_right (by simp;omega)] at hj;rw[show j-(us.take o).length=j-o by simp;omega] at hj;rcases Nat.lt_or_ge (j-o) cs.length with h2 | h2
  ·rw [List.getElem?_append_left h2] at hj;have:=World.cell?_setCells_in h cs o w hs (j-o) h2;rw[show o+(j-o)=j by omega] at this;rw[this,<-hj,List.getElem?_eq_getElem h2]
  ·rw [List.getElem?_append_right h2,List.getElem?_drop] at hj;rw[zA8 h j cs o w (.inr (by omega))];exact t.cells j v (by rw[<-hj];congr 1;omega)
end
section
variable {w w':World}
theorem zAo (w:World) (h i:Nat) (u:Value):w.grownBy (w.setCell ⟨h,i,none⟩ u) (some h):=⟨rfl,rfl,rfl,by simp[World.setCell],fun k hk hne=>by
 simp only[World.setCell,Array.getElem?_modify]
 rw[if_neg (fun e=>hne (by rw[<-e]))]⟩
theorem zBj (h:Nat):∀(vs:List Value) (o:Nat) (w:World),w.grownBy (w.setCells h o vs) (some h)
 | [],o,w=>⟨rfl,rfl,rfl,Nat.le_refl _,fun _ _ _=>rfl⟩
 | v::r,o,w=>by
  have h1:=zAo w h o v;have h2:=zBj h r (o+1) (w.setCell ⟨h,o,none⟩ v);rw[World.setCells];exact⟨h2.os.trans h1.os,h2.tape.trans h1.tape,h2.output.trans h1.output,Nat.le_trans h1.size h2.size,fun k hk hne=>(h2.block k (Nat.lt_of_lt_of_le hk h1.size) hne).trans (h1.block k hk hne)⟩
end
theorem storeB {ops:Array Oper} {rest:List Oper} {o:Oper} {a:Act} {Q:Exit->Act->World->Prop} (w:World) (hgd:o.guard=none) (ty:TypeId) (x y:Operand) (ho:o.op=.store ty x y)
  (h off:Nat) (us:List Value) (cs:List Value) (hx:a.eval x=.pointer (some ⟨h,off,none⟩)) (hy:a.eval y=.agg cs.toArray) (hB:Blk w h us) (hl:off+cs.length<=us.length) (hi:(Tryz.prog.info? ty).map (·.size)=some cs.length) (h1:∀u∈cs,u.oneCell'=true)
  (H:∀wz,wz=w.setCells h off cs->wpList Tryz.prog ops Q rest (a.put o.dst undef) wz):wpList Tryz.prog ops Q (o::rest) a w:=by
 refine wpList_store_mid hgd ty x y ho h off cs.toArray hx hy (by simpa using hB.there off cs.length hl) (by simpa using hi) (all_oneCell_toArray h1) ?_;exact H _ (by simp)
section
variable {P:Program}
end
theorem zBz {fn:Func} {p:Tmp} {ty:TypeId} (h:fn.results=#[.cell p ty]) (tmps:Array Value) {P:Program} (w:World) (b:Nat) (cs:List Value) (d:TypeDesc)
  (hp:tmps.getD p undef=.pointer (some ⟨b,0,none⟩)) (hc:w.rangeAt b 0 cs) (hu:P.underlying ty=some d) (hd:d.isRow=true) (hi:(P.info? ty).map (·.size)=some cs.length):
  (results fn tmps).run P w=.ok (.agg cs.toArray) w:=by
 have hp':tmps[p]?.getD undef=.pointer (some ⟨b,0,none⟩):=by simpa using hp
 simp[results,h,hp',asAddr,run_loadVar_mid w b 0 ty cs d hc hu hd hi]
theorem Blk.keep {w w':World} {h:Nat} {us:List Value} (t:Blk w h us) (hs:w.heap.size<=w'.heap.size) (hb:w'.heap[h]?=w.heap[h]?):Blk w' h us:=
 ⟨Nat.lt_of_lt_of_le t.lt hs,fun i u hu=>(World.cell?_of_block (a:=⟨h,i,none⟩) hb).trans (t.cells i u hu),fun i=>(World.frozen?_of_block (a:=⟨h,i,none⟩) hb).trans (t.fz i)⟩
theorem Blk.grown {w w':World} {h:Nat} {us:List Value} (t:Blk w h us) {row:Option Nat} (hg:w.grownBy w' row) (hne:row≠some h):Blk w' h us:=t.keep hg.size (hg.block h t.lt hne.symm)
end Go.Proofs.YtlfglibcggphjaaGreatDoor
