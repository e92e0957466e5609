/- Several texts in one: DraftS, DraftP, DHas, DAttrs, DOk, DEntry, DForm, DGath, DOf, DAwake. By an AI agent. -/
import Derived.Test.YtdkekamkmlpnhaaGreatDoorDX
import Derived.Test.YtdkekamkmlpnhaaGreatDoorEX
import Derived.Test.YtdkekamkmlpnhaaGreatDoorEY
set_option linter.unusedSimpArgs false
set_option linter.unusedVariables false
set_option maxRecDepth 100000
set_option maxHeartbeats 64000000
namespace Go.Proofs.YtdkekamkmlpnhaaGreatDoor
open Go.RowKit Go.Maps
def turnT (T:List Ty) (u:List UInt8) (f:List Hd->List Hd):List Ty:=T.map fun x=>if x.1=u then (x.1,x.2.1,f x.2.2) else x
def withT (T:List Ty) (u:List UInt8) (nb:Nat):List Ty:=match findT T u with | some _=>T | none=>T++[(u,nb,[])]
def putT (T:List Ty) (u:List UInt8) (nb:Nat) (h:Hd):List Ty:=turnT (withT T u nb) u fun l=>l++[h]
theorem turn_tys (T:List Ty) (u:List UInt8) (f:List Hd->List Hd):(turnT T u f).map tyP=T.map tyP:=by
 unfold turnT;rw[List.map_map];apply List.map_congr_left;intro x hx;simp only[Function.comp];split<;>rfl
theorem zL0 (T:List Ty) (u:List UInt8) (f:List Hd->List Hd):((turnT T u f).map fun t=>t.2.1)=T.map fun t=>t.2.1:=by
 unfold turnT;rw[List.map_map];apply List.map_congr_left;intro x hx;simp only[Function.comp];split<;>rfl
theorem zJv (T:List Ty) (u v:List UInt8) (f:List Hd->List Hd):findT (turnT T u f) v=(findT T v).map fun t=>if v=u then (t.1,t.2.1,f t.2.2) else t:=by
 induction T with
 | nil=>simp[turnT,findT]
 | cons x T ih=>
  unfold turnT at ih ⊢;rw[List.map_cons];by_cases hx:x.1=u
  ·rw [if_pos hx];unfold findT;by_cases hv:x.1=v
   ·rw [if_pos hv,if_pos hv];have:v=u:=hv.symm.trans hx;simp[this]
   ·rw [if_neg hv,if_neg hv];exact ih
  ·rw [if_neg hx];unfold findT;by_cases hv:x.1=v
   ·rw [if_pos hv,if_pos hv];have:¬v=u:=fun q=>hx (hv.trans q)
    simp[this]
   ·rw [if_neg hv,if_neg hv];exact ih
theorem zFw (T:List Ty) (u v:List UInt8) (nb:Nat):findT (withT T u nb) v=if v=u/\findT T u=none then some (u,nb,[]) else findT T v:=by
 unfold withT;cases hu:findT T u with
 | some t=>simp
 | none=>
  simp only[and_true];have app:∀T:List Ty,findT (T++[(u,nb,[])]) v=(findT T v).or (if u=v then some (u,nb,[]) else none):=by
   intro T
   induction T with
   | nil=>simp[findT]
   | cons x T ih=>
    simp only[List.cons_append,findT];split
    ·simp
    ·exact ih
  rw[app];by_cases h:v=u
  ·subst h;rw[hu];simp
  ·rw [if_neg (fun q=>h q.symm),if_neg h];simp
theorem zKp (T:List Ty) (u v:List UInt8) (nb:Nat):heldT (withT T u nb) v=heldT T v:=by
 unfold heldT;rw[zFw];by_cases h:v=u/\findT T u=none
 ·rw [if_pos h,h.1,h.2]
 ·rw [if_neg h]
theorem held_put (T:List Ty) (u v:List UInt8) (nb:Nat) (h:Hd):heldT (putT T u nb h) v=if v=u then heldT T u++[h] else heldT T v:=by
 unfold putT;have hw:(findT (withT T u nb) u).isSome:=by
  rw[zFw];cases findT T u<;>simp
 by_cases e:v=u
 ·subst e;rw[if_pos rfl];have h1:=zKp T v v nb;unfold heldT at h1 ⊢;rw[zJv];cases hf:findT (withT T v nb) v with
  | none=>rw[hf] at hw;cases hw
  | some t=>
   rw[hf] at h1;simp only[Option.map_some,if_true];rw[<-h1]
 ·rw [if_neg e];have h1:=zKp T u v nb;unfold heldT at h1 ⊢;rw[zJv];simp only[e,if_false];rw[<-h1];cases findT (withT T u nb) v<;>rfl
section
variable {w:World} {B d bt nx:Nat} {T:List Ty}
theorem zAt {P:Program} {k:TypeId} {b q i:Nat} {L:Prs} {v:Value} (h:MapL w P k b L) (hc:w.cell? ⟨q,i,none⟩=some v):q≠b:=by
 rintro rfl;obtain⟨D,⟨es,clock,hb,_⟩,_⟩:=h;simp[World.cell?,hb] at hc
theorem zEy {w':World} {b:Nat} (h:w.mapTurned w' b) (hB:B<=b) (hw:b<w.heap.size):Below B w w':=
 (Below.refl B w).grown h.grown (by omega) (fun k hk=>by injection hk with hk;omega)
theorem DraftM.turn {w':World} {u:List UInt8} {y:Ty} {f:List Hd->List Hd} (h:DraftM w B d bt nx T) (hy:findT T u=some y) (hL:MapL w' Tryz.prog 9 y.2.1 ((f y.2.2).map heldP)) (ht:w.mapTurned w' y.2.1):DraftM w' B d bt nx (turnT T u f):=by
 obtain⟨hm,hu⟩:=zAr hy;have hne:d≠y.2.1:=zAt (h.each y hm) h.d0;have hg:=ht.grown;obtain⟨a1,a2⟩:=List.nodup_cons.1 h.apart;have hbt:bt≠y.2.1:=fun q=>a1 (q ▸ List.mem_map_of_mem (f:=fun t:Ty=>t.2.1) hm)
 have hblk:∀k,k<w.heap.size->k≠y.2.1->w'.heap[k]?=w.heap[k]?:=fun k hk q=>hg.block k hk (by intro e;injection e with e;exact q e)
 have hd:=h.ltd;refine⟨?_,?_,fun i=>(ht.frozen _).trans (h.frz i),?_,?_,?_,h.newd,h.newt,?_⟩
 ·exact (World.cell?_of_block (w:=w) (a:=⟨d,0,none⟩) (hblk d hd hne)).trans h.d0
 ·exact (World.cell?_of_block (w:=w) (a:=⟨d,1,none⟩) (hblk d hd hne)).trans h.d1
 ·rw [turn_tys];exact h.types.of_block (hblk bt h.types.lt hbt)
 ·intro t ht';unfold turnT at ht';obtain⟨x,hx,rfl⟩:=List.mem_map.1 ht';by_cases hxu:x.1=u
  ·have hxy:x=y:=by
    have:=zCi h.nd hx;rw[hxu,hy] at this;injection this with this
    exact this.symm
   rw[if_pos hxu,hxy];exact hL
  ·rw [if_neg hxu];have hxy:x.2.1≠y.2.1:=by
    intro q;have hnd:=List.nodup_iff_pairwise_ne.1 a2;rw[List.pairwise_map] at hnd;have key:∀{L:List Ty},L.Pairwise (fun a b=>a.2.1≠b.2.1)->x∈L->y∈L->x=y:=by
     intro L
     induction L with
     | nil=>intro _ hx;simp at hx
     | cons z L ih=>
      intro hp hx hy;obtain⟨p1,p2⟩:=List.pairwise_cons.1 hp;rcases List.mem_cons.1 hx with rfl | hx
      ·rcases List.mem_cons.1 hy with rfl | hy
       ·rfl
       ·exact absurd q (p1 y hy)
      ·rcases List.mem_cons.1 hy with hyz | hy
       ·subst hyz;exact absurd q.symm (p1 x ‹x∈L›)
       ·exact ih p2 hx hy
    exact hxu ((key hnd hx hm) ▸ hu)
   exact (h.each x hx).of_block (hblk x.2.1 (h.each x hx).lt hxy)
 ·rw [zL0];exact h.apart
 ·intro t ht';unfold turnT at ht';obtain⟨x,hx,rfl⟩:=List.mem_map.1 ht';split
  ·exact h.newe x hx
  ·exact h.newe x hx
theorem DraftM.bump (h:DraftM w B d bt nx T):DraftM (w.setCell ⟨d,1,none⟩ (.int .i64 ((nx+1:Nat):Int))) B d bt (nx+1) T:=by
 have hblk:∀k,k≠d->(w.setCell ⟨d,1,none⟩ (.int .i64 ((nx+1:Nat):Int))).heap[k]?=w.heap[k]?:=fun k hk=>Below.heap_setCell w ⟨d,1,none⟩ _ k hk
 refine⟨?_,?_,fun i=>(World.frozen?_setCell _ _ _ _).trans (h.frz i),?_,?_,h.apart,h.newd,h.newt,h.newe⟩
 ·rw [World.cell?_setCell_other _ _ _ _ (by simp)];exact h.d0
 ·exact World.cell?_setCell_same _ _ _ h.d1
 ·exact h.types.of_block (hblk _ (zAt h.types h.d0).symm)
 ·intro t ht;exact (h.each t ht).of_block (hblk _ (zAt (h.each t ht) h.d0).symm)
theorem DraftM.come {u:List UInt8} {t e:TypeId} (h:DraftM w B d bt nx T) (hk:Tryz.prog.underlying 9=some .string) (ht:Tryz.prog.underlying t=some (.map 9 e)) (hy:findT T u=none) (hl:u.length<=maxLen) (hc:T.length<maxLen) (hB:B<=w.heap.size):
  ∃w',(Instr.mapUpdate t (.map (some bt)) (.string (txt u)) (.map (some w.heap.size))).run Tryz.prog (w.alloc (.map #[] 0))=.ok () w'/\DraftM w' B d bt nx (T++[(u,w.heap.size,[])])/\Below B w w'/\w.grownBy w' (some bt):=by
 have hb1:Below w.heap.size w (w.alloc (.map #[] 0)):=(Below.refl _ w).alloc (Nat.le_refl _) _;have h1:=h.grow hb1;obtain⟨w',hrun,hL,hturn⟩:=h1.types.store_new hk ht hl (by simpa using hc) (by rw[zH3,hy];rfl) (.map (some w.heap.size));have hmade:=MapL.made w Tryz.prog 9;have hg:=hturn.grown;have hblk:∀k,k<(w.alloc (.map #[] 0)).heap.size->k≠bt->w'.heap[k]?=(w.alloc (.map #[] 0)).heap[k]?:=fun k hk q=>hg.block k hk (by intro e;injection e with e;exact q e)
 have hlt:=h.types.lt;have hd:=h.ltd;have hsz:(w.alloc (.map #[] 0)).heap.size=w.heap.size+1:=by simp
 obtain⟨a1,a2⟩:=List.nodup_cons.1 h.apart;have hdne:=zAt h.types h.d0;refine⟨w',hrun,⟨?_,?_,fun i=>(hturn.frozen _).trans (h1.frz i),?_,?_,?_,h.newd,h.newt,?_⟩,(hb1.mono hB).trans (zEy hturn h.newt (by omega)),(World.grownBy_alloc w _ (some bt)).trans hg⟩
 ·exact (World.cell?_of_block (a:=⟨d,0,none⟩) (hblk d (by omega) hdne)).trans h1.d0
 ·exact (World.cell?_of_block (a:=⟨d,1,none⟩) (hblk d (by omega) hdne)).trans h1.d1
 ·rw [List.map_append];exact hL
 ·intro x hx;rcases List.mem_append.1 hx with hx | hx
  ·exact (h1.each x hx).of_block (hblk _ (h1.each x hx).lt (fun q=>a1 (q ▸ List.mem_map_of_mem (f:=fun t:Ty=>t.2.1) hx)))
  ·simp only[List.mem_singleton] at hx;subst hx;exact hmade.of_block (hblk _ (by omega) (by show w.heap.size≠bt;omega))
 ·rw [List.map_append,<-List.cons_append];refine List.nodup_append.2 ⟨h.apart,by simp,fun a ha b hb q=>?_⟩;simp only[List.map_cons,List.map_nil,List.mem_singleton] at hb;subst hb;subst q;rcases List.mem_cons.1 ha with q | ha
  ·omega
  ·obtain ⟨x,hx,hq⟩:=List.mem_map.1 ha;have:=(h.each x hx).lt;omega
 ·intro x hx;rcases List.mem_append.1 hx with hx | hx
  ·exact h.newe x hx
  ·simp only[List.mem_singleton] at hx;subst hx;exact hB
end
structure DraftP (T:List Ty) (nx:Nat) (L:List EA):Prop where
 norm:∀u,∀h∈heldT T u,valV u h.2.1=(h.1,0)
 place:∀u,(heldT T u).Pairwise fun a b=>a.2.2<b.2.2
 lt:∀u,∀h∈heldT T u,h.2.2<nx
 pick:∀u,pickE L u=(heldT T u).map fun h=>h.2.1
 rise:Rise L
 full:∀a∈L,a.2≠[]
theorem DraftP.nil:DraftP [] 0 []:=⟨fun u h hh=>by simp[heldT,findT] at hh,fun u=>by simp[heldT,findT],fun u h hh=>by simp[heldT,findT] at hh,fun u=>by simp[heldT,findT,pickE],.nil,fun a ha=>by simp at ha⟩
theorem DraftP.has {T:List Ty} {nx:Nat} {L:List EA} (h:DraftP T nx L) {u v n:List UInt8} (hv:valV u v=(n,0)):(findH (heldT T u) n).isSome=true↔WithinV u (pickE L u) v:=by
 rw[zQ6,h.pick,List.any_eq_true];constructor
 ·rintro ⟨x,hx,he⟩;have he:x.1=n:=by simpa using he
  refine⟨x.2.1,List.mem_map_of_mem (f:=fun h:Hd=>h.2.1) hx,?_,?_,?_⟩
  ·rw [hv]
  ·rw [h.norm u x hx]
  ·rw [h.norm u x hx,hv];exact he
 ·rintro ⟨y,hy,h1,h2,h3⟩;obtain⟨x,hx,rfl⟩:=List.mem_map.1 hy;refine⟨x,hx,?_⟩;rw[h.norm u x hx,hv] at h3;simpa using h3
theorem DraftP.put {T:List Ty} {nx:Nat} {L:List EA} (h:DraftP T nx L) {u v n:List UInt8} (nb:Nat) (hv:valV u v=(n,0)):DraftP (putT T u nb (n,v,nx)) (nx+1) (setE L u (pickE L u++[v])):=by
 have hh:∀x,heldT (putT T u nb (n,v,nx)) x=if x=u then heldT T u++[(n,v,nx)] else heldT T x:=fun x=>held_put T u x nb _
 refine⟨fun x y hy=>?_,fun x=>?_,fun x y hy=>?_,fun x=>?_,zNm h.rise _ _,zMs h.full _ _⟩
 ·rw [hh] at hy;split at hy
  ·rename_i e;subst e;rcases List.mem_append.1 hy with hy | hy
   ·exact h.norm x y hy
   ·simp only[List.mem_singleton] at hy;subst hy;exact hv
  ·exact h.norm x y hy
 ·rw [hh];split
  ·refine List.pairwise_append.2 ⟨h.place u,by simp,fun a ha b hb=>?_⟩;simp only[List.mem_singleton] at hb;subst hb;exact h.lt u a ha
  ·exact h.place x
 ·rw [hh] at hy;split at hy
  ·rcases List.mem_append.1 hy with hy | hy
   ·have:=h.lt u y hy;omega
   ·simp only[List.mem_singleton] at hy;subst hy;exact Nat.lt_succ_self nx
  ·have:=h.lt x y hy;omega
 ·rw [hh,zC2];split
  ·rw [List.map_append,<-h.pick];rfl
  ·exact h.pick x
structure Draft (w:World) (B d nx:Nat) (L:List EA):Prop where
 out:∃bt T,DraftM w B d bt nx T/\DraftP T nx L/\T.length<=nx/\∀t∈T,t.2.2.length<=nx/\t.1.length<=1000000
theorem Draft.grow {w w':World} {B d nx:Nat} {L:List EA} (h:Draft w B d nx L) (hb:Below w.heap.size w w'):Draft w' B d nx L:=by
 obtain⟨bt,T,h1,h2,h3,h4⟩:=h.out;exact⟨bt,T,h1.grow hb,h2,h3,h4⟩
theorem zC4 {n:Nat} (h:n<=1000000):n<=maxLen:=by unfold maxLen;omega
theorem zeroIn (w:World):(zeroValue 188).run Tryz.prog w=.ok (.map none) w:=by kernel_rfl
theorem zeroHd (w:World):(zeroValue 230).run Tryz.prog w=.ok (.agg #[.string .empty,.int .i64 0]) w:=by kernel_rfl
def mapAt (T:List Ty) (u:List UInt8):Value:=.map ((findT T u).map fun t=>t.2.1)
theorem DraftM.at {w:World} {B d bt nx:Nat} {T:List Ty} (h:DraftM w B d bt nx T) {u:List UInt8} (hu:u.length<=1000000):
  (Instr.lookup 178 (.map (some bt)) (.string (txt u)) false).run Tryz.prog w=.ok (mapAt T u) w:=by
 have:=h.types.look Tryz.underlying9 Tryz.underlying178 (zeroIn w) (zC4 hu);rw[this,zH3];unfold mapAt;cases findT T u<;>rfl
theorem DraftM.inn {w:World} {B d bt nx:Nat} {T:List Ty} (h:DraftM w B d bt nx T) {u n:List UInt8} (hn:n.length<=1000000):
  ∃a b,(Instr.lookup 188 (mapAt T u) (.string (txt n)) true).run Tryz.prog w=.ok (.tuple #[.agg #[.string a,.int .i64 b],.bool (findH (heldT T u) n).isSome]) w:=by
 unfold mapAt heldT;cases hf:findT T u with
 | none=>exact⟨_,_,zLv Tryz.underlying9 Tryz.underlying188 (zeroHd w) (zC4 hn)⟩
 | some y=>
  have h1:=(h.each y (zAr hf).1).look_ok Tryz.underlying9 Tryz.underlying188 (zeroHd w) (zC4 hn);rw[zGc] at h1;cases hh:findH y.2.2 n with
  | none=>rw[hh] at h1;exact⟨ByteArray.empty,0,h1⟩
  | some x=>rw[hh] at h1;exact⟨txt x.2.1,(x.2.2:Int),h1⟩
theorem zFo {B d bt nx:Nat} {T:List Ty} (w:World) (h:DraftM w B d bt nx T) (u n:List UInt8) (hu:u.length<=1000000) (hn:n.length<=1000000):
  Calls Tryz.prog 151 #[.pointer (some ⟨d,0,none⟩),.string (txt u),.string (txt n)] w fun e w'=>e=.returned (.bool (findH (heldT T u) n).isSome)/\Below w.heap.size w w':=by
 have d0:=h.d0;have h1:=h.at hu;obtain⟨a,b,h2⟩:=h.inn (u:=u) hn;obtain⟨R,hR⟩:∃R,(findH (heldT T u) n).isSome=R:=⟨_,rfl⟩;rw[hR] at h2 ⊢;clear h hR hu hn;generalize mapAt T u=V at *;generalize txt u=U at *;generalize txt n=N at *;have hb:=below1 w (.cells #[.string a,.int .i64 b] 230);have HB:=hide hb;clear hb;go_enter Tryz.func151,Tryz.ntmps151;go_wp2;go_ret;exact⟨rfl,HB.out⟩
theorem zSk {w:World} {B d bt nx:Nat} {T:List Ty} (h:DraftM w B d bt nx T) (u:List UInt8) (ty:TypeId):
  (Builtin.len_ #[188] ty #[mapAt T u]).run Tryz.prog w=.ok (.int .i64 ((heldT T u).length:Int)) w:=by
 unfold mapAt heldT;cases hf:findT T u with
 | none=>exact Maps.len_nil Tryz.underlying188 ty
 | some y=>
  have:=(h.each y (zAr hf).1).len Tryz.underlying188 ty;rw[List.length_map] at this;exact this
theorem zCx {B d bt nx:Nat} {T:List Ty} (w:World) (h:DraftM w B d bt nx T) (u:List UInt8) (hu:u.length<=1000000):
  Calls Tryz.prog 150 #[.pointer (some ⟨d,0,none⟩),.string (txt u)] w fun e w'=>e=.returned (.bool (decide (heldT T u≠[])))/\Below w.heap.size w w':=by
 have d0:=h.d0;have h1:=h.at hu;have h2:=fun ty=>zSk h u ty
 have hR:decide (heldT T u≠[])=decide (0<(heldT T u).length):=by
  cases heldT T u with
  | nil=>simp
  | cons x l=>simp
 rw[hR];clear h hu hR;generalize mapAt T u=V at *;generalize txt u=U at *;generalize (heldT T u).length=k at *;go_enter Tryz.func150,Tryz.ntmps150;go_wp2;go_ret;exact⟨rfl,Below.refl _ _⟩
def attrsOf (T:List Ty) (ks:List (List UInt8)):List EA:=(ks.filter fun k=>decide (heldT T k≠[])).map fun k=>(k,(heldT T k).map fun h:Hd=>h.2.1)
theorem zE7 (T:List Ty) (ks:List (List UInt8)) (k:List UInt8):attrsOf T (ks++[k])=if heldT T k≠[] then attrsOf T ks++[(k,(heldT T k).map fun h:Hd=>h.2.1)] else attrsOf T ks:=by
 unfold attrsOf;rw[List.filter_append];by_cases h:heldT T k≠[]
 ·rw [if_pos h,List.filter_cons_of_pos (by simpa using h)];simp
 ·rw [if_neg h,List.filter_cons_of_neg (by simpa using h)];simp
theorem zLe (T:List Ty) (ks:List (List UInt8)):(attrsOf T ks).length<=ks.length:=by
 unfold attrsOf;rw[List.length_map];exact List.length_filter_le _ _
structure TysOk (T:List Ty):Prop where
 len:T.length<=1000000
 name:∀t∈T,t.1.length<=1000000
 few:∀t∈T,t.2.2.length<=1000000
 vals:∀t∈T,∀h∈t.2.2,h.2.1.length<=1000000
 place:∀t∈T,t.2.2.Pairwise fun a b=>a.2.2<b.2.2
theorem zQ1 {B d bt nx:Nat} {T:List Ty} (w:World) (hM:DraftM w B d bt nx T) (hT:TysOk T):
  Calls Tryz.prog 152 #[.pointer (some ⟨d,0,none⟩)] w fun e w'=>∃ks,KeysOk T ks/\AttrsPost (attrsOf T ks) w e w':=by
 suffices H:Calls Tryz.prog 152 #[.pointer (some ⟨d,0,none⟩)] w fun e w'=>∃v,e=.returned v/\(∃ks,KeysOk T ks/\∃zs,RowA w' w.heap.size 60 v zs (attrsOf T ks))/\Below w.heap.size w w' from H.mono fun e w' ⟨v,h1,⟨ks,h2,zs,h3⟩,h4⟩=>by
  subst h1;exact⟨ks,h2,h3.told h4⟩
 have d0:=hM.d0;have hb1:=below1 w (.cells #[.map (some bt)] 178);have hS:=zKu w bt T hM.types (by have:=hT.len;omega);have HS:=hide hS;have HM:=hide hM;have HT:=hide hT;clear hS hM hT hb1;go_enter Tryz.func152,Tryz.ntmps152;go_wp2_with (go_at_call 190;fail);refine (zS4 bt w).mono ?_;rintro e w1 ⟨rfl,rfl⟩;go_wp2_with (go_at_call 189;fail);refine HS.out.mono ?_;rintro e w2 ⟨A,c,ks,rfl,hk,hH,hb2⟩;have HK:=hide hk;have HB2:=hide hb2;have HH:=hide hH;obtain⟨n,hn⟩:∃n,ks.length=n:=⟨_,rfl⟩;have Hn:=hide hn;rw[hn] at HH;rw[hn];have hnb:n<=1000000:=by rw[<-hn,hk.len];exact HT.out.len
 clear hk hH hb2 HS d0 hn;go_wp2
 go_loopg [3,13] n (fun r s3 s13 wx=>∃(i:Nat) (zs:List Value),i+r=n/\s13=.int .i64 (i:Int)/\Hid (RowA wx w.heap.size 60 s3 zs (attrsOf T (ks.take i)))/\Hid (Below w2.heap.size w2 wx/\Below w.heap.size w wx)/\Hid (∀k,s3.ownBlock=some k->w2.heap.size<=k))
 case atStart=>exact⟨0,[],by omega,rfl,hide (RowA.start (World.ownsRow_nil _ _ _ _)),hide ⟨Below.refl _ _,HB2.out⟩,hide fun k e=>by cases e⟩
 case round=>
  obtain⟨i,zs,hig,rfl,hro,hbb,hob⟩:=hrel;cases gk with
  | zero=>
   obtain rfl:i=n:=by omega
   have hiz:¬((i:Int)<(i:Int)):=by omega
   have ho:=hro.out;rw[List.take_of_length_le (by rw[Hn.out];exact Nat.le_refl _)] at ho;have Ho:=hide ho;clear HM HT HH HB2 hro ho hob;go_wp2;go_ret;exact⟨_,rfl,⟨ks,HK.out,zs,Ho.out⟩,hbb.out.2⟩
  | succ r=>
   have hi:i<n:=by omega
   have hiz:(i:Int)<(n:Int):=by omega
   obtain⟨k,hkk⟩:∃k,ks[i]?=some k:=⟨_,List.getElem?_eq_getElem (by rw[Hn.out];exact hi)⟩;obtain⟨g,o,hAe,hg,hat⟩:=HH.out.texts (fun h=>by rw[h] at hkk;simp at hkk);have x0:=(hbb.out.1.cell (p:=⟨g,o+i,none⟩) hg).trans (hat i k hkk);have HAe:=hide hAe;subst hAe;obtain⟨y,hy⟩:∃y,findT T k=some y:=by
    have:=(HK.out.mem k).1 (List.mem_of_getElem? hkk);cases hf:findT T k with
    | none=>rw[hf] at this;cases this
    | some y=>exact⟨y,rfl⟩
   obtain⟨hym,hyk⟩:=zAr hy;have hkl:k.length<=1000000:=by rw[<-hyk];exact HT.out.name y hym
   have hMr:=HM.out.grow hbb.out.2;have hcall:=zCx wr hMr k hkl;have HC:=hide hcall;have Htk:Hid (ks.take (i+1)=ks.take i++[k]):=hide (by rw[List.take_add_one,hkk];rfl);have HMr:=hide hMr;have Hy:=hide (And.intro hy (And.intro hym hkl));obtain⟨K,hK⟩:∃K,txt k=K:=⟨_,rfl⟩;have HKe:=hide hK;rw[hK] at x0 HC;clear hcall hMr hat hy hym hkl hK hkk hyk;by_cases hne:heldT T k=[]
   ·have hd:decide (heldT T k≠[])=false:=by simp[hne]
    rw[hd] at HC;have Hne:=hide hne;clear hd hne;go_wp2_with (go_at_call 150;fail);refine HC.out.mono ?_;rintro e w3 ⟨rfl,hb3⟩;have HRo3:=hide (hro.out.below hb3);have hs1:=hbb.out.1.size;have hs2:=hbb.out.2.size;have HB3:=hide (And.intro (hbb.out.1.trans (hb3.mono hs1)) (hbb.out.2.trans (hb3.mono hs2)));clear hb3 hro hbb HC HMr x0 hs1 hs2;go_wp2
    go_roundg r
    case measure=>omega
    case rel=>exact⟨i+1,zs,by omega,by go_num,hide (by rw[Htk.out,zE7,if_neg (by simp[Hne.out])];exact HRo3.out),HB3,hob⟩
   ·have hd:decide (heldT T k≠[])=true:=by simp[hne]
    rw[hd] at HC;have Hne:=hide hne;clear hd hne;go_wp2_with (go_at_call 150;fail);refine HC.out.mono ?_;rintro e w3 ⟨rfl,hb3⟩;have HRo3:=hide (hro.out.below hb3);have hs1:=hbb.out.1.size;have hs2:=hbb.out.2.size;have HB3:=hide (And.intro (hbb.out.1.trans (hb3.mono hs1)) (hbb.out.2.trans (hb3.mono hs2)));have hM3:=HMr.out.grow hb3;have d3:=hM3.d0;have l3:=hM3.at Hy.out.2.2;have hmp:mapAt T k=.map (some y.2.1):=by unfold mapAt;rw[Hy.out.1];rfl
    have hyh:heldT T k=y.2.2:=(by unfold heldT;rw[Hy.out.1]);rw[hmp,HKe.out] at l3;have hIn:=zKt w3 y.2.1 y.2.2 (hM3.each y Hy.out.2.1) (by rw[<-hyh];exact Hne.out) (HT.out.place y Hy.out.2.1) (HT.out.few y Hy.out.2.1) (HT.out.vals y Hy.out.2.1);rw[<-hyh] at hIn;have HIn:=hide hIn;obtain⟨yb,hyb⟩:∃yb,y.2.1=yb:=⟨_,rfl⟩;rw[hyb] at l3 HIn;clear hb3 hro hbb HC HMr x0 hs1 hs2 hM3 hIn hmp hyh hyb;go_wp2_with (go_at_call 191;fail);refine HIn.out.mono ?_;rintro e w5 hpost;obtain⟨A5,c5,rfl,hc5,hm5,hh5,hb5⟩:=hpost.out;have hlenA:=zLe T (ks.take i);rw[List.length_take] at hlenA;obtain⟨kk,hkkk⟩:∃kk,((heldT T k).map fun h:Hd=>h.2.1).length=kk:=⟨_,rfl⟩;have HV5:=hide (And.intro hc5 (And.intro hm5 (And.intro hh5 hb5)));have Hkk:=hide hkkk;rw[hkkk];have hba:=below1 w5 (.cells #[.string K,.slice A5 kk c5] 60);have hlit:=litY w5 (.string K) (.slice A5 kk c5) 60 rfl rfl;have hown6:=zAc (zAc HRo3.out.own hb5) hba;have hB5:=HB3.out.2.trans (hb5.mono HB3.out.2.size);have hB6:=hB5.trans (hba.mono hB5.size);have hs6:=hB6.size;have hC5:=HB3.out.1.trans (hb5.mono HB3.out.1.size);have hC6:=hide (hC5.trans (hba.mono hC5.size));have HB6:=hide hB6;have h1c:∀u∈([.string K,.slice A5 kk c5]:List Value),u.oneCell'=true:=by simp[Value.oneCell']
    clear hpost hc5 hm5 hh5 hb5 hkkk hB5 hB6 hC5 d3 l3 HIn hba;go_wp2_with (at_builtin;go_must (refine appN _ 36 60 _ 2 40 Tryz.underlying36 infoEA rfl (by omega) (by omega) rfl (.tmp 20) (.tmp 30) rfl w.heap.size _ _ zs rfl hown6 _ _ 1 1 [.string K,.slice A5 kk c5] rfl (Has.own hlit) h1c (by omega) hs6 ?_));intro v7 w7 hown7 hb7 hg7 ht7;have HRo7:Hid (RowA w7 w.heap.size 60 v7 (zs++[.string K,.slice A5 kk c5]) (attrsOf T (ks.take (i+1)))):=hide (by
     rw[Htk.out,zE7,if_pos Hne.out]
     have hq:=Hkk.out
     have hK:=HKe.out
     subst hq hK
     exact HRo3.out.more (a:=(k,(heldT T k).map fun h:Hd=>h.2.1)) HB3.out.2.size HV5.out.2.2.2 HV5.out.1 HV5.out.2.1 HV5.out.2.2.1 _ hown7 hg7 (ht7.imp id fun h=>h.trans (by simp)))
    have hsz5:w2.heap.size<=(w5.alloc (.cells #[.string K,.slice A5 kk c5] 60)).heap.size:=hC6.out.size;have hB7:Hid (Below w2.heap.size w2 w7/\Below w.heap.size w w7):=hide ⟨hC6.out.grown hg7 hsz5 (fun k e=>hob.out k e),HB6.out.trans hb7⟩;have hob7:Hid (∀k,v7.ownBlock=some k->w2.heap.size<=k):=hide fun k e=>by
     rcases ht7 with q | q
     ·exact hob.out k (q ▸ e)
     ·rw [q] at e;have:=Option.some.inj e;simp at hsz5;omega
    clear hown7 hb7 hg7 ht7 HV5 HRo3 HB3 hlit h1c hown6 hs6 hlenA hC6 HB6 hob hsz5;go_wp2
    go_roundg r
    case measure=>omega
    case rel=>exact⟨i+1,_,by omega,by go_num,HRo7,hB7,hob7⟩
theorem zE6 {nm:List UInt8} (h:normT nm=(nm,0)):∀q∈pairsE nm,valV q.1 q.2=(q.2,0)/\(typ q.1).1=q.1:=by
 unfold pairsE;cases hV:nameV nm with
 | mk o e=>
  cases o with
  | none=>intro q hq;simp at hq
  | some L=>
   obtain⟨rfl,hok⟩:=zCf hV;have hp:partsV nm=(some (L.map ptx),0):=by
    have h1:normT nm=match partsV nm with | (none,e)=>([],e) | (some T,_)=>(joinC T,0):=rfl
    unfold partsV;rw[hV];simp only;split
    ·rename_i hl;have:partsV nm=(none,4):=by unfold partsV;rw[hV];simp only;rw[if_pos hl]
     rw[this] at h1;rw[h] at h1;have:=congrArg Prod.snd h1;simp only at this;omega
    ·rfl
   have hj:=norm_yes' hp;rw[h] at hj;have hj:joinC (L.map ptx)=nm:=(congrArg Prod.fst hj).symm;have hlen:(joinC (L.map ptx)).length<=1000:=by
    unfold partsV at hp;rw[hV] at hp;simp only at hp;split at hp
    ·cases hp
    ·omega
   have hm:(L.map normP).map prP=L.map ptx:=by rw[List.map_map];rfl
   have hn:=zJd (L:=L.map normP) ⟨by simpa using hok.le,fun p hp'=>by
    obtain⟨x,hx,rfl⟩:=List.mem_map.1 hp'
    exact (zEh (hok.each x hx)).1⟩ (by rw[hm];exact hlen)
   rw[hm,hj,hV] at hn;have hL:L=L.map normP:=by
    have:=congrArg Prod.fst hn;simp only at this;injection this
   cases L with
   | nil=>intro q hq;simp at hq
   | cons p r=>
    simp only;have hpn:p=normP p:=by
     rw[List.map_cons] at hL;injection hL
    intro q hq;rw[hpn] at hq;unfold normP at hq;obtain⟨a,ha,rfl⟩:=List.mem_map.1 hq;have hpo:=(hok.each p (by simp)).each a ha;have hown:=zM5 hpo.val;refine⟨?_,hpo.name⟩;simp only;unfold valV;rw[if_pos]
    ·exact hown
    ·intro h5;have:=hpo.val;unfold norm at this;rw[if_neg (by omega),if_pos h5] at this;simp at this
structure MadePost (nm:List UInt8) (L:List EA) (code:Int) (w:World) (e:Ending) (w':World):Prop where
 out:∃A c xs,e=.returned (.tuple #[.agg #[.string (txt nm),.slice A L.length c],.int .i64 code])/\L.length<=c/\c<=maxLen/\HasP w' (NewB w.heap.size w'.heap.size) 2 A L.length xs/\EAsP w' (NewB w.heap.size w'.heap.size) xs L/\Below w.heap.size w w'
theorem zCu {w w':World} {code:Int} {e:Ending} (h:e=.returned (.tuple #[.agg #[.string ⟨#[]⟩,.slice none 0 0],.int .i64 code])) (hb:Below w.heap.size w w'):MadePost [] [] code w e w':=
 ⟨none,0,[],h,by simp,by unfold maxLen;omega,HasP.nil,EAsP.nil,hb⟩
structure BoxF2 (w:World) (q:Nat) (a b:ByteArray):Prop where
 c0:w.cell? ⟨q,0,none⟩=some (.string a)
 c1:w.cell? ⟨q,1,none⟩=some (.string b)
theorem BoxF2.new (w:World) (a b:ByteArray) (t:TypeId):BoxF2 (w.alloc (.cells #[.string a,.string b] t)) w.heap.size a b:=by
 refine⟨?_,?_⟩<;>(rw[World.cell?_alloc_at (hn:=by simp)];rfl)
theorem zO8 (nm:List UInt8):(pairsE nm).length<=3:=by
 unfold pairsE;cases hV:nameV nm with
 | mk o e=>
  cases o with
  | none=>simp
  | some L=>
   obtain⟨rfl,hok⟩:=zCf hV;cases L with
   | nil=>simp
   | cons p r=>exact (hok.each p (by simp)).le
theorem zOu {B d bt nx:Nat} {T:List Ty} (w:World) (hM:DraftM w B d bt nx T) (N:ByteArray) (mis:Int) (hmany:∃t∈T,20<t.2.2.length) (hfew:T.length<=1000000/\∀t∈T,t.2.2.length<=1000000):
  Calls Tryz.prog 99 #[.pointer (some ⟨d,0,none⟩),.string N,.int .i64 mis] w fun e w'=>e=.returned (.tuple #[.agg #[.string ⟨#[]⟩,.slice none 0 0],.int .i64 19])/\Below w.heap.size w w':=by
 have hb1:=below1 w (.cells #[.string ⟨#[]⟩,.slice none 0 0] 38);have hX:=BoxE.new w ⟨#[]⟩ none 0 0 38;have hXf:∀i,(w.alloc (.cells #[.string ⟨#[]⟩,.slice none 0 0] 38)).frozen? ⟨w.heap.size,i,none⟩=false:=fun i=>World.frozen?_alloc_at _ _ _ _ rfl
 have hM1:=hM.grow hb1;obtain⟨w1,hw1⟩:∃w1,w.alloc (.cells #[.string ⟨#[]⟩,.slice none 0 0] 38)=w1:=⟨_,rfl⟩;rw[hw1] at hb1 hX hXf hM1;obtain⟨w2,hrange,hR,hg2,hs2⟩:=hM1.types.range Tryz.underlying9 Tryz.underlying178;have hb2:Below w1.heap.size w1 w2:=(Below.refl _ _).grown hg2 (Nat.le_refl _) (fun k e=>by cases e);have d0:=hM1.d0;have HM:=hide hM1;have Hnd:=hide hM1.nd;have HX:=hide hX;have HXf:=hide hXf;have HB1:=hide hb1;have HB2:=hide hb2;have HR:=hide hR;have Hmany:=hide hmany;have Hfew:=hide hfew;have Hw1:=hide hw1;clear hM hM1 hX hXf hb1 hb2 hR hmany hfew hg2 hs2 hw1;go_enter Tryz.func99,Tryz.ntmps99;go_upto_region 1 with fail;rw[Hw1.out];obtain⟨q,hq⟩:∃q,w.heap.size=q:=⟨_,rfl⟩;rw[hq] at HX HXf;(try rw[hq]);have Hq:=hide hq;clear hq;go_wp2
 go_loopg [17] T.length (fun r s17 wx=>∃todo:Prs,todo.length=r/\Hid (MapR wx Tryz.prog 9 bt w1.heap.size (T.map tyP) todo)/\Hid (Below w1.heap.size w1 wx)/\Hid (∃t∈T,20<t.2.2.length/\tyP t∈todo))
 case atStart=>exact⟨T.map tyP,by simp,HR,HB2,hide (by obtain⟨t,ht,h20⟩:=Hmany.out;exact⟨t,ht,h20,List.mem_map_of_mem (f:=tyP) ht⟩)⟩
 case round=>
  obtain⟨todo,htl,hRr,hbr,hmr⟩:=hrel;clear hrange d0 HR HB2;rcases hRr.out.next Tryz.underlying9 0 with⟨hnil,hnx⟩ | ⟨p,hp,w3,hnx,hR3,hg3,hs3,hen⟩
  ·exfalso;obtain⟨t,ht,h20,hm⟩:=hmr.out;rw[hnil] at hm;cases hm
  ·obtain ⟨t,ht,hpt⟩:=List.mem_map.1 (hRr.out.sub.subset hp);have hb3:Below w1.heap.size w1 w3:=hbr.out.grown hg3 hbr.out.size (fun k e=>by injection e with e;omega);have hM3:=HM.out.grow hb3;have hlen:=fun ty=>(hM3.each t ht).len Tryz.underlying188 ty
   rw[List.length_map] at hlen;have hrest:=hR3.map;have hcnt:=hRr.out.rest hp;have hp2:p.2=.map (some t.2.1):=by rw[<-hpt];rfl
   have hp1:p.1=t.1:=by rw[<-hpt];rfl
   rw[hp2] at hnx hen;have hX3:=HX.out.grow hb3;have hf3:∀i,w3.frozen? ⟨q,i,none⟩=false:=fun i=>(hb3.frozen (p:=⟨q,i,none⟩) HX.out.lt).trans (HXf.out i)
   have z0:=hX3.c0;have z1:=hX3.c1;have HR3:=hide hR3;have HB3:=hide hb3;have Hcnt:=hide hcnt;have Htl:=hide htl;have Hb3:=hTz HB1 hb3;have Hp:=hide (And.intro hp (And.intro hpt ht));clear hrest hp2 hp1 hX3 hM3 hb3 hg3 hs3 hRr hR3 hbr hcnt htl hp hpt ht HM;by_cases h20:20<t.2.2.length
   ·have h20z:(20:Int)<(t.2.2.length:Int):=by omega
    generalize t.2.2.length=k at *;generalize txt p.1=KN at *;generalize t.2.1=tb at *;clear h20 Hcnt Htl HR3 HB3;go_wp2
    (try simp only[Exit.inBlock,Exit.then])
    refine bodyPost_ret (v:=.tuple #[.agg #[.string ⟨#[]⟩,.slice none 0 0],.int .i64 19]) ?_ rfl ⟨rfl,?_⟩
    ·rw [results_cell_tmp rfl];go_simp
    exact (Hb3.out.setCell (p:=⟨q,0,none⟩) (by rw[Hq.out];exact Nat.le_refl _) _).setCell (p:=⟨q,1,none⟩) (by rw[Hq.out];exact Nat.le_refl _) _
   ·have h20z:¬(20:Int)<(t.2.2.length:Int):=by omega
    have hmr3:Hid (∃t∈T,20<t.2.2.length/\tyP t∈todo.filter fun q=>decide (q.1≠p.1)):=hide (by
     obtain⟨t',ht',h',hm'⟩:=hmr.out
     refine⟨t',ht',h',List.mem_filter.2 ⟨hm',?_⟩⟩
     simp only[decide_eq_true_eq]
     intro e
     obtain⟨hp,hpt,ht⟩:=Hp.out
     have f1:=zCi Hnd.out ht'
     have f2:=zCi Hnd.out ht
     have e3:t'.1=t.1:=by
      have:(tyP t').1=t.1:=by rw[e,<-hpt];rfl
      exact this
     rw[e3,f2] at f1
     have e4:=Option.some.inj f1
     subst e4
     exact h20 h')
    cases gk with
    | zero=>
     exfalso;have:=Htl.out;have h2:=Hcnt.out;omega
    | succ r=>
     generalize t.2.2.length=k at *;generalize txt p.1=KN at *;generalize t.2.1=tb at *;clear h20 z0 z1 hf3 hmr;go_wp2
     go_roundg r
     case measure=>omega
     case rel=>exact⟨_,by have:=Htl.out;have:=Hcnt.out;omega,HR3,HB3,hmr3⟩
theorem zL3 {B d bt nx:Nat} {T:List Ty} (w:World) (hM:DraftM w B d bt nx T) (N:ByteArray) (mis:Int) (hmost:∀t∈T,¬20<t.2.2.length) (hfew:T.length<=1000000/\∀t∈T,t.2.2.length<=1000000) (hcls:heldT T clsT=[]):
  Calls Tryz.prog 99 #[.pointer (some ⟨d,0,none⟩),.string N,.int .i64 mis] w fun e w'=>e=.returned (.tuple #[.agg #[.string ⟨#[]⟩,.slice none 0 0],.int .i64 65])/\Below w.heap.size w w':=by
 have hb1:=below1 w (.cells #[.string ⟨#[]⟩,.slice none 0 0] 38);have hX:=BoxE.new w ⟨#[]⟩ none 0 0 38;have hXf:∀i,(w.alloc (.cells #[.string ⟨#[]⟩,.slice none 0 0] 38)).frozen? ⟨w.heap.size,i,none⟩=false:=fun i=>World.frozen?_alloc_at _ _ _ _ rfl
 have hM1:=hM.grow hb1;obtain⟨w1,hw1⟩:∃w1,w.alloc (.cells #[.string ⟨#[]⟩,.slice none 0 0] 38)=w1:=⟨_,rfl⟩;rw[hw1] at hb1 hX hXf hM1;obtain⟨w2,hrange,hR,hg2,hs2⟩:=hM1.types.range Tryz.underlying9 Tryz.underlying178;have hb2:Below w1.heap.size w1 w2:=(Below.refl _ _).grown hg2 (Nat.le_refl _) (fun k e=>by cases e);have d0:=hM1.d0;have HM:=hide hM1;have Hnd:=hide hM1.nd;have HX:=hide hX;have HXf:=hide hXf;have HB1:=hide hb1;have HB2:=hide hb2;have HR:=hide hR;have Hfew:=hide hfew;have Hmost:=hide hmost;have Hw1:=hide hw1;clear hM hM1 hX hXf hb1 hb2 hR hfew hg2 hs2 hw1 hmost;go_enter Tryz.func99,Tryz.ntmps99;go_upto_region 1 with fail;rw[Hw1.out];obtain⟨q,hq⟩:∃q,w.heap.size=q:=⟨_,rfl⟩;rw[hq] at HX HXf;(try rw[hq]);have Hq:=hide hq;clear hq;go_wp2
 go_loopg [17] T.length (fun r s17 wx=>∃todo:Prs,todo.length=r/\Hid (MapR wx Tryz.prog 9 bt w1.heap.size (T.map tyP) todo)/\Hid (Below w1.heap.size w1 wx))
 case atStart=>exact⟨T.map tyP,by simp,HR,HB2⟩
 case round=>
  obtain⟨todo,htl,hRr,hbr⟩:=hrel;clear hrange d0 HR HB2;rcases hRr.out.next Tryz.underlying9 0 with⟨hnil,hnx⟩ | ⟨p,hp,w3,hnx,hR3,hg3,hs3,hen⟩
  rotate_left
  ·obtain ⟨t,ht,hpt⟩:=List.mem_map.1 (hRr.out.sub.subset hp);have hb3:Below w1.heap.size w1 w3:=hbr.out.grown hg3 hbr.out.size (fun k e=>by injection e with e;omega);have hM3:=HM.out.grow hb3;have hlen:=fun ty=>(hM3.each t ht).len Tryz.underlying188 ty
   rw[List.length_map] at hlen;have hcnt:=hRr.out.rest hp;have hp2:p.2=.map (some t.2.1):=by rw[<-hpt];rfl
   rw[hp2] at hnx hen;have HR3:=hide hR3;have HB3:=hide hb3;have Hcnt:=hide hcnt;have Htl:=hide htl;have h20:=Hmost.out t ht;have h20z:¬(20:Int)<(t.2.2.length:Int):=by omega
   clear hp2 hM3 hb3 hg3 hs3 hRr hR3 hbr hcnt htl hp hpt ht HM;cases gk with
   | zero=>
    exfalso;have:=Htl.out;have h2:=Hcnt.out;omega
   | succ r=>
    generalize t.2.2.length=k at *;generalize txt p.1=KN at *;generalize t.2.1=tb at *;clear h20;go_wp2
    go_roundg r
    case measure=>omega
    case rel=>exact⟨_,by have:=Htl.out;have:=Hcnt.out;omega,HR3,HB3⟩
  ·have Hbr:=hide (HB1.out.trans (hbr.out.mono HB1.out.size));have hMr:=HM.out.grow hbr.out;have hXr:=HX.out.grow hbr.out;have hfr:∀i,wr.frozen? ⟨q,i,none⟩=false:=fun i=>(hbr.out.frozen (p:=⟨q,i,none⟩) HX.out.lt).trans (HXf.out i)
   have HMr:=hide hMr;have HXr:=hide hXr;have Hfr:=hide hfr;have HCl:=hide (zCx wr hMr clsT (by decide));clear hMr hXr hfr hRr hbr htl hnil HM HX HXf;rw[hcls] at HCl;rw[show decide (([]:List Hd)≠[])=false from rfl] at HCl;clear HMr;go_wp2_with (go_at_call 150;fail);refine HCl.out.mono ?_;rintro e w4 ⟨rfl,hb4⟩;have z0:=(HXr.out.grow hb4).c0;have z1:=(HXr.out.grow hb4).c1;have hf4:∀i,w4.frozen? ⟨q,i,none⟩=false:=fun i=>(hb4.frozen (p:=⟨q,i,none⟩) HXr.out.lt).trans (Hfr.out i)
   have HB4:=hTz Hbr hb4;clear hb4 HCl Hbr;go_wp2
   (try simp only[Exit.inBlock,Exit.then])
   refine bodyPost_ret (v:=.tuple #[.agg #[.string ⟨#[]⟩,.slice none 0 0],.int .i64 65]) ?_ rfl ⟨rfl,?_⟩
   ·rw [results_cell_tmp rfl];go_simp
   exact (HB4.out.setCell (p:=⟨q,0,none⟩) (by rw[Hq.out];exact Nat.le_refl _) _).setCell (p:=⟨q,1,none⟩) (by rw[Hq.out];exact Nat.le_refl _) _
def AllIn (T:List Ty) (R:List P2):Prop:=∀p∈R,(findH (heldT T p.1) p.2).isSome=true
theorem zOy {T:List Ty} {R:List P2} {p:P2} (h:AllIn T R) (hp:(findH (heldT T p.1) p.2).isSome=true):AllIn T (R++[p]):=by
 intro x hx;rcases List.mem_append.1 hx with hx | hx
 ·exact h x hx
 ·simp only[List.mem_singleton] at hx;subst hx;exact hp
structure EntryEnd (T:List Ty) (nm:List UInt8) (mis:Int) (w:World) (e:Ending) (w':World):Prop where
 yes:AllIn T (pairsE nm)->∃ks,KeysOk T ks/\MadePost nm (attrsOf T ks) 0 w e w'
 no:¬AllIn T (pairsE nm)->MadePost [] [] mis w e w'
theorem zKx {B d bt nx:Nat} {T:List Ty} (w:World) (hM:DraftM w B d bt nx T) (nm:List UInt8) (mis:Int) (hmost:∀t∈T,¬20<t.2.2.length) (hfew:T.length<=1000000/\∀t∈T,t.2.2.length<=1000000) (hcls:heldT T clsT≠[]) (hTys:TysOk T) (hTM:TM w) (hnm:nm.length<=1000000) (hpl:∀p∈pairsE nm,p.1.length<=1000000/\p.2.length<=1000000):
  Calls Tryz.prog 99 #[.pointer (some ⟨d,0,none⟩),.string (txt nm),.int .i64 mis] w fun e w'=>EntryEnd T nm mis w e w':=by
 have hb1:=below1 w (.cells #[.string ⟨#[]⟩,.slice none 0 0] 38);have hX:=BoxE.new w ⟨#[]⟩ none 0 0 38;have hXf:∀i,(w.alloc (.cells #[.string ⟨#[]⟩,.slice none 0 0] 38)).frozen? ⟨w.heap.size,i,none⟩=false:=fun i=>World.frozen?_alloc_at _ _ _ _ rfl
 have hM1:=hM.grow hb1;obtain⟨w1,hw1⟩:∃w1,w.alloc (.cells #[.string ⟨#[]⟩,.slice none 0 0] 38)=w1:=⟨_,rfl⟩;rw[hw1] at hb1 hX hXf hM1;obtain⟨w2,hrange,hR,hg2,hs2⟩:=hM1.types.range Tryz.underlying9 Tryz.underlying178;have hb2:Below w1.heap.size w1 w2:=(Below.refl _ _).grown hg2 (Nat.le_refl _) (fun k e=>by cases e);have d0:=hM1.d0;have HM:=hide hM1;have Hnd:=hide hM1.nd;have HX:=hide hX;have HXf:=hide hXf;have HB1:=hide hb1;have HB2:=hide hb2;have HR:=hide hR;have Hfew:=hide hfew;have Hmost:=hide hmost;have Hw1:=hide hw1;have Hcls:=hide hcls;have HTys:=hide hTys;have HTM:=hide hTM;have Hpl:=hide hpl;have HFp:=hide (fun w hT=>zJs nm hnm w hT);obtain⟨N,hN⟩:∃N,txt nm=N:=⟨_,rfl⟩;have HNe:=hide hN;rw[hN] at HFp;rw[hN];clear hN;clear hM hM1 hX hXf hb1 hb2 hR hfew hcls hTys hTM hnm hpl hg2 hs2 hw1 hmost;go_enter Tryz.func99,Tryz.ntmps99;go_upto_region 1 with fail;rw[Hw1.out];obtain⟨q,hq⟩:∃q,w.heap.size=q:=⟨_,rfl⟩;rw[hq] at HX HXf;(try rw[hq]);have Hq:=hide hq;clear hq;go_wp2
 go_loopg [17] T.length (fun r s17 wx=>∃todo:Prs,todo.length=r/\Hid (MapR wx Tryz.prog 9 bt w1.heap.size (T.map tyP) todo)/\Hid (Below w1.heap.size w1 wx))
 case atStart=>exact⟨T.map tyP,by simp,HR,HB2⟩
 case round=>
  obtain⟨todo,htl,hRr,hbr⟩:=hrel;clear hrange d0 HR HB2;rcases hRr.out.next Tryz.underlying9 0 with⟨hnil,hnx⟩ | ⟨p,hp,w3,hnx,hR3,hg3,hs3,hen⟩
  rotate_left
  ·obtain ⟨t,ht,hpt⟩:=List.mem_map.1 (hRr.out.sub.subset hp);have hb3:Below w1.heap.size w1 w3:=hbr.out.grown hg3 hbr.out.size (fun k e=>by injection e with e;omega);have hM3:=HM.out.grow hb3;have hlen:=fun ty=>(hM3.each t ht).len Tryz.underlying188 ty
   rw[List.length_map] at hlen;have hcnt:=hRr.out.rest hp;have hp2:p.2=.map (some t.2.1):=by rw[<-hpt];rfl
   rw[hp2] at hnx hen;have HR3:=hide hR3;have HB3:=hide hb3;have Hcnt:=hide hcnt;have Htl:=hide htl;have h20:=Hmost.out t ht;have h20z:¬(20:Int)<(t.2.2.length:Int):=by omega
   clear hp2 hM3 hb3 hg3 hs3 hRr hR3 hbr hcnt htl hp hpt ht HM;cases gk with
   | zero=>
    exfalso;have:=Htl.out;have h2:=Hcnt.out;omega
   | succ r=>
    generalize t.2.2.length=k at *;generalize txt p.1=KN at *;generalize t.2.1=tb at *;clear h20;go_wp2
    go_roundg r
    case measure=>omega
    case rel=>exact⟨_,by have:=Htl.out;have:=Hcnt.out;omega,HR3,HB3⟩
  ·have Hbr:=hide (HB1.out.trans (hbr.out.mono HB1.out.size));have hMr:=HM.out.grow hbr.out;have hXr:=HX.out.grow hbr.out;have hfr:∀i,wr.frozen? ⟨q,i,none⟩=false:=fun i=>(hbr.out.frozen (p:=⟨q,i,none⟩) HX.out.lt).trans (HXf.out i)
   have HMr:=hide hMr;have HXr:=hide hXr;have Hfr:=hide hfr;have HCl:=hide (zCx wr hMr clsT (by decide));clear hMr hXr hfr hRr hbr htl hnil HM HX HXf;rw[show decide (heldT T clsT≠[])=true by simp[Hcls.out]] at HCl;go_wp2_with (go_at_call 150;fail);refine HCl.out.mono ?_;rintro e w4 ⟨rfl,hb4⟩;have HB4:=hTz Hbr hb4;have HM4:=hide (HMr.out.grow hb4);have HX4:=hide (HXr.out.grow hb4);have Hf4:Hid (∀i,w4.frozen? ⟨q,i,none⟩=false):=hide fun i=>(hb4.frozen (p:=⟨q,i,none⟩) HXr.out.lt).trans (Hfr.out i)
   clear hb4 HCl Hbr HMr HXr Hfr;go_wp2_with (go_at_call 105;fail);refine (HFp.out w4 (HTM.out.below HB4.out)).mono ?_;rintro e w5 hpost;obtain⟨A,c,rfl,hH,hb5⟩:=hpost.out;obtain⟨R,hR⟩:∃R,pairsE nm=R:=⟨_,rfl⟩;have HRe:=hide hR;rw[hR] at hH Hpl;rw[hR];obtain⟨n,hn⟩:∃n,R.length=n:=⟨_,rfl⟩;have Hn:=hide hn;have hnb:n<=1000000000000:=by
    have:=zO8 nm;rw[hR,hn] at this;omega
   rw[hn] at hH;rw[hn];have HB5:=hTz HB4 hb5;have HM5:=hide (HM4.out.grow hb5);have HX5:=hide (HX4.out.grow hb5);have Hf5:Hid (∀i,w5.frozen? ⟨q,i,none⟩=false):=hide fun i=>(hb5.frozen (p:=⟨q,i,none⟩) HX4.out.lt).trans (Hf4.out i)
   have HH:=hide hH;clear hpost hH hb5 hR hn HB4 HM4 HX4 Hf4 HFp;go_wp2
   go_loopg [32] n (fun r s32 wx=>∃i:Nat,i+r=n/\s32=.int .i64 (i:Int)/\Hid (AllIn T (R.take i))/\Hid (Below w5.heap.size w5 wx))
   case atStart=>exact⟨0,by omega,rfl,hide (fun p hp=>by simp at hp),hide (Below.refl _ _)⟩
   case round=>
    obtain⟨i,hig,rfl,hall,hbr⟩:=hrel;have hMr:=HM5.out.grow hbr.out;cases gk with
    | zero=>
     obtain rfl:i=n:=by omega
     have hiz:¬((i:Int)<(i:Int)):=(by omega);have Hall:Hid (AllIn T R):=hide (by have:=hall.out;rwa [List.take_of_length_le (by rw[Hn.out];exact Nat.le_refl _)] at this);have HAt:=hide (zQ1 wr hMr HTys.out);have HBr:=hide (HB5.out.trans (hbr.out.mono HB5.out.size));have HXr:=hide (HX5.out.grow hbr.out);have Hfr:Hid (∀i,wr.frozen? ⟨q,i,none⟩=false):=hide fun i=>(hbr.out.frozen (p:=⟨q,i,none⟩) HX5.out.lt).trans (Hf5.out i)
     clear hMr hall hbr HM5 HX5 Hf5 HB5 HH Hpl Hn;go_wp2_with (go_at_call 152;fail);refine HAt.out.mono ?_;rintro e w7 ⟨ks,hks,hpost⟩;obtain⟨A7,c7,ys,rfl,hc7,hm7,hH7,hE7,hb7⟩:=hpost.out;have z0:=(HXr.out.grow hb7).c0;have z1:=(HXr.out.grow hb7).c1;have hf7:∀i,w7.frozen? ⟨q,i,none⟩=false:=fun i=>(hb7.frozen (p:=⟨q,i,none⟩) HXr.out.lt).trans (Hfr.out i)
     obtain⟨kk,hkk⟩:∃kk,(attrsOf T ks).length=kk:=⟨_,rfl⟩;have Hkk:=hide hkk;have HHE:=hide (And.intro hc7 (And.intro hm7 (And.intro hH7 (And.intro hE7 (And.intro hb7 hks)))));have HB7:=hTz HBr hb7;rw[hkk];have hqw:q<wr.heap.size:=HXr.out.lt;clear hpost hc7 hm7 hH7 hE7 hb7 hks hkk HAt;go_wp2
     (try simp only[Exit.inBlock,Exit.then])
     refine bodyPost_ret (v:=.tuple #[.agg #[.string N,.slice A7 kk c7],.int .i64 0]) ?_ rfl ?_
     ·rw [results_cell_tmp rfl];go_simp
     have far:∀(p:Addr),NewB wr.heap.size w7.heap.size p.block->((w7.setCell ⟨q,0,none⟩ (.string N)).setCell ⟨q,1,none⟩ (.slice A7 kk c7)).cell? p=w7.cell? p:=fun p hp=>by
      have hne:q≠p.block:=(by have:=hp.1;omega);rw[World.cell?_setCell_far _ _ _ _ hne,World.cell?_setCell_far _ _ _ _ hne]
     have hszz:((w7.setCell ⟨q,0,none⟩ (.string N)).setCell ⟨q,1,none⟩ (.slice A7 kk c7)).heap.size=w7.heap.size:=(by simp[World.setCell]);have hnew:∀b,NewB wr.heap.size w7.heap.size b->NewB w.heap.size ((w7.setCell ⟨q,0,none⟩ (.string N)).setCell ⟨q,1,none⟩ (.slice A7 kk c7)).heap.size b:=fun b hb=>⟨Nat.le_trans HBr.out.size hb.1,by rw[hszz];exact hb.2⟩
     obtain⟨k1,k2,k3,k4,k5,k6⟩:=HHE.out;refine⟨fun _=>⟨ks,k6,⟨A7,c7,ys,by rw[HNe.out,Hkk.out],k1,k2,k3.move far hnew,k4.move far hnew,(HB7.out.setCell (p:=⟨q,0,none⟩) (by rw[Hq.out];exact Nat.le_refl _) _).setCell (p:=⟨q,1,none⟩) (by rw[Hq.out];exact Nat.le_refl _) _⟩⟩,fun hno=>absurd (by rw[HRe.out];exact Hall.out) hno⟩
    | succ r=>
     have hi:i<n:=(by omega);have hiz:(i:Int)<(n:Int):=(by omega);obtain⟨p,hp⟩:∃p,R[i]?=some p:=⟨_,List.getElem?_eq_getElem (by rw[Hn.out];exact hi)⟩;obtain⟨g,o,hAe,hg,hat⟩:=HH.out.lies (by rw[zBg,Hn.out];omega);have hx:=zJr R i p hp;have x0:=(hbr.out.cell (p:=⟨g,o+i*2,none⟩) hg).trans (hat _ _ hx.1);have x1:=(hbr.out.cell (p:=⟨g,o+(i*2+1),none⟩) hg).trans (hat _ _ hx.2);rw[<-Nat.add_assoc] at x1;have HAe:=hide hAe;subst hAe;have hpm:=List.mem_of_getElem? hp;have hplen:=Hpl.out p hpm;have hba:=below1 wr (.cells #[.string (txt p.1),.string (txt p.2)] 133);have hXb:=BoxF2.new wr (txt p.1) (txt p.2) 133;have b0:=hXb.c0;have b1:=hXb.c1;have HC:=hide (zFo _ (hMr.grow hba) p.1 p.2 hplen.1 hplen.2);have Hba:=hTz hbr hba;have Htk:Hid (R.take (i+1)=R.take i++[p]):=hide (by rw[List.take_add_one,hp];rfl);have Hpm:=hide hpm;obtain⟨K,hK⟩:∃K,txt p.1=K:=⟨_,rfl⟩;obtain⟨V,hV⟩:∃V,txt p.2=V:=⟨_,rfl⟩;rw[hK,hV] at b0 b1 HC Hba;rw[hK] at x0;rw[hV] at x1;obtain⟨f,hf⟩:∃f,(findH (heldT T p.1) p.2).isSome=f:=⟨_,rfl⟩;rw[hf] at HC;have Hf:=hide hf;clear hf hK hV hpm hplen hba hXb hat hx hp hMr hbr;go_wp2_with (go_at_call 151;fail);refine HC.out.mono ?_;rintro e w6 ⟨rfl,hb6⟩;have HB6:=hTz Hba hb6;clear hb6 HC Hba x0 x1 b0 b1;cases f with
     | true=>
      go_wp2
      go_roundg r
      case measure=>omega
      case rel=>exact⟨i+1,by omega,by go_num,hide (by rw[Htk.out];exact zOy hall.out Hf.out),HB6⟩
     | false=>
      have z0:=(HX5.out.grow HB6.out).c0;have z1:=(HX5.out.grow HB6.out).c1;have hf6:∀i,w6.frozen? ⟨q,i,none⟩=false:=fun i=>(HB6.out.frozen (p:=⟨q,i,none⟩) HX5.out.lt).trans (Hf5.out i)
      have HB7:=hide (HB5.out.trans (HB6.out.mono HB5.out.size));clear hall HM5 HX5 Hf5 HB5 HH HB6;go_wp2
      (try simp only[Exit.inBlock,Exit.then])
      refine bodyPost_ret (v:=.tuple #[.agg #[.string ⟨#[]⟩,.slice none 0 0],.int .i64 mis]) ?_ rfl ?_
      ·rw [results_cell_tmp rfl];go_simp
      refine⟨fun hyes=>?_,fun _=>zCu rfl ((HB7.out.setCell (p:=⟨q,0,none⟩) (by rw[Hq.out];exact Nat.le_refl _) _).setCell (p:=⟨q,1,none⟩) (by rw[Hq.out];exact Nat.le_refl _) _)⟩;have:=hyes p (by rw[HRe.out];exact Hpm.out);rw[Hf.out] at this;cases this
structure OkA (a:EA):Prop where
 typ:(typ a.1).1=a.1
 ne:a.1≠[]
 ok:∀v∈a.2,(valV a.1 v).2=0
 alone:AloneV a.1 a.2
structure OkE (L:List EA):Prop where
 rise:Rise L
 full:∀a∈L,a.2≠[]
 each:∀a∈L,OkA a
structure RF (L:List EA):Prop where
 rise:Rise L
 full:∀a∈L,a.2≠[]
theorem RF.set {L:List EA} (h:RF L) (t:List UInt8) (vs:List (List UInt8)):RF (setE L t vs):=⟨zNm h.rise t vs,zMs h.full t vs⟩
theorem set_set {L:List EA} (h:RF L) (t:List UInt8) (x y:List (List UInt8)):setE (setE L t x) t y=setE L t y:=
 zIs ((h.set t x).set t y).rise (h.set t y).rise ((h.set t x).set t y).full (h.set t y).full fun u=>by
  rw[zC2,zC2,zC2];split<;>rfl
theorem set_own {L:List EA} (h:RF L) (t:List UInt8):setE L t (pickE L t)=L:=
 zIs (h.set t _).rise h.rise (h.set t _).full h.full fun u=>by
  rw[zC2];split
  ·rename_i e;rw[e]
  ·rfl
noncomputable def gatherL:List EA->List UInt8->List (List UInt8)->List EA × Int
 | L,t,[]=>(L,0)
 | L,t,v::vs=>if (valV t v).2≠0 then ([],21) else @ite _ (WithinV t (pickE L t) v) (Classical.propDecidable _) ([],20) (gatherL (setE L t (pickE L t++[v])) t vs)
theorem zH0 {t:List UInt8}:∀(vs:List (List UInt8)) (L:List EA),RF L->(gatherL L t vs).2=(gatherV t (pickE L t) vs).2/\((gatherL L t vs).2=0->(gatherL L t vs).1=setE L t (gatherV t (pickE L t) vs).1)
 | [],L,h=>by
  unfold gatherL gatherV;exact⟨rfl,fun _=>(set_own h t).symm⟩
 | v::vs,L,h=>by
  unfold gatherL gatherV;by_cases h1:(valV t v).2≠0
  ·rw [if_pos h1,if_pos h1];exact⟨rfl,fun q=>by simp at q⟩
  ·rw [if_neg h1,if_neg h1];by_cases h2:WithinV t (pickE L t) v
   ·rw [if_pos h2,if_pos h2];exact⟨rfl,fun q=>by simp at q⟩
   ·rw [if_neg h2,if_neg h2];have ih:=zH0 (t:=t) vs _ (h.set t (pickE L t++[v]));rw[zC2,if_pos rfl] at ih;refine⟨ih.1,fun q=>?_⟩;rw[ih.2 q,set_set h]
noncomputable def gather1 (L:List EA) (a:EA):List EA × Int:=
 if (typ a.1).2=0 then ([],17) else if a.2=[] then ([],19) else gatherL L (typ a.1).1 a.2
noncomputable def gatherA:List EA->List EA->List EA × Int
 | L,[]=>(L,0)
 | L,a::r=>if (gather1 L a).2≠0 then ([],(gather1 L a).2) else gatherA (gather1 L a).1 r
theorem zO9 {t:List UInt8}:∀(vs:List (List UInt8)) (L:List EA),RF L->RF (gatherL L t vs).1:=by
 have h0:RF []:=⟨.nil,fun a ha=>by simp at ha⟩;intro vs
 induction vs with
 | nil=>intro L h;unfold gatherL;exact h
 | cons v vs ih=>
  intro L h;unfold gatherL;split
  ·exact h0
  ·split
   ·exact h0
   ·exact ih _ (h.set t _)
theorem zOp {L:List EA} (h:RF L) (a:EA):RF (gather1 L a).1:=by
 have h0:RF []:=⟨.nil,fun a ha=>by simp at ha⟩;unfold gather1;split
 ·exact h0
 ·split
  ·exact h0
  ·exact zO9 _ _ h
theorem zHv:∀(A L:List EA),RF L->gatherA L A=gatherE L A
 | [],L,h=>by unfold gatherA gatherE;rfl
 | a::r,L,h=>by
  unfold gatherA gatherE;have hr:=zOp h a;unfold gather1 at hr ⊢;by_cases h1:(typ a.1).2=0
  ·rw [if_pos h1,if_pos h1,if_pos (by simp)]
  ·rw [if_neg h1] at hr ⊢;rw[if_neg h1];by_cases h2:a.2=[]
   ·rw [if_pos h2,if_pos h2,if_pos (by simp)]
   ·rw [if_neg h2] at hr ⊢;rw[if_neg h2];obtain⟨e1,e2⟩:=zH0 (t:=(typ a.1).1) a.2 L h;simp only;rw[<-e1];by_cases h3:(gatherL L (typ a.1).1 a.2).2≠0
    ·rw [if_pos h3,if_pos h3]
    ·rw [if_neg h3,if_neg h3,<-e2 (by simpa using h3)];exact zHv r _ hr
structure NewDraft (w:World) (e:Ending) (w':World):Prop where
 out:∃d,e=.returned (.pointer (some ⟨d,0,none⟩))/\Draft w' w.heap.size d 0 []/\Below w.heap.size w w'
theorem zQo (w:World) (t:TypeId):Draft ((w.alloc (.map #[] 0)).alloc (.cells #[.map (some w.heap.size),.int .i64 0] t)) w.heap.size (w.heap.size+1) 0 []:=by
 have hs:(w.alloc (.map #[] 0)).heap.size=w.heap.size+1:=by simp
 have hm:=MapL.made w Tryz.prog 9;have hb:Below (w.alloc (.map #[] 0)).heap.size (w.alloc (.map #[] 0)) ((w.alloc (.map #[] 0)).alloc (.cells #[.map (some w.heap.size),.int .i64 0] t)):=(Below.refl _ _).alloc (Nat.le_refl _) _;refine⟨⟨w.heap.size,[],⟨?_,?_,?_,hm.below hm.lt hb,fun t ht=>by simp at ht,by simp,by omega,Nat.le_refl _,fun t ht=>by simp at ht⟩,DraftP.nil,by simp,fun t ht=>by simp at ht⟩⟩
 ·rw [<-hs,World.cell?_alloc_at (hn:=by simp)];rfl
 ·rw [<-hs,World.cell?_alloc_at (hn:=by simp)];rfl
 ·intro i;rw[<-hs];exact World.frozen?_alloc_at _ _ _ _ rfl
theorem zK9 (w:World):Calls Tryz.prog 97 #[.slice none 0 0] w (NewDraft w):=by
 have hmm:=@run_makeMap Tryz.prog;have hD:=zQo w 180;have hB:Below w.heap.size w ((w.alloc (.map #[] 0)).alloc (.cells #[.map (some w.heap.size),.int .i64 0] 180)):=((Below.refl _ w).alloc (Nat.le_refl _) _).alloc (by simp) _;have HD:=hide hD;have HB:=hide hB;clear hD hB;go_enter Tryz.func97,Tryz.ntmps97;go_wp2
 go_loopg [15] 0 (fun r s15 wx=>s15=.int .i64 0/\wx=(w.alloc (.map #[] 0)).alloc (.cells #[.map (some w.heap.size),.int .i64 0] 180))
 case atStart=>exact⟨rfl,rfl⟩
 case round=>obtain⟨rfl,rfl⟩:=hrel;go_wp2;go_ret;exact⟨_,rfl,HD.out,HB.out⟩
end Go.Proofs.YtdkekamkmlpnhaaGreatDoor
namespace Go.Proofs.YtdkekamkmlpnhaaGreatDoor
open Go.RowKit
end Go.Proofs.YtdkekamkmlpnhaaGreatDoor
