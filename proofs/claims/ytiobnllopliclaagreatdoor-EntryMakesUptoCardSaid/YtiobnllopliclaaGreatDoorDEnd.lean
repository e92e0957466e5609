/- The end of a draft, told of the attributes that it stands for. By an AI agent. -/
import Derived.Test.YtiobnllopliclaaGreatDoorDY
import Derived.Test.YtiobnllopliclaaGreatDoorDPutL
namespace Go.Proofs.YtiobnllopliclaaGreatDoor
open Go Go.RowKit Go.Maps
set_option linter.unusedVariables false
set_option linter.unusedSimpArgs false
theorem valV_raw {t v n:List UInt8} (h:valV t v=(n,0)):v.length≤200:=by
 by_cases q:v.length≤200
 ·exact q
 ·exfalso
  have hv:200<v.length:=by omega
  unfold valV at h
  by_cases h5:(typ t).2≠5
  ·rw [if_pos h5] at h
   unfold norm at h
   by_cases h0:(typ t).2=0
   ·rw [if_pos h0] at h
    simp at h
   ·rw [if_neg h0,if_neg h5,if_pos (.inr (.inl hv))] at h
    simp at h
  ·rw [if_neg h5,if_pos (.inr hv)] at h
   simp at h
theorem pick_own {L:List EA} (h:Rise L):∀a∈L,pickE L a.1=a.2:=by
 induction L with
 | nil=>intro a ha;simp at ha
 | cons b K ih=>
  obtain⟨h1,h2⟩:=List.pairwise_cons.1 h
  intro a ha
  rcases List.mem_cons.1 ha with rfl | ha
  ·simp [pickE]
  ·simp only[pickE]
   rw[if_neg fun q=>by have:=h1 a ha;rw[q] at this;exact List.lt_irrefl _ this]
   exact ih h2 a ha
theorem pick_at {K:List EA} {u:List UInt8} (hu:pickE K u≠[]):(u,pickE K u)∈K:=by
 induction K with
 | nil=>simp[pickE] at hu
 | cons b K ih=>
  simp only[pickE] at hu ⊢
  split
  ·rename_i q
   subst q
   simp
  ·rename_i q
   rw[if_neg q] at hu
   exact List.mem_cons_of_mem _ (ih hu)
theorem DraftP.attrs {T:List Ty} {nx:Nat} {L:List EA} (h:DraftP T nx L) {ks:List (List UInt8)} (hk:KeysOk T ks):attrsOf T ks=L:=by
 have hmem:∀a∈attrsOf T ks,a.1∈ks∧heldT T a.1≠[]∧a.2=(heldT T a.1).map fun h:Hd=>h.2.1:=by
  intro a ha
  unfold attrsOf at ha
  obtain⟨k,hk1,rfl⟩:=List.mem_map.1 ha
  obtain⟨k1,k2⟩:=List.mem_filter.1 hk1
  exact⟨k1,by simpa using k2,rfl⟩
 have hrise:Rise (attrsOf T ks):=by
  unfold Rise attrsOf
  rw[List.pairwise_map]
  exact (hk.rise.filter _).imp fun {a b} q=>q
 have hfull:∀a∈attrsOf T ks,a.2≠[]:=fun a ha=>by
  obtain⟨_,h2,h3⟩:=hmem a ha
  rw[h3]
  simpa using h2
 refine rise_ext hrise h.rise hfull h.full fun u=>?_
 rw[h.pick]
 by_cases hu:heldT T u=[]
 ·rw [hu]
  by_cases hp:pickE (attrsOf T ks) u=[]
  ·rw [hp];rfl
  ·exact absurd hu (hmem _ (pick_at hp)).2.1
 ·have huk:u∈ks:=by
   rw[hk.mem]
   unfold heldT at hu
   cases hf:findT T u with
   | none=>rw[hf] at hu;exact absurd rfl hu
   | some t=>rfl
  have hin:(u,(heldT T u).map fun h:Hd=>h.2.1)∈attrsOf T ks:=by
   unfold attrsOf
   exact List.mem_map.2 ⟨u,List.mem_filter.2 ⟨huk,by simpa using hu⟩,rfl⟩
  exact pick_own hrise _ hin
theorem DraftP.many {T:List Ty} {nx:Nat} {L:List EA} (h:DraftP T nx L) (hnd:T.Pairwise fun a b=>a.1≠b.1):(∃a∈L,20<a.2.length)↔∃t∈T,20<t.2.2.length:=by
 constructor
 ·rintro ⟨a,ha,h20⟩
  have e:=pick_own h.rise a ha
  rw[h.pick] at e
  rw[←e,List.length_map] at h20
  unfold heldT at h20
  cases hf:findT T a.1 with
  | none=>rw[hf] at h20;simp at h20
  | some t=>rw[hf] at h20;exact⟨t,(findT_some hf).1,h20⟩
 ·rintro ⟨t,ht,h20⟩
  have hf:=findT_of hnd ht
  have e:pickE L t.1=t.2.2.map fun h:Hd=>h.2.1:=by rw[h.pick];unfold heldT;rw[hf]
  have hne:pickE L t.1≠[]:=by rw[e];intro q;rw[List.map_eq_nil_iff] at q;rw[q] at h20;simp at h20
  exact⟨_,pick_at hne,by simp only;rw[e,List.length_map];exact h20⟩
theorem DraftP.named {T:List Ty} {nx:Nat} {L:List EA} (h:DraftP T nx L) {nm:List UInt8} (hn:normT nm=(nm,0)) (hne:nm≠[]):AllIn T (pairsE nm)↔NamedR nm L:=by
 rw[pairs_named hn hne]
 have key:∀p∈pairsE nm,(findH (heldT T p.1) p.2).isSome=true↔HasE L p.1 p.2:=by
  intro p hp
  obtain⟨h1,h2⟩:=pairs_normal hn p hp
  rw[h.has h1]
  unfold HasE valuesE
  have h0:(typ p.1).2≠0:=by
   intro q
   unfold valV at h1
   rw[if_pos (by omega)] at h1
   unfold Go.Proofs.YtiobnllopliclaaGreatDoor.norm at h1
   rw[if_pos q] at h1
   simp at h1
  rw[if_neg h0,h2]
 exact⟨fun q p hp=>(key p hp).1 (q p hp),fun q p hp=>(key p hp).2 (q p hp)⟩
structure DoneE (nm:List UInt8) (L:List EA) (mis:Int) (w:World) (e:Ending) (w':World):Prop where
 ok:endE nm L mis=0→MadePost nm L 0 w e w'
 bad:endE nm L mis≠0→MadePost [] [] (endE nm L mis) w e w'
theorem end_any {B d nx:Nat} {L:List EA} (w:World) (h:Draft w B d nx L) (nm:List UInt8) (hn:normT nm=(nm,0)) (hne:nm≠[]) (mis:Int) (hmis:mis≠0) (hT:TM w) (hnx:nx≤1000000):
  Calls Tryz.prog 34 #[.pointer (some ⟨d,0,none⟩),.string (txt nm),.int .i64 mis] w (DoneE nm L mis w):=by
 obtain⟨bt,T,hM,hP,hl,he⟩:=h.out
 have hfew:T.length≤1000000∧∀t∈T,t.2.2.length≤1000000:=⟨by omega,fun t ht=>by have:=(he t ht).1;omega⟩
 have hnml:nm.length≤1000000:=by
  have:=(norm_again (l:=nm) (by rw[hn])).2
  rw[hn] at this
  simp only at this
  omega
 by_cases hmany:∃t∈T,20<t.2.2.length
 ·have hc:endE nm L mis=19:=by unfold endE;rw[if_pos ((hP.many hM.nd).2 hmany)]
  refine (entry_many w hM (txt nm) mis hmany hfew).mono ?_
  rintro e w' ⟨h1,h2⟩
  exact⟨fun q=>by rw[hc] at q;exact absurd q (by decide),fun _=>by rw[hc];exact made_none h1 h2⟩
 ·have hmost:∀t∈T,¬20<t.2.2.length:=fun t ht q=>hmany ⟨t,ht,q⟩
  have hm2:¬∃a∈L,20<a.2.length:=fun q=>hmany ((hP.many hM.nd).1 q)
  have hcls:heldT T clsT=[]↔pickE L clsT=[]:=by rw[hP.pick,List.map_eq_nil_iff]
  by_cases hc0:heldT T clsT=[]
  ·have hc:endE nm L mis=65:=by unfold endE;rw[if_neg hm2,if_pos (hcls.1 hc0)]
   refine (entry_nocls w hM (txt nm) mis hmost hfew hc0).mono ?_
   rintro e w' ⟨h1,h2⟩
   exact⟨fun q=>by rw[hc] at q;exact absurd q (by decide),fun _=>by rw[hc];exact made_none h1 h2⟩
  ·have hTys:TysOk T:=⟨by omega,fun t ht=>(he t ht).2,fun t ht=>by have:=(he t ht).1;omega,fun t ht x hx=>by
    have hf:=findT_of hM.nd ht
    have hin:x∈heldT T t.1:=by unfold heldT;rw[hf];exact hx
    have:=valV_raw (hP.norm t.1 x hin)
    omega,fun t ht=>by
    have hf:=findT_of hM.nd ht
    have:=hP.place t.1
    unfold heldT at this
    rw[hf] at this
    exact this⟩
   have hpl:∀p∈pairsE nm,p.1.length≤1000000∧p.2.length≤1000000:=fun p hp=>by
    obtain⟨h1,h2⟩:=pairs_normal hn p hp
    have:=valV_raw h1
    have h3:=typ_short h2
    exact⟨h3,by omega⟩
   refine (entry_pairs w hM nm mis hmost hfew hc0 hTys hT hnml hpl).mono ?_
   intro e w' hE
   have hcode:endE nm L mis=@ite _ (NamedR nm L) (Classical.propDecidable _) 0 mis:=by unfold endE;rw[if_neg hm2,if_neg (fun q=>hc0 (hcls.2 q))]
   by_cases hnamed:NamedR nm L
   ·rw [if_pos hnamed] at hcode
    obtain⟨ks,hk,hmp⟩:=hE.yes ((hP.named hn hne).2 hnamed)
    rw[hP.attrs hk] at hmp
    exact⟨fun _=>hmp,fun q=>absurd hcode q⟩
   ·rw [if_neg hnamed] at hcode
    have hmp:=hE.no fun q=>hnamed ((hP.named hn hne).1 q)
    exact⟨fun q=>by rw[hcode] at q;exact absurd q hmis,fun _=>by rw[hcode];exact hmp⟩
end Go.Proofs.YtiobnllopliclaaGreatDoor
